/-
  Parts of a proof, joined.
-/
import Derived.Test.YtdioiilmpjckfaaZt12
import Derived.Test.YtdioiilmpjckfaaZt01
import Derived.Deep.AppendLies
import Derived.Deep.DeepCutAuto
namespace Go.Proofs.Ytdioiilmpjckfaa
open Go.ChangeShapes Go.WideShapes Go.ChangeAt Go.RowKit
set_option linter.unusedVariables false
set_option maxRecDepth 100000
def Tw (g : Nat) (v : Value) (k : Nat) : Prop := k = g ∨ v.ownBlock = some k
structure Wr (g : Nat) (xs : List UInt8) (v : Value) (W : World) : Prop where
  b : Bx W g [v]
  o : W.ownsRow (g + 1) 5 1 v xs.length (bcs xs)
section
variable {g : Nat} {xs ys : List UInt8} {v : Value} {W w1 : World}
theorem Wr.kept (h : Wr g xs v W) (hb : Below W.heap.size W w1) : Wr g xs v w1 := ⟨h.b.kept hb, own_kept h.o hb⟩
theorem Wr.drew (h : Wr g xs v W) : Wr g xs v W.drew := h.kept (st0 W).drew
theorem Wr.over (h : Wr g xs v W) (o : Obj) : Wr g xs v (W.alloc o) := h.kept (stA (st0 W) o)
theorem Wr.far (h : Wr g xs v W) : ∀ k, Tw g v k → g ≤ k ∧ k < W.heap.size := fun k hk => by
  rcases hk with rfl | hk
  · exact ⟨Nat.le_refl _, h.b.z⟩
  · have := h.o.lt k hk
    exact ⟨by omega, this.2⟩
theorem Wr.new (h : Wr g xs v W) {k : Nat} (hk : W.heap.size ≤ k) : ¬ Tw g v k := fun ht => by have := (h.far k ht).2; omega
theorem Wr.low (h : Wr g xs v W) {k : Nat} (hk : k < g) : ¬ Tw g v k := fun ht => by have := (h.far k ht).1; omega
theorem Wr.slice (h : Wr g xs v W) : ∃ a c, v = .slice a xs.length c := slice_len (slice_of_own h.o)
theorem Wr.grow {l : List UInt8} {w3 : World} {gg n cap : Nat} (h : Wr g ys v W) (hown : w3.ownsRow (g + 1) 5 1 (.slice (some ⟨gg, 0, none⟩) n cap) n (bcs ys ++ bcs l)) (hn : n = ys.length + l.length) (hg : W.grownBy w3 v.ownBlock) (hor : v.ownBlock = some gg ∨ gg = W.heap.size) :
    Wr g (ys ++ l) (.slice (some ⟨gg, 0, none⟩) n cap) (w3.setCell ⟨g, 0, none⟩ (.slice (some ⟨gg, 0, none⟩) n cap)) ∧ Mv g (Tw g v) (Tw g (.slice (some ⟨gg, 0, none⟩) n cap)) W (w3.setCell ⟨g, 0, none⟩ (.slice (some ⟨gg, 0, none⟩) n cap)) := by
  have hne : gg ≠ g := by
    have := (hown.lt gg rfl).1
    omega
  have hgo : some g ≠ v.ownBlock := fun e => by have := (h.o.lt g e.symm).1; omega
  have hb3 : Bx w3 g [v] := h.b.same hg.size (hg.block g h.b.z hgo)
  have hn2 : n = (ys ++ l).length := by rw [List.length_append, hn]
  subst hn2
  refine ⟨⟨hb3.set 0 _ (by simp), ?_⟩, ?_, ?_, ?_⟩
  · refine own_of_block (w := w3) (by rw [← bcs_append]; exact hown) (fun k hk => Below.heap_setCell _ _ _ _ (fun e => ?_))
    cases hk
    exact hne e
  · exact (bl_grown hg (Nat.le_of_lt h.b.z) (fun k hk => by have := (h.o.lt k hk).1; omega)).setCell (Nat.le_refl _) _
  · intro k hk ht
    rw [Below.heap_setCell _ _ _ _ (fun e => ht (Or.inl e))]
    exact hg.block k hk (fun e => ht (Or.inr e.symm))
  · intro k hk
    rcases hk with rfl | hk
    · exact Or.inl (Or.inl rfl)
    · cases hk
      rcases hor with e | e
      · exact Or.inl (Or.inr e)
      · exact Or.inr (Nat.le_of_eq e.symm)
theorem Wr.app {x : Int} {w3 : World} {gg cap : Nat} (h : Wr g ys v W) (hown : w3.ownsRow (g + 1) 5 1 (.slice (some ⟨gg, 0, none⟩) (ys.length + 1) cap) (ys.length + 1) (bcs ys ++ [.int .u8 x])) (hg : W.grownBy w3 v.ownBlock) (hor : v.ownBlock = some gg ∨ gg = W.heap.size) :
    w3.cell? ⟨g, 0, none⟩ = some v ∧ (∀ k o, k < W.heap.size → ¬ Tw g v k → w3.cell? ⟨k, o, none⟩ = W.cell? ⟨k, o, none⟩) ∧ g < w3.heap.size ∧ w3.frozen? ⟨g, 0, none⟩ = false ∧
    (0 ≤ x ∧ x ≤ 255 → Wr g (ys ++ [b8 x]) (.slice (some ⟨gg, 0, none⟩) (ys.length + 1) cap) (w3.setCell ⟨g, 0, none⟩ (.slice (some ⟨gg, 0, none⟩) (ys.length + 1) cap)) ∧ Mv g (Tw g v) (Tw g (.slice (some ⟨gg, 0, none⟩) (ys.length + 1) cap)) W (w3.setCell ⟨g, 0, none⟩ (.slice (some ⟨gg, 0, none⟩) (ys.length + 1) cap))) := by
  have hgo : some g ≠ v.ownBlock := fun e => by have := (h.o.lt g e.symm).1; omega
  have hb3 : Bx w3 g [v] := h.b.same hg.size (hg.block g h.b.z hgo)
  refine ⟨hb3.at 0 _ rfl, fun k o hk ht => World.cell?_of_block (w := W) (hg.block k hk (fun e => ht (Or.inr e.symm))), hb3.z, hb3.f 0, fun hx => ?_⟩
  have e : [Value.int .u8 x] = bcs [b8 x] := by simp [bcs, b8_nat hx]
  rw [e] at hown
  exact h.grow hown (by simp) hg hor
end
theorem new1 (w : World) (x : Int) (t : TypeId) {b : Nat} (hb : b = w.heap.size) : ∀ j u, ([Value.int .u8 x] : List Value)[j]? = some u → (w.alloc (.cells #[.int .u8 x] t)).cell? ((⟨b, 0, none⟩ : Addr).add j) = some u := fun j u hj => by
  match j, hj with
  | 0, hj =>
    simp only [List.getElem?_cons_zero, Option.some.injEq] at hj
    subst hj hb
    rw [addr_add]
    exact (Pl.new _ _ _ _ rfl).trans rfl
theorem one1 (x : Int) : ∀ u ∈ ([Value.int .u8 x] : List Value), u.oneCell' = true := fun u hu => by
  rcases List.mem_singleton.1 hu with rfl
  rfl
structure Pb where
  b : Nat
  o : Nat
  x : Int
structure Pb.at (g : Nat) (v : Value) (k j : Nat) (W : World) (p : Pb) : Prop where
  q : W.cell? ⟨k, j, none⟩ = some (pt p.b p.o)
  c : W.cell? ⟨p.b, p.o, none⟩ = some (.int .u8 p.x)
  t : ¬ Tw g v p.b
  bd : 0 ≤ p.x ∧ p.x ≤ 255
set_option maxHeartbeats 1600000 in
theorem Sv.wbytes (g k cap : Nat) (xs : List UInt8) (v : Value) (ps : List Pb) (W : World) (h : Wr g xs v W) (hk : ¬ Tw g v k) (hp : ∀ j p, ps[j]? = some p → Pb.at g v k j W p) (hl : xs.length + ps.length ≤ 50000) :
    Calls Try.prog 104 #[pt g 0, .slice (some ⟨k, 0, none⟩) ps.length cap] W fun e w' => e = .returned (.tuple #[]) ∧ ∃ v', Wr g (xs ++ ps.map (fun p => b8 p.x)) v' w' ∧ Mv g (Tw g v) (Tw g v') W w' := by
  obtain ⟨i0, hi0, hz0, hz1, hz2⟩ := info_parts info_byte
  have H := hid h
  have HP := hid hp
  have HK := hid hk
  clear h hp hk
  go_enter Try.func104, Try.ntmps104
  go_wp2
  go_loopw [8] (fun i wr => ∃ (j : Nat) (v1 : Value), j ≤ ps.length ∧ i = .int .i64 j ∧ Wr g (xs ++ (ps.take j).map (fun p => b8 p.x)) v1 wr ∧ Mv g (Tw g v) (Tw g v1) W wr) (fun i _ => ps.length - (intOf i).toNat)
  case atStart => exact ⟨0, v, Nat.zero_le _, rfl, by simpa using H.out, Mv.refl _ _ _⟩
  case round =>
    obtain ⟨j, v1, hj, rfl, hR, hM⟩ := hrel
    obtain ⟨ys, hys⟩ : ∃ ys, ys = xs ++ (ps.take j).map (fun p => b8 p.x) := ⟨_, rfl⟩
    rw [← hys] at hR
    by_cases hlt : j < ps.length
    · obtain ⟨p, hpj⟩ : ∃ p, ps[j]? = some p := ⟨_, List.getElem?_eq_getElem hlt⟩
      have hq := HP.out j p hpj
      have hkz : k < W.heap.size := World.block_lt_of_cell? W _ hq.q
      have hpz : p.b < W.heap.size := World.block_lt_of_cell? W _ hq.c
      have c2 : wr.cell? ⟨k, j, none⟩ = some (pt p.b p.o) := (hM.cell hkz HK.out j).trans hq.q
      have c1 : wr.cell? ⟨p.b, p.o, none⟩ = some (.int .u8 p.x) := (hM.cell hpz hq.t p.o).trans hq.c
      have hkz2 := Nat.lt_of_lt_of_le hkz hM.size
      have hpz2 := Nat.lt_of_lt_of_le hpz hM.size
      have hyl : ys.length ≤ 50000 := by rw [hys, List.length_append, List.length_map, List.length_take]; omega
      have hys2 : xs ++ (ps.take (j + 1)).map (fun p => b8 p.x) = ys ++ [b8 p.x] := by rw [hys, List.take_add_one, hpj, List.map_append, List.append_assoc]; rfl
      have HYS := hid hys2
      have HX := hid hq.bd
      have ht1 : ¬ Tw g v1 p.b := fun ht => by
        rcases hM.fresh _ ht with x | x
        · exact hq.t x
        · omega
      have HT1 := hid ht1
      obtain ⟨ua, uc, e⟩ := hR.slice
      subst e
      have c0 := hR.b.at 0 _ rfl
      have HA := hid (hR.drew.over (.cells #[.int .u8 p.x] 5))
      have hc1a : ((wr.drew).alloc (.cells #[.int .u8 p.x] 5)).cell? ⟨p.b, p.o, none⟩ = some (.int .u8 p.x) := by rw [← c1]; exact (stA (st0 wr).drew _).cell (p := ⟨p.b, p.o, none⟩) hpz2
      have c1a := hc1a
      have hgz := hR.b.z
      have HR := hid hR
      have HM := hid hM
      have hjl : (j : Int) < ps.length := by omega
      have hj0 : (0 : Int) ≤ j := by omega
      have hpl : (ps.length : Int) ≤ 50000 := by omega
      clear hq hR hM hys hys2 hpj hc1a ht1
      go_upto_region 3 with fail
      refine wp_region_G (S := fun w' => w'.cell? ⟨g, 0, none⟩ = some (.slice ua ys.length uc) ∧ w'.cell? ⟨p.b, p.o, none⟩ = some (.int .u8 p.x)) (st := 12) (by kernel_rfl) ?_
      have hS : wr.drew.cell? ⟨g, 0, none⟩ = some (.slice ua ys.length uc) ∧ wr.drew.cell? ⟨p.b, p.o, none⟩ = some (.int .u8 p.x) := ⟨c0, c1⟩
      refine wpAnyG_pure (i := 0) (oi := ⟨some 12, _, _, _, _, none⟩) (v := ?_) rfl (by kernel_rfl) (by kernel_rfl) (by kernel_rfl) (by decide) (fun _ _ _ h => h) (Or.inl ⟨by rfl, ?_⟩) (fun _ => hS) ?_
      rotate_left 1
      focus (intro w hSw; go_simp; try (with_reducible rfl))
      simp only [Act.put, xA, xB, xC]
      refine wpAnyG_pure (i := 1) (oi := ⟨some 13, _, _, _, _, none⟩) (v := ?_) rfl (by kernel_rfl) (by kernel_rfl) (by kernel_rfl) (by decide) (fun _ _ _ h => h) (Or.inl ⟨by rfl, ?_⟩) (fun _ => hS) ?_
      rotate_left 1
      focus (intro w hSw; go_simp; try (with_reducible rfl))
      simp only [Act.put, xA, xB, xC]
      refine wpAnyG_pure (i := 2) (oi := ⟨some 14, _, _, _, _, none⟩) (v := ?_) rfl (by kernel_rfl) (by kernel_rfl) (by kernel_rfl) (by decide) (fun _ _ _ h => h) (Or.inl ⟨by rfl, ?_⟩) (fun _ => hS) ?_
      rotate_left 1
      focus (intro w hSw; go_simp; try (with_reducible rfl))
      simp only [Act.put, xA, xB, xC]
      refine wpAnyG_pure (i := 3) (oi := ⟨some 15, _, _, _, _, none⟩) (v := ?_) rfl (by kernel_rfl) (by kernel_rfl) (by kernel_rfl) (by decide) (fun _ _ _ h => h) (Or.inl ⟨by rfl, ?_⟩) (fun _ => hS) ?_
      rotate_left 1
      focus (intro w hSw; go_simp; try (with_reducible rfl))
      simp only [Act.put, xA, xB, xC]
      refine wpAnyG_pure (i := 5) (oi := ⟨some 17, _, _, _, _, none⟩) (v := ?_) rfl (by kernel_rfl) (by kernel_rfl) (by kernel_rfl) (by decide) (fun _ _ _ h => h) (Or.inl ⟨by rfl, ?_⟩) (fun _ => hS) ?_
      rotate_left 1
      focus (intro w hSw; go_simp; try (with_reducible rfl))
      simp only [Act.put, xA, xB, xC]
      refine wpAnyG_pure (i := 6) (oi := ⟨some 18, _, _, _, _, none⟩) (v := ?_) rfl (by kernel_rfl) (by kernel_rfl) (by kernel_rfl) (by decide) (fun _ _ _ h => h) (Or.inl ⟨by rfl, ?_⟩) (fun _ => hS) ?_
      rotate_left 1
      focus (intro w hSw; go_simp; try (with_reducible rfl))
      simp only [Act.put, xA, xB, xC]
      refine wpAnyG_take (i := 4) (oi := ⟨some 16, _, _, _, _, none⟩) (v := .slice ua ys.length uc) rfl (by kernel_rfl) (by kernel_rfl) (by kernel_rfl) (by kernel_rfl) (by decide) (by kernel_rfl) (fun _ _ _ h => h) (Or.inl ⟨by rfl, ?_⟩) hS ?_
      · intro w' hSw
        have hcc := hSw.1
        have hcz := World.block_lt_of_cell? w' _ hcc
        go_simp
        try (with_reducible rfl)
      simp only [Act.put, xA, xB, xC]
      refine wpAnyG_take (i := 7) (oi := ⟨some 19, _, _, _, _, none⟩) (v := .int .u8 p.x) rfl (by kernel_rfl) (by kernel_rfl) (by kernel_rfl) (by kernel_rfl) (by decide) (by kernel_rfl) (fun _ _ _ h => h) (Or.inl ⟨by rfl, ?_⟩) hS ?_
      · intro w' hSw
        have hcc := hSw.2
        have hcz := World.block_lt_of_cell? w' _ hcc
        go_simp
        try (with_reducible rfl)
      simp only [Act.put, xA, xB, xC]
      clear hS
      refine wpAnyG_one (i := 8) (o := ⟨some 20, _, _, _, _, none⟩) (by kernel_rfl) rfl (fun K hK => ?_)
      go_simp
      refine hK.out _ _ (fun _ => ⟨HA.out.b.at 0 _ rfl, c1a⟩) ?_
      clear hK K
      try simp only [Act.put, xA, xB, xC]
      refine wpAnyG_one (i := 9) (o := ⟨some 21, _, _, _, _, none⟩) (by kernel_rfl) rfl (fun K hK => ?_)
      refine step_append_lies _ (by rfl) (.tmp 16) (.tmp 20) 26 (by rfl) (g + 1) 5 i0 _ 1 1 Try.underlying26 hi0 hz0 hz1 hz2 rfl (by omega) (.slice ua ys.length uc) ys.length (bcs ys) rfl HA.out.o ⟨wr.heap.size, 0, none⟩ 1 1 [.int .u8 p.x] rfl rfl (new1 _ _ _ (by simp)) (one1 _) (by omega) (by unfold maxLen; omega) (by omega) HA.out.b.z _ rfl ?_
      intro gg cap w3 hown hgrow hor hz3
      have HW := hid (HA.out.app (x := p.x) (by exact hown) hgrow hor)
      have c1b := (HW.out.2.1 p.b p.o (by simp; omega) HT1.out).trans c1a
      have c0b := HW.out.1
      have gzb := HW.out.2.2.1
      have gfb := HW.out.2.2.2.1
      refine hK.out _ _ (fun _ => ⟨c0b, c1b⟩) ?_
      clear hK K
      try simp only [Act.put, xA, xB, xC]
      refine wpAnyG_pure (i := 10) (oi := ⟨some 22, _, _, _, _, none⟩) (v := ?_) rfl (by kernel_rfl) (by kernel_rfl) (by kernel_rfl) (by decide) (fun _ _ _ h => h) (Or.inl ⟨by rfl, ?_⟩) (fun _ => ⟨c0b, c1b⟩) ?_
      rotate_left 1
      focus (intro w hSw; go_simp; try (with_reducible rfl))
      simp only [Act.put, xA, xB, xC]
      refine wpAnyG_pure (i := 11) (oi := ⟨some 23, _, _, _, _, none⟩) (v := ?_) rfl (by kernel_rfl) (by kernel_rfl) (by kernel_rfl) (by decide) (fun _ _ _ h => h) (Or.inl ⟨by rfl, ?_⟩) (fun _ => ⟨c0b, c1b⟩) ?_
      rotate_left 1
      focus (intro w hSw; go_simp; try (with_reducible rfl))
      simp only [Act.put, xA, xB, xC]
      refine wpAnyG_one (i := 12) (o := ⟨none, _, _, _, _, none⟩) (by kernel_rfl) rfl (fun K hK => ?_)
      go_simp
      refine hK.out _ _ (fun h => by cases h) ?_
      clear hK K
      try simp only [Act.put, xA, xB, xC]
      refine wpAnyG_done (by kernel_rfl) ?_ _
      obtain ⟨q1, q2⟩ := HW.out.2.2.2.2 HX.out
      have q3 := (Mv.of_below (T := Tw g (.slice ua ys.length uc)) (Nat.le_of_lt hgz) (stA (st0 wr).drew _)).trans q2
      go_wp2
      exact ⟨⟨j + 1, _, by omega, by simp, by rw [HYS.out]; exact q1, HM.out.trans q3⟩, by simp [intOf]; omega⟩
    · have hj2 : j = ps.length := by omega
      subst hj2
      have hnl : ¬ (ps.length : Int) < ps.length := by omega
      rw [List.take_length] at hys
      have HR := hid hR
      have HM := hid hM
      have HYS := hid hys
      clear hR hM hys
      go_wp2
      go_end0
      exact ⟨rfl, v1, by rw [← HYS.out]; exact HR.out, HM.out⟩
end Go.Proofs.Ytdioiilmpjckfaa
