/-
  Parts of a proof, joined.
-/
import Derived.Test.YtdioiilmpjckfaaZt14
namespace Go.Proofs.Ytdioiilmpjckfaa
open Go.ChangeShapes Go.WideShapes Go.ChangeAt Go.RowKit
set_option linter.unusedVariables false
set_option maxRecDepth 100000
theorem step_appS {ops : Array Oper} {o : Oper} {a : Act} {w : World} {K : Act → World → Prop} {Q : Exit → Act → World → Prop} {E : Prop} (hgd : o.guard = none) (s x : Operand)
    (ho : o.op = .call { callee := .builtin .append, args := #[s, x], argTypes := #[26, 26] }) (B : Nat) (v : Value) (ys : List UInt8) (hs : a.eval s = v) (hown : w.ownsRow B 5 1 v ys.length (bcs ys)) (xv : Value) (hx : a.eval x = xv)
    (l : List UInt8) (hl : sliceAt w xv l) (hb : ys.length + l.length ≤ 1000000) (hBw : B ≤ w.heap.size)
    (h : ∀ v' w', w'.ownsRow B 5 1 v' (ys ++ l).length (bcs (ys ++ l)) → w.grownBy w' v.ownBlock → (∀ k, v'.ownBlock = some k → v.ownBlock = some k ∨ k = w.heap.size) → K (a.put o.dst v') w') :
    if Region.wanted o (yielded ops a.tmps) = true then Oper.wp Try.prog o a w K Q else E := by
  obtain ⟨i0, hi0, hz0, hz1, hz2⟩ := info_parts info_byte
  by_cases hl0 : l = []
  · subst hl0
    have hxv : ∃ ad c, xv = .slice ad 0 c := by
      rcases hl with ⟨ad, c, h1, _⟩ | ⟨g, o', c, h1, _⟩
      · exact ⟨ad, c, h1⟩
      · exact ⟨_, c, h1⟩
    obtain ⟨ad, c, rfl⟩ := hxv
    rw [if_pos (by simp [Region.wanted, hgd])]
    have hrun := appendNo B i0 hi0 o.type _ ys.length (bcs ys) hown ad c
    unfold Oper.wp
    simp [execOp, ho, resolve, invoke, builtin, hs, hx, hrun, Result.andThen]
    exact h _ w (by simpa using hown) ⟨rfl, rfl, rfl, Nat.le_refl _, fun k _ _ => rfl⟩ (fun k hk => Or.inl hk)
  · rcases hl with ⟨ad, c, _, h2⟩ | ⟨g1, o', c, h1, h2, h3, h4⟩
    · exact absurd h2 hl0
    · have hlen : 0 < l.length := by cases l with | nil => exact absurd rfl hl0 | cons _ _ => simp
      refine step_append_lies _ hgd s x _ ho B 5 i0 _ 1 1 Try.underlying26 hi0 hz0 hz1 hz2 rfl (by omega) _ ys.length (bcs ys) hs hown ⟨g1, o', none⟩ l.length c (bcs l) (hx.trans h1) (by simp [bcs]) (fun j u hj => ?_) (fun u hu => ?_) hlen (by simp [maxLen]; omega) (by omega) hBw w.heap.size rfl ?_
      · simp only [bcs, List.getElem?_map, Option.map_eq_some_iff] at hj
        obtain ⟨cc, hc1, hc2⟩ := hj
        rw [← hc2, show (⟨g1, o', none⟩ : Addr).add j = ⟨g1, o' + j, none⟩ by unfold Addr.add; split <;> simp_all]
        exact h4 j cc hc1
      · simp only [bcs, List.mem_map] at hu
        obtain ⟨cc, _, rfl⟩ := hu
        rfl
      · intro g' cap w' hown' hgrow hor _
        refine h _ w' ?_ hgrow (fun k hk => ?_)
        · rw [List.length_append, ← bcs_append]; exact hown'
        · obtain rfl : g' = k := Option.some.inj hk
          exact hor
theorem Wr.grow2 {g : Nat} {ys l : List UInt8} {v v' : Value} {W w3 : World} (h : Wr g ys v W) (hown : w3.ownsRow (g + 1) 5 1 v' (ys ++ l).length (bcs (ys ++ l))) (hg : W.grownBy w3 v.ownBlock) (hor : ∀ k, v'.ownBlock = some k → v.ownBlock = some k ∨ k = W.heap.size) :
    w3.cell? ⟨g, 0, none⟩ = some v ∧ g < w3.heap.size ∧ w3.frozen? ⟨g, 0, none⟩ = false ∧ Wr g (ys ++ l) v' (w3.setCell ⟨g, 0, none⟩ v') ∧ Mv g (Tw g v) (Tw g v') W (w3.setCell ⟨g, 0, none⟩ v') := by
  have hgo : some g ≠ v.ownBlock := fun e => by have := (h.o.lt g e.symm).1; omega
  have hb3 : Bx w3 g [v] := h.b.same hg.size (hg.block g h.b.z hgo)
  refine ⟨hb3.at 0 _ rfl, hb3.z, hb3.f 0, ⟨hb3.set 0 _ (by simp), ?_⟩, ?_, ?_, ?_⟩
  · refine own_of_block (w := w3) hown (fun k hk => Below.heap_setCell _ _ _ _ (fun e => ?_))
    have h1 := (hown.lt k hk).1
    have h2 : k = g := e
    omega
  · exact (bl_grown hg (Nat.le_of_lt h.b.z) (fun k hk => by have := (h.o.lt k hk).1; omega)).setCell (Nat.le_refl _) _
  · intro k hk ht
    rw [Below.heap_setCell _ _ _ _ (fun e => ht (Or.inl e))]
    exact hg.block k hk (fun e => ht (Or.inr e.symm))
  · intro k hk
    rcases hk with rfl | hk
    · exact Or.inl (Or.inl rfl)
    · rcases hor k hk with e | e
      · exact Or.inl (Or.inr e)
      · exact Or.inr (Nat.le_of_eq e.symm)
def SlUn (g : Nat) (W : World) (v : Value) (l : List UInt8) : Prop := (∃ a cap, v = .slice a 0 cap ∧ l = []) ∨ ∃ b o cap, v = .slice (some ⟨b, o, none⟩) l.length cap ∧ l.length ≤ cap ∧ b < g ∧ b < W.heap.size ∧ bytesAt W b o l
theorem SlUn.kept {g : Nat} {W w1 : World} {v : Value} {l : List UInt8} (h : SlUn g W v l) (hb : Below g W w1) : SlUn g w1 v l := by
  rcases h with h | ⟨b, o, c, h1, h2, h3, h4, h5⟩
  · exact Or.inl h
  · exact Or.inr ⟨b, o, c, h1, h2, h3, Nat.lt_of_lt_of_le h4 hb.size, h5.kept hb h3⟩
theorem SlUn.slice {g : Nat} {W : World} {v : Value} {l : List UInt8} (h : SlUn g W v l) : sliceAt W v l := by
  rcases h with h | ⟨b, o, c, h1, h2, h3, h4, h5⟩
  · exact Or.inl h
  · exact Or.inr ⟨b, o, c, h1, h2, h4, h5⟩
theorem SlUn.of {g : Nat} {W : World} {v : Value} {l : List UInt8} (h : sliceAt W v l) (hg : W.heap.size ≤ g) : SlUn g W v l := by
  rcases h with h | ⟨b, o, c, h1, h2, h3, h4⟩
  · exact Or.inl h
  · exact Or.inr ⟨b, o, c, h1, h2, by omega, h3, h4⟩
structure Ps where
  b : Nat
  o : Nat
  l : List UInt8
structure Ps.at (g k j : Nat) (W : World) (p : Ps) : Prop where
  q : W.cell? ⟨k, j, none⟩ = some (pt p.b p.o)
  s : ∃ v, W.cell? ⟨p.b, p.o, none⟩ = some v ∧ SlUn g W v p.l
  lt : p.b < g
  ok : p.l.length ≤ 65535
def lts (ps : List Ps) : List Ct := ps.map (fun p => .lst p.l)
theorem lts_succ {ps : List Ps} {j : Nat} {p : Ps} (h : ps[j]? = some p) : lts (ps.take (j + 1)) = lts (ps.take j) ++ [.lst p.l] := by
  unfold lts
  rw [List.take_add_one, h, List.map_append]; rfl
theorem lts_len {ps : List Ps} {j : Nat} {p : Ps} (h : ps[j]? = some p) : (wrL (lts (ps.take j))).length + (2 + p.l.length) ≤ (wrL (lts ps)).length := by
  have e : ps = ps.take (j + 1) ++ ps.drop (j + 1) := (List.take_append_drop _ _).symm
  have e2 : lts ps = lts (ps.take (j + 1)) ++ lts (ps.drop (j + 1)) := by
    show List.map _ _ = List.map _ _ ++ List.map _ _
    rw [← List.map_append, List.take_append_drop]
  rw [e2, wrL_app, lts_succ h, wrL_app, List.length_append, List.length_append, wrL_one]
  have : (Ct.lst p.l).wr.length = 2 + p.l.length := by show (wW _ ++ p.l).length = _; rw [List.length_append]; rfl
  omega
set_option maxHeartbeats 1600000 in
theorem Sv.wlists (g k cap : Nat) (xs : List UInt8) (v : Value) (ps : List Ps) (W : World) (h : Wr g xs v W) (hk : ¬ Tw g v k) (hp : ∀ j p, ps[j]? = some p → Ps.at g k j W p) (hl : xs.length + (wrL (lts ps)).length ≤ 50000) (hps : ps.length ≤ 100) :
    Calls Try.prog 105 #[pt g 0, .slice (some ⟨k, 0, none⟩) ps.length cap] W fun e w' => e = .returned (.tuple #[]) ∧ ∃ v', Wr g (xs ++ wrL (lts ps)) v' w' ∧ Mv g (Tw g v) (Tw g v') W w' := by
  have H := hid h
  have HP := hid hp
  have HK := hid hk
  clear h hp hk
  go_enter Try.func105, Try.ntmps105
  go_wp2
  go_loopw [9] (fun i wr => ∃ (j : Nat) (v1 : Value), j ≤ ps.length ∧ i = .int .i64 j ∧ Wr g (xs ++ wrL (lts (ps.take j))) v1 wr ∧ Mv g (Tw g v) (Tw g v1) W wr) (fun i _ => ps.length - (intOf i).toNat)
  case atStart => exact ⟨0, v, Nat.zero_le _, rfl, by simpa [lts, wrL] using H.out, Mv.refl _ _ _⟩
  case round =>
    obtain ⟨j, v1, hj, rfl, hR, hM⟩ := hrel
    obtain ⟨ys, hys⟩ : ∃ ys, ys = xs ++ wrL (lts (ps.take j)) := ⟨_, rfl⟩
    rw [← hys] at hR
    by_cases hlt : j < ps.length
    · obtain ⟨p, hpj⟩ : ∃ p, ps[j]? = some p := ⟨_, List.getElem?_eq_getElem hlt⟩
      have hq := HP.out j p hpj
      obtain ⟨sv, hsv, hsl⟩ := hq.s
      obtain ⟨la, lc, e⟩ := slice_len hsl.slice
      subst e
      have hkz : k < W.heap.size := World.block_lt_of_cell? W _ hq.q
      have hpz : p.b < W.heap.size := World.block_lt_of_cell? W _ hsv
      have hptw : ∀ u, Wr g ys u wr → ¬ Tw g u p.b := fun u hu => hu.low hq.lt
      have c2 : wr.cell? ⟨k, j, none⟩ = some (pt p.b p.o) := (hM.cell hkz HK.out j).trans hq.q
      have c1 : wr.cell? ⟨p.b, p.o, none⟩ = some (.slice la p.l.length lc) := (hM.below.cell (p := ⟨p.b, p.o, none⟩) hq.lt).trans hsv
      have hkz2 := Nat.lt_of_lt_of_le hkz hM.size
      have hpz2 := Nat.lt_of_lt_of_le hpz hM.size
      have hsl2 := hsl.kept hM.below
      have hok := hq.ok
      have hpg := hq.lt
      have hyl : ys.length + (2 + p.l.length) ≤ 50000 := by
        have := lts_len hpj
        rw [hys, List.length_append]
        omega
      have hys2 : xs ++ wrL (lts (ps.take (j + 1))) = (ys ++ wW p.l.length) ++ p.l := by rw [hys, lts_succ hpj, wrL_app, wrL_one, List.append_assoc, List.append_assoc]; rfl
      have HYS := hid hys2
      have hgz := hR.b.z
      have HR := hid hR
      have HM := hid hM
      have HSl := hid hsl2
      have hjl : (j : Int) < ps.length := by omega
      have hj0 : (0 : Int) ≤ j := by omega
      have hpl : (ps.length : Int) ≤ 100 := by omega
      have hw1 : IntKind.u16.wrap (p.l.length : Int) = p.l.length := by rw [IntKind.wrap_u16]; omega
      have HQ1 := hid (Sv.one (ys := ys) (wr := wr) .u16 107 (.u16 p.l.length) 22 111 rfl ⟨by omega, by omega⟩ hR (fun _ _ => True) (fun k cap ps W h hk hp e => Sv.wwords g k cap ys v1 ps W h hk hp (by rw [e]; show ys.length + 2 * 1 ≤ 50000; omega)))
      clear hq hR hM hys hys2 hpj hsv hsl hsl2 hptw
      go_upto_region 5 with (go_at_call 107; refine HQ1.out.mono ?_; rintro e w1 ⟨rfl, v2, q1, q2⟩; have HB0 := hid q1; have HM2 := hid q2; have HSL := hid (HSl.out.kept q2.below); have d1 : w1.cell? ⟨p.b, p.o, none⟩ = some (.slice la p.l.length lc) := (q2.below.cell (p := ⟨p.b, p.o, none⟩) hpg).trans c1; have z1 := q2.size; clear q1 q2)
      obtain ⟨zs, hzs⟩ : ∃ zs, zs = ys ++ (Ct.u16 p.l.length).wr := ⟨_, rfl⟩
      have hB0 := HB0.out
      rw [← hzs] at hB0
      have hys3 : xs ++ wrL (lts (ps.take (j + 1))) = zs ++ p.l := by rw [HYS.out, hzs]; rfl
      have HY3 := hid hys3
      have hlen : zs.length + p.l.length ≤ 1000000 := by rw [hzs, List.length_append]; show ys.length + 2 + _ ≤ _; omega
      obtain ⟨ua, uc, e⟩ := hB0.slice
      subst e
      have d0 := hB0.b.at 0 _ rfl
      have HB := hid hB0.drew
      have hgz1 := hB0.b.z
      have htb : some p.b ≠ (Value.slice ua zs.length uc).ownBlock := fun e => hB0.low hpg (Or.inr e.symm)
      have HTB := hid htb
      have hpz3 : p.b < w1.heap.size := by omega
      clear hys3 hB0 hzs htb HB0 HYS HQ1
      refine wp_region_G (S := fun w' => w'.cell? ⟨g, 0, none⟩ = some (.slice ua zs.length uc) ∧ w'.cell? ⟨p.b, p.o, none⟩ = some (.slice la p.l.length lc)) (st := 11) (by kernel_rfl) ?_
      have hS : w1.drew.cell? ⟨g, 0, none⟩ = some (.slice ua zs.length uc) ∧ w1.drew.cell? ⟨p.b, p.o, none⟩ = some (.slice la p.l.length lc) := ⟨d0, d1⟩
      refine wpAnyG_pure (i := 0) (oi := ⟨some 21, _, _, _, _, none⟩) (v := ?_) rfl (by kernel_rfl) (by kernel_rfl) (by kernel_rfl) (by decide) (fun _ _ _ h => h) (Or.inl ⟨by rfl, ?_⟩) (fun _ => hS) ?_
      rotate_left 1
      focus (intro w hSw; go_simp; try (with_reducible rfl))
      simp only [Act.put, xA, xB, xC]
      refine wpAnyG_pure (i := 1) (oi := ⟨some 22, _, _, _, _, none⟩) (v := ?_) rfl (by kernel_rfl) (by kernel_rfl) (by kernel_rfl) (by decide) (fun _ _ _ h => h) (Or.inl ⟨by rfl, ?_⟩) (fun _ => hS) ?_
      rotate_left 1
      focus (intro w hSw; go_simp; try (with_reducible rfl))
      simp only [Act.put, xA, xB, xC]
      refine wpAnyG_pure (i := 2) (oi := ⟨some 23, _, _, _, _, none⟩) (v := ?_) rfl (by kernel_rfl) (by kernel_rfl) (by kernel_rfl) (by decide) (fun _ _ _ h => h) (Or.inl ⟨by rfl, ?_⟩) (fun _ => hS) ?_
      rotate_left 1
      focus (intro w hSw; go_simp; try (with_reducible rfl))
      simp only [Act.put, xA, xB, xC]
      refine wpAnyG_pure (i := 3) (oi := ⟨some 24, _, _, _, _, none⟩) (v := ?_) rfl (by kernel_rfl) (by kernel_rfl) (by kernel_rfl) (by decide) (fun _ _ _ h => h) (Or.inl ⟨by rfl, ?_⟩) (fun _ => hS) ?_
      rotate_left 1
      focus (intro w hSw; go_simp; try (with_reducible rfl))
      simp only [Act.put, xA, xB, xC]
      refine wpAnyG_pure (i := 5) (oi := ⟨some 26, _, _, _, _, none⟩) (v := ?_) rfl (by kernel_rfl) (by kernel_rfl) (by kernel_rfl) (by decide) (fun _ _ _ h => h) (Or.inl ⟨by rfl, ?_⟩) (fun _ => hS) ?_
      rotate_left 1
      focus (intro w hSw; go_simp; try (with_reducible rfl))
      simp only [Act.put, xA, xB, xC]
      refine wpAnyG_pure (i := 6) (oi := ⟨some 27, _, _, _, _, none⟩) (v := ?_) rfl (by kernel_rfl) (by kernel_rfl) (by kernel_rfl) (by decide) (fun _ _ _ h => h) (Or.inl ⟨by rfl, ?_⟩) (fun _ => hS) ?_
      rotate_left 1
      focus (intro w hSw; go_simp; try (with_reducible rfl))
      simp only [Act.put, xA, xB, xC]
      refine wpAnyG_take (i := 4) (oi := ⟨some 25, _, _, _, _, none⟩) (v := .slice ua zs.length uc) rfl (by kernel_rfl) (by kernel_rfl) (by kernel_rfl) (by kernel_rfl) (by decide) (by kernel_rfl) (fun _ _ _ h => h) (Or.inl ⟨by rfl, ?_⟩) hS ?_
      · intro w' hSw
        have hcc := hSw.1
        have hcz := World.block_lt_of_cell? w' _ hcc
        go_simp
        try (with_reducible rfl)
      simp only [Act.put, xA, xB, xC]
      refine wpAnyG_take (i := 7) (oi := ⟨some 28, _, _, _, _, none⟩) (v := .slice la p.l.length lc) rfl (by kernel_rfl) (by kernel_rfl) (by kernel_rfl) (by kernel_rfl) (by decide) (by kernel_rfl) (fun _ _ _ h => h) (Or.inl ⟨by rfl, ?_⟩) hS ?_
      · intro w' hSw
        have hcc := hSw.2
        have hcz := World.block_lt_of_cell? w' _ hcc
        go_simp
        try (with_reducible rfl)
      simp only [Act.put, xA, xB, xC]
      clear hS
      refine wpAnyG_one (i := 8) (o := ⟨some 29, _, _, _, _, none⟩) (by kernel_rfl) rfl (fun K hK => ?_)
      refine step_appS (by rfl) (.tmp 25) (.tmp 28) (by rfl) (g + 1) (.slice ua zs.length uc) zs rfl HB.out.o (.slice la p.l.length lc) rfl p.l (HSL.out.slice) hlen HB.out.b.z ?_
      intro v' w3 hown hgrow hor
      obtain ⟨va, vc, ev⟩ := slice_len (slice_of_own hown)
      subst ev
      have HW := hid (HB.out.grow2 hown hgrow hor)
      have d1b := ((hgrow.block p.b (show p.b < w1.drew.heap.size from hpz3) (HTB.out)) |> fun e => World.cell?_of_block (a := ⟨p.b, p.o, none⟩) e).trans d1
      have d0b := HW.out.1
      have gzb := HW.out.2.1
      have gfb := HW.out.2.2.1
      refine hK.out _ _ (fun _ => ⟨d0b, d1b⟩) ?_
      clear hK K
      try simp only [Act.put, xA, xB, xC]
      refine wpAnyG_pure (i := 9) (oi := ⟨some 30, _, _, _, _, none⟩) (v := ?_) rfl (by kernel_rfl) (by kernel_rfl) (by kernel_rfl) (by decide) (fun _ _ _ h => h) (Or.inl ⟨by rfl, ?_⟩) (fun _ => ⟨d0b, d1b⟩) ?_
      rotate_left 1
      focus (intro w hSw; go_simp; try (with_reducible rfl))
      simp only [Act.put, xA, xB, xC]
      refine wpAnyG_pure (i := 10) (oi := ⟨some 31, _, _, _, _, none⟩) (v := ?_) rfl (by kernel_rfl) (by kernel_rfl) (by kernel_rfl) (by decide) (fun _ _ _ h => h) (Or.inl ⟨by rfl, ?_⟩) (fun _ => ⟨d0b, d1b⟩) ?_
      rotate_left 1
      focus (intro w hSw; go_simp; try (with_reducible rfl))
      simp only [Act.put, xA, xB, xC]
      refine wpAnyG_one (i := 11) (o := ⟨none, _, _, _, _, none⟩) (by kernel_rfl) rfl (fun K hK => ?_)
      go_simp
      refine hK.out _ _ (fun h => by cases h) ?_
      clear hK K
      try simp only [Act.put, xA, xB, xC]
      refine wpAnyG_done (by kernel_rfl) ?_ _
      have q3 := (Mv.of_below (T := Tw g (.slice ua zs.length uc)) (Nat.le_of_lt hgz1) (st0 w1).drew).trans HW.out.2.2.2.2
      have q1 := HW.out.2.2.2.1
      rw [List.length_append] at q1 q3
      go_wp2
      exact ⟨⟨j + 1, _, by omega, by simp, by rw [HY3.out]; exact q1, (HM.out.trans HM2.out).trans q3⟩, by simp [intOf]; omega⟩
    · have hj2 : j = ps.length := by omega
      subst hj2
      have hnl : ¬ (ps.length : Int) < ps.length := by omega
      rw [List.take_length] at hys
      have HR := hid hR
      have HM := hid hM
      have HYS := hid hys
      clear hR hM hys
      go_wp2
      go_end0
      exact ⟨rfl, v1, by rw [← HYS.out]; exact HR.out, HM.out⟩
end Go.Proofs.Ytdioiilmpjckfaa
