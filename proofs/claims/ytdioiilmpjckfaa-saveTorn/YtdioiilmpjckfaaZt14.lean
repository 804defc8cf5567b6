/-
  Parts of a proof, joined.
-/
import Derived.Test.YtdioiilmpjckfaaZt13
import Derived.Test.YtdioiilmpjckfaaZt01
namespace Go.Proofs.Ytdioiilmpjckfaa
open Go.ChangeShapes Go.WideShapes Go.ChangeAt Go.RowKit
set_option linter.unusedVariables false
set_option maxRecDepth 100000
def Ct.val : Ct → Value
  | .u8 n => .int .u8 n
  | .bo b => .bool b
  | .u16 n => .int .u16 n
  | .num n => .int .i64 n
  | .lst _ => undef
structure Pc where
  b : Nat
  o : Nat
  c : Ct
structure Pc.at (K : Kd) (T : Nat → Prop) (k j : Nat) (W : World) (p : Pc) : Prop where
  q : W.cell? ⟨k, j, none⟩ = some (pt p.b p.o)
  v : W.cell? ⟨p.b, p.o, none⟩ = some p.c.val
  t : ¬ T p.b
  ok : p.c.ok
  kd : p.c.kd = K
def cts (ps : List Pc) : List Ct := ps.map Pc.c
theorem cts_succ {ps : List Pc} {j : Nat} {p : Pc} (h : ps[j]? = some p) : cts (ps.take (j + 1)) = cts (ps.take j) ++ [p.c] := by
  unfold cts
  rw [List.take_add_one, h, List.map_append]; rfl
theorem wrL_one (c : Ct) : wrL [c] = c.wr := by simp [wrL]
theorem kd_u8 {c : Ct} (h : c.kd = .u8) : ∃ n, c = .u8 n := by cases c <;> first | exact ⟨_, rfl⟩ | cases h
theorem kd_bo {c : Ct} (h : c.kd = .bo) : ∃ n, c = .bo n := by cases c <;> first | exact ⟨_, rfl⟩ | cases h
theorem kd_u16 {c : Ct} (h : c.kd = .u16) : ∃ n, c = .u16 n := by cases c <;> first | exact ⟨_, rfl⟩ | cases h
theorem kd_num {c : Ct} (h : c.kd = .num) : ∃ n, c = .num n := by cases c <;> first | exact ⟨_, rfl⟩ | cases h
theorem kd_lst {c : Ct} (h : c.kd = .lst) : ∃ n, c = .lst n := by cases c <;> first | exact ⟨_, rfl⟩ | cases h
def Kd.len : Kd → Nat
  | .u8 => 1
  | .bo => 1
  | .u16 => 2
  | .num => 4
  | .lst => 0
theorem wr_len {K : Kd} {c : Ct} (h : c.kd = K) (hl : K ≠ .lst) : c.wr.length = K.len := by
  subst h
  cases c <;> first | rfl | exact absurd rfl hl
theorem wrL_len {K : Kd} (hl : K ≠ .lst) : ∀ xs : List Ct, (∀ c ∈ xs, c.kd = K) → (wrL xs).length = K.len * xs.length
  | [], h => rfl
  | c :: xs, h => by
    rw [wrL, List.length_append, wr_len (h c List.mem_cons_self) hl, wrL_len hl xs (fun x hx => h x (List.mem_cons_of_mem _ hx)), List.length_cons, Nat.mul_succ]
    omega
theorem cts_kd {K : Kd} {T : Nat → Prop} {k : Nat} {W : World} {ps : List Pc} (hp : ∀ j p, ps[j]? = some p → Pc.at K T k j W p) (j : Nat) : ∀ c ∈ cts (ps.take j), c.kd = K := fun c hc => by
  obtain ⟨p, hp1, rfl⟩ := List.mem_map.1 hc
  obtain ⟨i, hi⟩ := List.mem_iff_getElem?.1 (List.mem_of_mem_take hp1)
  exact (hp i p hi).kd
theorem Sv.wbyte (g k cap : Nat) (xs : List UInt8) (v : Value) (ps : List Pc) (W : World) (h : Wr g xs v W) (hk : ¬ Tw g v k) (hp : ∀ j p, ps[j]? = some p → Pc.at .u8 (Tw g v) k j W p) (hl : xs.length + ps.length ≤ 50000) :
    Calls Try.prog 104 #[pt g 0, .slice (some ⟨k, 0, none⟩) ps.length cap] W fun e w' => e = .returned (.tuple #[]) ∧ ∃ v', Wr g (xs ++ wrL (cts ps)) v' w' ∧ Mv g (Tw g v) (Tw g v') W w' := by
  let f : Pc → Pb := fun p => ⟨p.b, p.o, match p.c with | .u8 n => n | _ => 0⟩
  have hq : ∀ j p, (ps.map f)[j]? = some p → Pb.at g v k j W p := fun j p hj => by
    rw [List.getElem?_map, Option.map_eq_some_iff] at hj
    obtain ⟨q, hj, rfl⟩ := hj
    have h1 := hp j q hj
    obtain ⟨n, hn⟩ := kd_u8 h1.kd
    obtain ⟨b, o, c⟩ := q
    simp only at hn
    subst hn
    exact ⟨h1.q, h1.v, h1.t, h1.ok⟩
  have he : (ps.map f).map (fun p => b8 p.x) = wrL (cts ps) := by
    have : ∀ l : List Pc, (∀ p ∈ l, p.c.kd = .u8) → (l.map f).map (fun p => b8 p.x) = wrL (cts l) := fun l => by
      induction l with
      | nil => intro _; rfl
      | cons p l ih =>
        intro hk
        obtain ⟨n, hn⟩ := kd_u8 (hk p List.mem_cons_self)
        obtain ⟨b, o, c⟩ := p
        simp only at hn
        subst hn
        have := ih (fun q hq => hk q (List.mem_cons_of_mem _ hq))
        simp only [List.map_cons, this]
        rfl
    exact this ps (fun p hm => by
      obtain ⟨i, hi⟩ := List.mem_iff_getElem?.1 hm
      exact (hp i p hi).kd)
  have := Sv.wbytes g k cap xs v (ps.map f) W h hk hq (by rw [List.length_map]; exact hl)
  rw [List.length_map] at this
  refine this.mono fun e w' ⟨he1, v', h1, h2⟩ => ⟨he1, v', by rw [← he]; exact h1, h2⟩
section
variable {g : Nat} {ys : List UInt8} {v1 : Value} {wr : World}
theorem cell_new (w : World) (cs : Array Value) (t : TypeId) (k j : Nat) (hk : k = w.heap.size) : (w.alloc (.cells cs t)).cell? ⟨k, j, none⟩ = cs[j]? := Pl.new w cs t k hk
theorem cell_over (w : World) (o : Obj) {k j : Nat} {x : Value} (h : w.cell? ⟨k, j, none⟩ = some x) : (w.alloc o).cell? ⟨k, j, none⟩ = some x := ((stA (st0 w) o).cell (p := ⟨k, j, none⟩) (World.block_lt_of_cell? w _ h)).trans h
theorem Sv.one (K : Kd) (f : Nat) (c : Ct) (t t2 : TypeId) (hkd : c.kd = K) (hok : c.ok) (h : Wr g ys v1 wr) (R : World → Value → Prop)
    (H : ∀ (k cap : Nat) (ps : List Pc) (W : World), Wr g ys v1 W → ¬ Tw g v1 k → (∀ j p, ps[j]? = some p → Pc.at K (Tw g v1) k j W p) → ps = [⟨wr.heap.size, 0, c⟩] → Calls Try.prog f #[pt g 0, .slice (some ⟨k, 0, none⟩) ps.length cap] W fun e w' => e = .returned (.tuple #[]) ∧ ∃ v', Wr g (ys ++ wrL (cts ps)) v' w' ∧ Mv g (Tw g v1) (Tw g v') W w') :
    Calls Try.prog f #[pt g 0, .slice (some ⟨wr.heap.size + 1, 0, none⟩) 1 1] ((wr.alloc (.cells #[c.val] t)).alloc (.cells #[pt wr.heap.size 0] t2)) fun e w' => e = .returned (.tuple #[]) ∧ ∃ v', Wr g (ys ++ c.wr) v' w' ∧ Mv g (Tw g v1) (Tw g v') wr w' := by
  refine (H (wr.heap.size + 1) 1 [⟨wr.heap.size, 0, c⟩] _ ((h.over _).over _) (h.new (by omega)) (fun j p hj => ?_) rfl).mono fun e w' ⟨he, v', h1, h2⟩ => ⟨he, v', ?_, ?_⟩
  · match j, hj with
    | 0, hj =>
      simp only [List.getElem?_cons_zero, Option.some.injEq] at hj
      subst hj
      exact ⟨(cell_new _ _ _ _ _ (by simp)).trans rfl, cell_over _ _ ((cell_new _ _ _ _ _ rfl).trans rfl), h.new (Nat.le_refl _), hok, hkd⟩
  · rw [show cts [⟨wr.heap.size, 0, c⟩] = [c] from rfl, wrL_one] at h1
    exact h1
  · exact (Mv.of_below (Nat.le_of_lt h.b.z) (stA (stA (st0 wr) _) _)).trans h2
theorem Sv.two (K : Kd) (f : Nat) (c d : Ct) (t t2 : TypeId) (hkc : c.kd = K) (hoc : c.ok) (hkd : d.kd = K) (hod : d.ok) (h : Wr g ys v1 wr)
    (H : ∀ (k cap : Nat) (ps : List Pc) (W : World), Wr g ys v1 W → ¬ Tw g v1 k → (∀ j p, ps[j]? = some p → Pc.at K (Tw g v1) k j W p) → ps = [⟨wr.heap.size, 0, c⟩, ⟨wr.heap.size + 1, 0, d⟩] → Calls Try.prog f #[pt g 0, .slice (some ⟨k, 0, none⟩) ps.length cap] W fun e w' => e = .returned (.tuple #[]) ∧ ∃ v', Wr g (ys ++ wrL (cts ps)) v' w' ∧ Mv g (Tw g v1) (Tw g v') W w') :
    Calls Try.prog f #[pt g 0, .slice (some ⟨wr.heap.size + 1 + 1, 0, none⟩) 2 2] (((wr.alloc (.cells #[c.val] t)).alloc (.cells #[d.val] t)).alloc (.cells #[pt wr.heap.size 0, pt (wr.heap.size + 1) 0] t2)) fun e w' => e = .returned (.tuple #[]) ∧ ∃ v', Wr g (ys ++ (c.wr ++ d.wr)) v' w' ∧ Mv g (Tw g v1) (Tw g v') wr w' := by
  refine (H (wr.heap.size + 1 + 1) 2 [⟨wr.heap.size, 0, c⟩, ⟨wr.heap.size + 1, 0, d⟩] _ (((h.over _).over _).over _) (h.new (by omega)) (fun j p hj => ?_) rfl).mono fun e w' ⟨he, v', h1, h2⟩ => ⟨he, v', ?_, ?_⟩
  · match j, hj with
    | 0, hj =>
      simp only [List.getElem?_cons_zero, Option.some.injEq] at hj
      subst hj
      exact ⟨(cell_new _ _ _ _ _ (by simp)).trans rfl, cell_over _ _ (cell_over _ _ ((cell_new _ _ _ _ _ rfl).trans rfl)), h.new (Nat.le_refl _), hoc, hkc⟩
    | 1, hj =>
      simp only [List.getElem?_cons_zero, List.getElem?_cons_succ, Option.some.injEq] at hj
      subst hj
      exact ⟨(cell_new _ _ _ _ _ (by simp)).trans rfl, cell_over _ _ ((cell_new _ _ _ _ _ (by simp)).trans rfl), h.new (by simp), hod, hkd⟩
  · rw [show cts [⟨wr.heap.size, 0, c⟩, ⟨wr.heap.size + 1, 0, d⟩] = [c, d] from rfl, show wrL [c, d] = c.wr ++ d.wr by simp [wrL]] at h1
    exact h1
  · exact (Mv.of_below (Nat.le_of_lt h.b.z) (stA (stA (stA (st0 wr) _) _) _)).trans h2
end
set_option maxHeartbeats 1600000 in
theorem Sv.wbools (g k cap : Nat) (xs : List UInt8) (v : Value) (ps : List Pc) (W : World) (h : Wr g xs v W) (hk : ¬ Tw g v k) (hp : ∀ j p, ps[j]? = some p → Pc.at .bo (Tw g v) k j W p) (hl : xs.length + 1 * ps.length ≤ 50000) :
    Calls Try.prog 103 #[pt g 0, .slice (some ⟨k, 0, none⟩) ps.length cap] W fun e w' => e = .returned (.tuple #[]) ∧ ∃ v', Wr g (xs ++ wrL (cts ps)) v' w' ∧ Mv g (Tw g v) (Tw g v') W w' := by
  have H := hid h
  have HP := hid hp
  have HK := hid hk
  clear h hp hk
  go_enter Try.func103, Try.ntmps103
  go_wp2
  go_loopw [9] (fun i wr => ∃ (j : Nat) (v1 : Value), j ≤ ps.length ∧ i = .int .i64 j ∧ Wr g (xs ++ wrL (cts (ps.take j))) v1 wr ∧ Mv g (Tw g v) (Tw g v1) W wr) (fun i _ => ps.length - (intOf i).toNat)
  case atStart => exact ⟨0, v, Nat.zero_le _, rfl, by simpa [cts, wrL] using H.out, Mv.refl _ _ _⟩
  case round =>
    obtain ⟨j, v1, hj, rfl, hR, hM⟩ := hrel
    obtain ⟨ys, hys⟩ : ∃ ys, ys = xs ++ wrL (cts (ps.take j)) := ⟨_, rfl⟩
    rw [← hys] at hR
    by_cases hlt : j < ps.length
    · obtain ⟨p, hpj⟩ : ∃ p, ps[j]? = some p := ⟨_, List.getElem?_eq_getElem hlt⟩
      have hq := HP.out j p hpj
      have hkz : k < W.heap.size := World.block_lt_of_cell? W _ hq.q
      have hpz : p.b < W.heap.size := World.block_lt_of_cell? W _ hq.v
      have c2 : wr.cell? ⟨k, j, none⟩ = some (pt p.b p.o) := (hM.cell hkz HK.out j).trans hq.q
      obtain ⟨n, hn⟩ := kd_bo hq.kd
      have c1 : wr.cell? ⟨p.b, p.o, none⟩ = some (.bool n) := ((hM.cell hpz hq.t p.o).trans hq.v).trans (by rw [hn]; rfl)
      have hkz2 := Nat.lt_of_lt_of_le hkz hM.size
      have hpz2 := Nat.lt_of_lt_of_le hpz hM.size
      have hyl : ys.length + 1 ≤ 50000 := by
        rw [hys, List.length_append, wrL_len (K := .bo) (by intro h; cases h) _ (cts_kd HP.out j)]
        simp only [cts, List.length_map, List.length_take, Kd.len]
        omega
      have hys2 : xs ++ wrL (cts (ps.take (j + 1))) = ys ++ (Ct.bo n).wr := by rw [hys, cts_succ hpj, wrL_app, wrL_one, hn, List.append_assoc]
      have HYS := hid hys2
      have hok := hq.ok
      rw [hn] at hok
      have hgz := hR.b.z
      have HR := hid hR
      have HM := hid hM
      have hjl : (j : Int) < ps.length := by omega
      have hj0 : (0 : Int) ≤ j := by omega
      have hpl : (ps.length : Int) ≤ 50000 := by omega
      
      clear hq hR hM hys hys2 hpj hn
      
      cases n with
      | true =>
        have HQ1 := hid (Sv.one (ys := ys) (wr := wr) .u8 104 (.u8 1) 5 107 rfl ⟨by omega, by omega⟩ HR.out (fun _ _ => True) (fun k cap ps W h hk hp e => Sv.wbyte g k cap ys v1 ps W h hk hp (by rw [e]; show ys.length + 1 ≤ 50000; omega)))
        go_wp2_with (go_at_call 104; refine HQ1.out.mono ?_; rintro e w1 ⟨rfl, v2, q1, q2⟩; have HQ : Hid (Wr g (ys ++ (Ct.bo true).wr) v2 w1 ∧ Mv g (Tw g v1) (Tw g v2) wr w1) := hid ⟨q1, q2⟩; clear q1 q2)
        exact ⟨⟨j + 1, _, by omega, by simp, by rw [HYS.out]; exact HQ.out.1, HM.out.trans HQ.out.2⟩, by simp [intOf]; omega⟩
      | false =>
        have HQ1 := hid (Sv.one (ys := ys) (wr := wr) .u8 104 (.u8 0) 5 107 rfl ⟨by omega, by omega⟩ HR.out (fun _ _ => True) (fun k cap ps W h hk hp e => Sv.wbyte g k cap ys v1 ps W h hk hp (by rw [e]; show ys.length + 1 ≤ 50000; omega)))
        go_wp2_with (go_at_call 104; refine HQ1.out.mono ?_; rintro e w1 ⟨rfl, v2, q1, q2⟩; have HQ : Hid (Wr g (ys ++ (Ct.bo false).wr) v2 w1 ∧ Mv g (Tw g v1) (Tw g v2) wr w1) := hid ⟨q1, q2⟩; clear q1 q2)
        exact ⟨⟨j + 1, _, by omega, by simp, by rw [HYS.out]; exact HQ.out.1, HM.out.trans HQ.out.2⟩, by simp [intOf]; omega⟩
    · have hj2 : j = ps.length := by omega
      subst hj2
      have hnl : ¬ (ps.length : Int) < ps.length := by omega
      rw [List.take_length] at hys
      have HR := hid hR
      have HM := hid hM
      have HYS := hid hys
      clear hR hM hys
      go_wp2
      go_end0
      exact ⟨rfl, v1, by rw [← HYS.out]; exact HR.out, HM.out⟩
set_option maxHeartbeats 1600000 in
theorem Sv.wwords (g k cap : Nat) (xs : List UInt8) (v : Value) (ps : List Pc) (W : World) (h : Wr g xs v W) (hk : ¬ Tw g v k) (hp : ∀ j p, ps[j]? = some p → Pc.at .u16 (Tw g v) k j W p) (hl : xs.length + 2 * ps.length ≤ 50000) :
    Calls Try.prog 107 #[pt g 0, .slice (some ⟨k, 0, none⟩) ps.length cap] W fun e w' => e = .returned (.tuple #[]) ∧ ∃ v', Wr g (xs ++ wrL (cts ps)) v' w' ∧ Mv g (Tw g v) (Tw g v') W w' := by
  have H := hid h
  have HP := hid hp
  have HK := hid hk
  clear h hp hk
  go_enter Try.func107, Try.ntmps107
  go_wp2
  go_loopw [10] (fun i wr => ∃ (j : Nat) (v1 : Value), j ≤ ps.length ∧ i = .int .i64 j ∧ Wr g (xs ++ wrL (cts (ps.take j))) v1 wr ∧ Mv g (Tw g v) (Tw g v1) W wr) (fun i _ => ps.length - (intOf i).toNat)
  case atStart => exact ⟨0, v, Nat.zero_le _, rfl, by simpa [cts, wrL] using H.out, Mv.refl _ _ _⟩
  case round =>
    obtain ⟨j, v1, hj, rfl, hR, hM⟩ := hrel
    obtain ⟨ys, hys⟩ : ∃ ys, ys = xs ++ wrL (cts (ps.take j)) := ⟨_, rfl⟩
    rw [← hys] at hR
    by_cases hlt : j < ps.length
    · obtain ⟨p, hpj⟩ : ∃ p, ps[j]? = some p := ⟨_, List.getElem?_eq_getElem hlt⟩
      have hq := HP.out j p hpj
      have hkz : k < W.heap.size := World.block_lt_of_cell? W _ hq.q
      have hpz : p.b < W.heap.size := World.block_lt_of_cell? W _ hq.v
      have c2 : wr.cell? ⟨k, j, none⟩ = some (pt p.b p.o) := (hM.cell hkz HK.out j).trans hq.q
      obtain ⟨n, hn⟩ := kd_u16 hq.kd
      have c1 : wr.cell? ⟨p.b, p.o, none⟩ = some (.int .u16 n) := ((hM.cell hpz hq.t p.o).trans hq.v).trans (by rw [hn]; rfl)
      have hkz2 := Nat.lt_of_lt_of_le hkz hM.size
      have hpz2 := Nat.lt_of_lt_of_le hpz hM.size
      have hyl : ys.length + 2 ≤ 50000 := by
        rw [hys, List.length_append, wrL_len (K := .u16) (by intro h; cases h) _ (cts_kd HP.out j)]
        simp only [cts, List.length_map, List.length_take, Kd.len]
        omega
      have hys2 : xs ++ wrL (cts (ps.take (j + 1))) = ys ++ (Ct.u16 n).wr := by rw [hys, cts_succ hpj, wrL_app, wrL_one, hn, List.append_assoc]
      have HYS := hid hys2
      have hok := hq.ok
      rw [hn] at hok
      have hgz := hR.b.z
      have HR := hid hR
      have HM := hid hM
      have hjl : (j : Int) < ps.length := by omega
      have hj0 : (0 : Int) ≤ j := by omega
      have hpl : (ps.length : Int) ≤ 50000 := by omega
      have hb : 0 ≤ n ∧ n ≤ 65535 := hok
      have HQ1 := hid (Sv.two (ys := ys) (wr := wr) .u8 104 (.u8 (n / 256)) (.u8 (n % 256)) 5 107 rfl ⟨by omega, by omega⟩ rfl ⟨by omega, by omega⟩ hR (fun k cap ps W h hk hp e => Sv.wbyte g k cap ys v1 ps W h hk hp (by rw [e]; show ys.length + 2 ≤ 50000; omega)))
      clear hq hR hM hys hys2 hpj hn
      go_wp2_with (first
        | (go_at_call 69; refine (bytes_any n _ hb).mono ?_; rintro e w1 ⟨rfl, rfl⟩)
        | (go_at_call 104; refine HQ1.out.mono ?_; rintro e w1 ⟨rfl, v2, q1, q2⟩; have HQ : Hid (Wr g (ys ++ (Ct.u16 n).wr) v2 w1 ∧ Mv g (Tw g v1) (Tw g v2) wr w1) := hid ⟨q1, q2⟩; clear q1 q2))
      exact ⟨⟨j + 1, _, by omega, by simp, by rw [HYS.out]; exact HQ.out.1, HM.out.trans HQ.out.2⟩, by simp [intOf]; omega⟩
    · have hj2 : j = ps.length := by omega
      subst hj2
      have hnl : ¬ (ps.length : Int) < ps.length := by omega
      rw [List.take_length] at hys
      have HR := hid hR
      have HM := hid hM
      have HYS := hid hys
      clear hR hM hys
      go_wp2
      go_end0
      exact ⟨rfl, v1, by rw [← HYS.out]; exact HR.out, HM.out⟩
end Go.Proofs.Ytdioiilmpjckfaa
