/-
  Parts of a proof, joined.
-/
import Derived.Test.YtdioiilmpjckfaaZt16
namespace Go.Proofs.Ytdioiilmpjckfaa
open Go.ChangeShapes Go.WideShapes Go.ChangeAt Go.RowKit
set_option linter.unusedVariables false
set_option maxRecDepth 100000
section
variable {N g : Nat} {lj : List UInt8} {wr : World}
theorem Mv.narrow {W w' : World} {qs : List Pq} (hb : Below wr.heap.size wr W) (hN : N ≤ wr.heap.size) (hq : ∀ q ∈ qs, wr.heap.size ≤ q.b) (h : Mv N (Tq g qs) (Tq g qs) W w') : Mv N (· = g) (· = g) wr w' :=
  ⟨(hb.mono hN).trans h.below, fun k hk hn => (h.block k (Nat.lt_of_lt_of_le hk hb.size) (fun ht => by
    rcases ht with e | ⟨q, hm, e⟩
    · exact hn e
    · have := hq q hm
      omega)).trans (hb.block k hk), fun k hk => Or.inl hk⟩
theorem Sv.rtwo (K : Kd) (f : Nat) (a b : Value) (t t2 : TypeId) (h : Rr N g lj wr)
    (H : ∀ (k cap : Nat) (qs : List Pq) (W : World), Rr N g lj W → k ≠ g → (∀ j q, qs[j]? = some q → Pq.at N g k j W q) → qs.length ≤ 100 → Calls Try.prog f #[pt g 0, .slice (some ⟨k, 0, none⟩) qs.length cap] W fun e w' => RdEnd K N g qs lj W e w') :
    Calls Try.prog f #[pt g 0, .slice (some ⟨wr.heap.size + 1 + 1, 0, none⟩) 2 2] (((wr.alloc (.cells #[a] t)).alloc (.cells #[b] t)).alloc (.cells #[pt wr.heap.size 0, pt (wr.heap.size + 1) 0] t2)) fun e w' =>
      (rdL [K, K] lj = none ∧ e = tornE ∧ Mv N (· = g) (· = g) wr w' ∧ Kx wr w') ∨
      (e = .returned (.tuple #[]) ∧ ∃ c d l', rdL [K, K] lj = some ([c, d], l') ∧ Rr N g l' w' ∧ w'.cell? ⟨wr.heap.size, 0, none⟩ = some c.val ∧ w'.cell? ⟨wr.heap.size + 1, 0, none⟩ = some d.val ∧ Mv N (· = g) (· = g) wr w' ∧ Kx wr w' ∧ wr.heap.size + 1 < w'.heap.size) := by
  have hgz := h.z
  have hN : N ≤ wr.heap.size := Nat.le_trans h.hN (Nat.le_of_lt hgz)
  have hb := stA (stA (stA (st0 wr) (.cells #[a] t)) (.cells #[b] t)) (.cells #[pt wr.heap.size 0, pt (wr.heap.size + 1) 0] t2)
  have b1 : Bx (((wr.alloc (.cells #[a] t)).alloc (.cells #[b] t)).alloc (.cells #[pt wr.heap.size 0, pt (wr.heap.size + 1) 0] t2)) wr.heap.size [a] := ((Bx.new wr [a] t rfl).over _).over _
  have b2 : Bx (((wr.alloc (.cells #[a] t)).alloc (.cells #[b] t)).alloc (.cells #[pt wr.heap.size 0, pt (wr.heap.size + 1) 0] t2)) (wr.heap.size + 1) [b] := (Bx.new (wr.alloc (.cells #[a] t)) [b] t (by simp)).over _
  have hq : ∀ q ∈ ([⟨wr.heap.size, 0⟩, ⟨wr.heap.size + 1, 0⟩] : List Pq), wr.heap.size ≤ q.b := fun q hm => by
    simp only [List.mem_cons, List.not_mem_nil, or_false] at hm
    rcases hm with rfl | rfl
    · exact Nat.le_refl _
    · exact Nat.le_succ _
  refine (H (wr.heap.size + 1 + 1) 2 [⟨wr.heap.size, 0⟩, ⟨wr.heap.size + 1, 0⟩] _ (h.kept hb) (by omega) (fun j q hj => ?_) (by simp)).mono fun e w' hE => ?_
  · match j, hj with
    | 0, hj =>
      simp only [List.getElem?_cons_zero, Option.some.injEq] at hj
      subst hj
      exact ⟨(cell_new _ _ _ _ _ (by simp)).trans rfl, ⟨[a], b1, by simp⟩, hN, by show wr.heap.size ≠ g; omega, by show wr.heap.size ≠ _; omega⟩
    | 1, hj =>
      simp only [List.getElem?_cons_zero, List.getElem?_cons_succ, Option.some.injEq] at hj
      subst hj
      exact ⟨(cell_new _ _ _ _ _ (by simp)).trans rfl, ⟨[b], b2, by simp⟩, by show N ≤ wr.heap.size + 1; omega, by show wr.heap.size + 1 ≠ g; omega, by show wr.heap.size + 1 ≠ _; omega⟩
  · rcases hE with ⟨h1, h2, h3, h4⟩ | ⟨h1, xs, l', h2, h3⟩
    · exact Or.inl ⟨h1, h2, Mv.narrow hb hN hq h3, (Kx.below hb).trans h4⟩
    · have hx : ∃ c d, xs = [c, d] := by
        have := h3.len
        match xs, this with
        | [c, d], _ => exact ⟨c, d, rfl⟩
      obtain ⟨c, d, rfl⟩ := hx
      have p1 := h3.put wr.heap.size [a] (by omega) b1
      have p2 := h3.put (wr.heap.size + 1) [b] (by omega) b2
      refine Or.inr ⟨h1, c, d, l', h2, h3.r, ?_, ?_, Mv.narrow hb hN hq h3.mv, (Kx.below hb).trans h3.kx, p2.z⟩
      · refine p1.at 0 _ ?_
        simp [upd]
      · refine p2.at 0 _ ?_
        simp [upd]
theorem Sv.rone (K : Kd) (f : Nat) (a : Value) (t t2 : TypeId) (h : Rr N g lj wr)
    (H : ∀ (k cap : Nat) (qs : List Pq) (W : World), Rr N g lj W → k ≠ g → (∀ j q, qs[j]? = some q → Pq.at N g k j W q) → qs.length ≤ 100 → Calls Try.prog f #[pt g 0, .slice (some ⟨k, 0, none⟩) qs.length cap] W fun e w' => RdEnd K N g qs lj W e w') :
    Calls Try.prog f #[pt g 0, .slice (some ⟨wr.heap.size + 1, 0, none⟩) 1 1] ((wr.alloc (.cells #[a] t)).alloc (.cells #[pt wr.heap.size 0] t2)) fun e w' =>
      (rdK K lj = none ∧ e = tornE ∧ Mv N (· = g) (· = g) wr w' ∧ Kx wr w') ∨
      (e = .returned (.tuple #[]) ∧ ∃ c l', rdK K lj = some (c, l') ∧ Rr N g l' w' ∧ w'.cell? ⟨wr.heap.size, 0, none⟩ = some c.val ∧ Mv N (· = g) (· = g) wr w' ∧ Kx wr w' ∧ wr.heap.size < w'.heap.size) := by
  have hgz := h.z
  have hN : N ≤ wr.heap.size := Nat.le_trans h.hN (Nat.le_of_lt hgz)
  have hb := stA (stA (st0 wr) (.cells #[a] t)) (.cells #[pt wr.heap.size 0] t2)
  have b1 : Bx ((wr.alloc (.cells #[a] t)).alloc (.cells #[pt wr.heap.size 0] t2)) wr.heap.size [a] := (Bx.new wr [a] t rfl).over _
  have hq : ∀ q ∈ ([⟨wr.heap.size, 0⟩] : List Pq), wr.heap.size ≤ q.b := fun q hm => by
    simp only [List.mem_cons, List.not_mem_nil, or_false] at hm
    subst hm
    exact Nat.le_refl _
  refine (H (wr.heap.size + 1) 1 [⟨wr.heap.size, 0⟩] _ (h.kept hb) (by omega) (fun j q hj => ?_) (by simp)).mono fun e w' hE => ?_
  · match j, hj with
    | 0, hj =>
      simp only [List.getElem?_cons_zero, Option.some.injEq] at hj
      subst hj
      exact ⟨(cell_new _ _ _ _ _ (by simp)).trans rfl, ⟨[a], b1, by simp⟩, hN, by show wr.heap.size ≠ g; omega, by show wr.heap.size ≠ _; omega⟩
  · have e1 : rdL [K] lj = match rdK K lj with | none => none | some (c, l1) => some ([c], l1) := by
      simp only [rdL]
      cases rdK K lj <;> rfl
    rcases hE with ⟨h1, h2, h3, h4⟩ | ⟨h1, xs, l', h2, h3⟩
    · refine Or.inl ⟨?_, h2, Mv.narrow hb hN hq h3, (Kx.below hb).trans h4⟩
      have h1' : rdL [K] lj = none := h1
      rw [e1] at h1'
      cases hh : rdK K lj with
      | none => rfl
      | some p => rw [hh] at h1'; cases h1'
    · have hx : ∃ c, xs = [c] := by
        have := h3.len
        match xs, this with
        | [c], _ => exact ⟨c, rfl⟩
      obtain ⟨c, rfl⟩ := hx
      have p1 := h3.put wr.heap.size [a] (by omega) b1
      refine Or.inr ⟨h1, c, l', ?_, h3.r, ?_, Mv.narrow hb hN hq h3.mv, (Kx.below hb).trans h3.kx, p1.z⟩
      · have h2' : rdL [K] lj = some ([c], l') := h2
        rw [e1] at h2'
        cases hh : rdK K lj with
        | none => rw [hh] at h2'; cases h2'
        | some p =>
          obtain ⟨c', l1⟩ := p
          rw [hh] at h2'
          simp only [Option.some.injEq, Prod.mk.injEq, List.cons.injEq, and_true] at h2'
          rw [h2'.1, h2'.2]
      · refine p1.at 0 _ ?_
        simp [upd]
theorem two8_no (h : rdL [.u8, .u8] lj = none) : rdK .u16 lj = none := by
  match lj, h with
  | [], _ => rfl
  | [x], _ => rfl
  | x :: y :: t, h => cases h
theorem two8_ok {c d : Ct} {l' : List UInt8} (h : rdL [.u8, .u8] lj = some ([c, d], l')) : ∃ x y : Int, c = .u8 x ∧ d = .u8 y ∧ (0 ≤ x ∧ x ≤ 255) ∧ (0 ≤ y ∧ y ≤ 255) ∧ rdK .u16 lj = some (.u16 (x * 256 + y), l') := by
  match lj, h with
  | x :: y :: t, h =>
    simp only [rdL, rdK, Option.some.injEq, Prod.mk.injEq, List.cons.injEq, and_true] at h
    obtain ⟨⟨rfl, rfl⟩, rfl⟩ := h
    exact ⟨_, _, rfl, rfl, u8_bd x, u8_bd y, rfl⟩
theorem two16_no (h : rdL [.u16, .u16] lj = none) : rdK .num lj = none := by
  simp only [rdL, rdK] at h
  show (rN lj).map _ = none
  unfold rN
  cases h1 : rW lj with
  | none => rfl
  | some p =>
    obtain ⟨x, l1⟩ := p
    rw [h1] at h
    simp only [Option.map_some] at h
    simp only
    cases h2 : rW l1 with
    | none => rfl
    | some q => rw [h2] at h; cases h
theorem two16_ok {c d : Ct} {l' : List UInt8} (h : rdL [.u16, .u16] lj = some ([c, d], l')) : ∃ x y : Int, c = .u16 x ∧ d = .u16 y ∧ (0 ≤ x ∧ x ≤ 65535) ∧ (0 ≤ y ∧ y ≤ 65535) ∧ rdK .num lj = some (.num (x * 65536 + y), l') := by
  simp only [rdL, rdK] at h
  cases h1 : rW lj with
  | none => rw [h1] at h; cases h
  | some p =>
    obtain ⟨x, l1⟩ := p
    rw [h1] at h
    simp only [Option.map_some] at h
    cases h2 : rW l1 with
    | none => rw [h2] at h; cases h
    | some q =>
      obtain ⟨y, l2⟩ := q
      rw [h2] at h
      simp only [Option.map_some, Option.some.injEq, Prod.mk.injEq, List.cons.injEq, and_true] at h
      obtain ⟨⟨rfl, rfl⟩, rfl⟩ := h
      refine ⟨x, y, rfl, rfl, (rW_inv h1).2, (rW_inv h2).2, ?_⟩
      show (rN lj).map _ = _
      unfold rN
      rw [h1]
      simp only
      rw [h2]
      rfl
end
theorem joined64 (x y : Int) (hx : 0 ≤ x ∧ x ≤ 65535) (hy : 0 ≤ y ∧ y ≤ 65535) : bits .or .i64 (x * 65536) y = x * 65536 + y := by
  obtain ⟨A, rfl⟩ := Int.eq_ofNat_of_zero_le hx.1
  obtain ⟨B, rfl⟩ := Int.eq_ofNat_of_zero_le hy.1
  have h : A * 65536 ||| B = A * 65536 + B := by
    have := Nat.two_pow_add_eq_or_of_lt (i := 16) (b := B) (by omega) A
    rw [show A * 65536 = 2 ^ 16 * A from by omega]; exact this.symm
  have z : ∀ n : Nat, n < 18446744073709551616 → (BitVec.ofInt 64 (n : Int)).toNat = n := fun n hn => by
    rw [BitVec.ofInt_natCast, BitVec.toNat_ofNat]; exact Nat.mod_eq_of_lt (by omega)
  rw [show (A : Int) * 65536 = ((A * 65536 : Nat) : Int) from by omega]
  show IntKind.i64.wrap ((BitVec.ofInt 64 ((A * 65536 : Nat) : Int) ||| BitVec.ofInt 64 (B : Int)).toNat : Int) = _
  rw [BitVec.toNat_or, z _ (by omega), z _ (by omega), h, IntKind.wrap_i64]
  omega
set_option maxHeartbeats 1600000 in
theorem Sv.rwords (N g k cap : Nat) (l : List UInt8) (qs : List Pq) (W : World) (h : Rr N g l W) (hk : k ≠ g) (hp : ∀ j q, qs[j]? = some q → Pq.at N g k j W q) (hl : l.length ≤ 9223372036854775807) (hql : qs.length ≤ 100) :
    Calls Try.prog 112 #[pt g 0, .slice (some ⟨k, 0, none⟩) qs.length cap] W fun e w' => RdEnd .u16 N g qs l W e w' := by
  have H := hid h
  have HP := hid hp
  clear h hp
  go_enter Try.func112, Try.ntmps112
  go_wp2
  go_loopw [10] (fun i wr => ∃ (j : Nat) (xs : List Ct) (lj : List UInt8), j ≤ qs.length ∧ i = .int .i64 j ∧ rdL (List.replicate j .u16) l = some (xs, lj) ∧ RI N g qs j lj xs W wr) (fun i _ => qs.length - (intOf i).toNat)
  case atStart => exact ⟨0, [], l, Nat.zero_le _, rfl, rfl, RI.zero H.out⟩
  case round =>
    obtain ⟨j, xs, lj, hj, rfl, hrd, hR⟩ := hrel
    by_cases hlt : j < qs.length
    · obtain ⟨q, hqj⟩ : ∃ q, qs[j]? = some q := ⟨_, List.getElem?_eq_getElem hlt⟩
      have hq := HP.out j q hqj
      have hkz : k < W.heap.size := World.block_lt_of_cell? W _ hq.pp
      have hkt : ¬ Tq g qs k := fun ht => by
        rcases ht with e | ⟨q', hm, e⟩
        · exact hk e
        · obtain ⟨i, hi⟩ := List.mem_iff_getElem?.1 hm
          exact (HP.out i q' hi).nk e
      have c2 : wr.cell? ⟨k, j, none⟩ = some (pt q.b q.o) := (hR.mv.cell hkz hkt j).trans hq.pp
      have hkz2 := Nat.lt_of_lt_of_le hkz hR.mv.size
      have hjl : (j : Int) < qs.length := by omega
      have hj0 : (0 : Int) ≤ j := by omega
      have hpl : (qs.length : Int) ≤ 100 := by omega
      have hlj : lj.length ≤ 9223372036854775807 := by
        have := (rdL_inv _ _ _ _ hrd).1
        have h2 : l.length = (wrL xs).length + lj.length := by rw [this, List.length_append]
        omega
      have HR := hid hR
      have HQ := hid hq
      have HQJ := hid hqj
      have HRD := hid hrd
      clear hR hq hqj hrd hkt
      have HC := hid (Sv.rtwo .u8 109 (.int .u8 0) (.int .u8 0) 5 107 HR.out.r (fun k cap qs W h hk hp hq => Sv.rbytes N g k cap lj qs W h hk hp hlj hq))
      go_upto_region 5 with (go_at_call 109; refine HC.out.mono ?_; rintro e w1 (⟨h1, rfl, h3, h4⟩ | ⟨rfl, c, d, l1, h2, h3, h4, h5, h6, h7, h8⟩))
      case' inl => exact ⟨rfl, Or.inl ⟨rep_no HRD.out (two8_no h1) hlt, rfl, HR.out.mv.trans (h3.wide (fun k e => Or.inl e)), HR.out.kx.trans h4⟩⟩
      obtain ⟨x, y, rfl, rfl, hx, hy, hrk⟩ := two8_ok h2
      have g1 : w1.cell? ⟨wr.heap.size, 0, none⟩ = some (.int .u8 x) := h4
      have g2 : w1.cell? ⟨wr.heap.size + 1, 0, none⟩ = some (.int .u8 y) := h5
      obtain ⟨⟨y0, y1⟩, y2, y3⟩ := HR.out.there HQ.out h6
      have HR1 := hid h3
      have HM1 := hid h6
      have HK1 := hid h7
      have HRK := hid hrk
      clear h2 h3 h4 h5 h6 h7 hrk HC
      go_wp2_with (go_at_call 60; refine (of_any x y _ hx hy).mono ?_; rintro e w2 ⟨rfl, rfl⟩)
      exact ⟨⟨j + 1, xs ++ [.u16 (x * 256 + y)], l1, by omega, by simp, rep_ok HRD.out HRK.out, HR.out.step HQJ.out HQ.out HR1.out HM1.out HK1.out (.u16 (x * 256 + y))⟩, by simp [intOf]; omega⟩
    · have hj2 : j = qs.length := by omega
      subst hj2
      have hnl : ¬ (qs.length : Int) < qs.length := by omega
      have HR := hid hR
      have HRD := hid hrd
      clear hR hrd
      go_wp2
      go_end0
      exact Or.inr ⟨rfl, xs, lj, HRD.out, HR.out⟩
set_option maxHeartbeats 1600000 in
theorem Sv.rnumbers (N g k cap : Nat) (l : List UInt8) (qs : List Pq) (W : World) (h : Rr N g l W) (hk : k ≠ g) (hp : ∀ j q, qs[j]? = some q → Pq.at N g k j W q) (hl : l.length ≤ 9223372036854775807) (hql : qs.length ≤ 100) :
    Calls Try.prog 111 #[pt g 0, .slice (some ⟨k, 0, none⟩) qs.length cap] W fun e w' => RdEnd .num N g qs l W e w' := by
  have H := hid h
  have HP := hid hp
  clear h hp
  go_enter Try.func111, Try.ntmps111
  go_wp2
  go_loopw [10] (fun i wr => ∃ (j : Nat) (xs : List Ct) (lj : List UInt8), j ≤ qs.length ∧ i = .int .i64 j ∧ rdL (List.replicate j .num) l = some (xs, lj) ∧ RI N g qs j lj xs W wr) (fun i _ => qs.length - (intOf i).toNat)
  case atStart => exact ⟨0, [], l, Nat.zero_le _, rfl, rfl, RI.zero H.out⟩
  case round =>
    obtain ⟨j, xs, lj, hj, rfl, hrd, hR⟩ := hrel
    by_cases hlt : j < qs.length
    · obtain ⟨q, hqj⟩ : ∃ q, qs[j]? = some q := ⟨_, List.getElem?_eq_getElem hlt⟩
      have hq := HP.out j q hqj
      have hkz : k < W.heap.size := World.block_lt_of_cell? W _ hq.pp
      have hkt : ¬ Tq g qs k := fun ht => by
        rcases ht with e | ⟨q', hm, e⟩
        · exact hk e
        · obtain ⟨i, hi⟩ := List.mem_iff_getElem?.1 hm
          exact (HP.out i q' hi).nk e
      have c2 : wr.cell? ⟨k, j, none⟩ = some (pt q.b q.o) := (hR.mv.cell hkz hkt j).trans hq.pp
      have hkz2 := Nat.lt_of_lt_of_le hkz hR.mv.size
      have hjl : (j : Int) < qs.length := by omega
      have hj0 : (0 : Int) ≤ j := by omega
      have hpl : (qs.length : Int) ≤ 100 := by omega
      have hlj : lj.length ≤ 9223372036854775807 := by
        have := (rdL_inv _ _ _ _ hrd).1
        have h2 : l.length = (wrL xs).length + lj.length := by rw [this, List.length_append]
        omega
      have HR := hid hR
      have HQ := hid hq
      have HQJ := hid hqj
      have HRD := hid hrd
      clear hR hq hqj hrd hkt
      have HC := hid (Sv.rtwo .u16 112 (.int .u16 0) (.int .u16 0) 22 111 HR.out.r (fun k cap qs W h hk hp hq => Sv.rwords N g k cap lj qs W h hk hp hlj hq))
      go_upto_region 5 with (go_at_call 112; refine HC.out.mono ?_; rintro e w1 (⟨h1, rfl, h3, h4⟩ | ⟨rfl, c, d, l1, h2, h3, h4, h5, h6, h7, h8⟩))
      case' inl => exact ⟨rfl, Or.inl ⟨rep_no HRD.out (two16_no h1) hlt, rfl, HR.out.mv.trans (h3.wide (fun k e => Or.inl e)), HR.out.kx.trans h4⟩⟩
      obtain ⟨x, y, rfl, rfl, hx, hy, hrk⟩ := two16_ok h2
      have g1 : w1.cell? ⟨wr.heap.size, 0, none⟩ = some (.int .u16 x) := h4
      have g2 : w1.cell? ⟨wr.heap.size + 1, 0, none⟩ = some (.int .u16 y) := h5
      obtain ⟨⟨y0, y1⟩, y2, y3⟩ := HR.out.there HQ.out h6
      have HR1 := hid h3
      have HM1 := hid h6
      have HK1 := hid h7
      have HRK := hid hrk
      clear h2 h3 h4 h5 h6 h7 hrk HC
      have hor := joined64 x y hx hy
      go_wp2
      exact ⟨⟨j + 1, xs ++ [.num (x * 65536 + y)], l1, by omega, by simp, rep_ok HRD.out HRK.out, HR.out.step HQJ.out HQ.out HR1.out HM1.out HK1.out (.num (x * 65536 + y))⟩, by simp [intOf]; omega⟩
    · have hj2 : j = qs.length := by omega
      subst hj2
      have hnl : ¬ (qs.length : Int) < qs.length := by omega
      have HR := hid hR
      have HRD := hid hrd
      clear hR hrd
      go_wp2
      go_end0
      exact Or.inr ⟨rfl, xs, lj, HRD.out, HR.out⟩
end Go.Proofs.Ytdioiilmpjckfaa
