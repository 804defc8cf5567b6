/-
  Parts of a proof, joined.
-/
import Derived.Test.YtlibaekomndmoaaSb11
import Derived.Test.YtlibaekomndmoaaSb13
namespace Go.Proofs.Ytlibaekomndmoaa
open Go.ChangeShapes Go.WideShapes Go.ChangeAt Go.RowKit
set_option linter.unusedVariables false
set_option maxRecDepth 100000
def SlNw (B : Nat) (W : World) (v : Value) (l : List UInt8) : Prop := (v = .slice none 0 0 ∧ l = []) ∨ ∃ b cap, v = .slice (some ⟨b, 0, none⟩) l.length cap ∧ l.length ≤ cap ∧ B ≤ b ∧ Bx W b (bcs l)
theorem SlNw.move {B : Nat} {W w1 : World} {v : Value} {l : List UInt8} {T : Nat → Prop} {N : Nat} (h : SlNw B W v l) (hm : Mv N T T W w1) (ht : ∀ k, T k → k < B) : SlNw B w1 v l := by
  rcases h with h | ⟨b, c, h1, h2, h3, h4⟩
  · exact Or.inl h
  · exact Or.inr ⟨b, c, h1, h2, h3, h4.same hm.size (hm.block b h4.z (fun e => by have := ht b e; omega))⟩
theorem SlNw.kept {B : Nat} {W w1 : World} {v : Value} {l : List UInt8} (h : SlNw B W v l) (hb : Below W.heap.size W w1) : SlNw B w1 v l := by
  rcases h with h | ⟨b, c, h1, h2, h3, h4⟩
  · exact Or.inl h
  · exact Or.inr ⟨b, c, h1, h2, h3, h4.kept hb⟩
theorem SlNw.slice {B : Nat} {W : World} {v : Value} {l : List UInt8} (h : SlNw B W v l) : sliceAt W v l := by
  rcases h with ⟨rfl, rfl⟩ | ⟨b, c, h1, h2, h3, h4⟩
  · exact Or.inl ⟨none, 0, rfl, rfl⟩
  · refine Or.inr ⟨b, 0, c, h1, h2, h4.z, fun j x hj => ?_⟩
    rw [Nat.zero_add]
    exact h4.at j _ (by simp [bcs, hj])
def LsAt (B : Nat) (W : World) : List Ct → List Value → Prop
  | [], [] => True
  | c :: cs, v :: vs => (∃ l, c = .lst l ∧ SlNw B W v l) ∧ LsAt B W cs vs
  | _, _ => False
theorem LsAt.app {B : Nat} {W : World} : ∀ {cs : List Ct} {vs : List Value} {l : List UInt8} {v : Value}, LsAt B W cs vs → SlNw B W v l → LsAt B W (cs ++ [.lst l]) (vs ++ [v])
  | [], [], l, v, h, hv => ⟨⟨l, rfl, hv⟩, trivial⟩
  | c :: cs, x :: vs, l, v, h, hv => ⟨h.1, h.2.app hv⟩
  | [], x :: vs, l, v, h, hv => h.elim
  | c :: cs, [], l, v, h, hv => h.elim
theorem LsAt.move {B : Nat} {W w1 : World} {T : Nat → Prop} {N : Nat} (hm : Mv N T T W w1) (ht : ∀ k, T k → k < B) : ∀ {cs : List Ct} {vs : List Value}, LsAt B W cs vs → LsAt B w1 cs vs
  | [], [], h => h
  | c :: cs, x :: vs, ⟨⟨l, e, hv⟩, h⟩ => ⟨⟨l, e, hv.move hm ht⟩, h.move hm ht⟩
  | [], x :: vs, h => h.elim
  | c :: cs, [], h => h.elim
theorem LsAt.len {B : Nat} {W : World} : ∀ {cs : List Ct} {vs : List Value}, LsAt B W cs vs → vs.length = cs.length
  | [], [], h => rfl
  | c :: cs, x :: vs, ⟨_, h⟩ => by rw [List.length_cons, List.length_cons, h.len]
  | [], x :: vs, h => h.elim
  | c :: cs, [], h => h.elim
structure RL (N g B : Nat) (qs : List Pq) (j : Nat) (lj : List UInt8) (xs : List Ct) (vs : List Value) (W wr : World) : Prop where
  r : Rr N g lj wr
  mv : Mv N (Tq g qs) (Tq g qs) W wr
  kx : Kx W wr
  put : ∀ b L, b ≠ g → Bx W b L → Bx wr b (upd b L (qs.take j) vs)
  len : xs.length = j
  ls : LsAt B wr xs vs
section
variable {N g k j B : Nat} {qs : List Pq} {q : Pq} {l lj l1 : List UInt8} {xs : List Ct} {vs : List Value} {W wr w1 : World}
theorem RL.zero (h : Rr N g l W) : RL N g B qs 0 l [] [] W W := ⟨h, Mv.refl _ _ _, Kx.refl _, fun b L _ hb => hb, rfl, trivial⟩
theorem RL.there (h : RL N g B qs j lj xs vs W wr) (hq : Pq.at N g k j W q) (hm : Mv N (· = g) (· = g) wr w1) : (∃ y, w1.cell? ⟨q.b, q.o, none⟩ = some y) ∧ w1.frozen? ⟨q.b, q.o, none⟩ = false ∧ q.b < w1.heap.size := by
  obtain ⟨L, hL, ho⟩ := hq.bx
  have h1 := h.put q.b L hq.ng hL
  have h2 : Bx w1 q.b (upd q.b L (qs.take j) vs) := h1.same hm.size (hm.block _ h1.z hq.ng)
  exact ⟨⟨_, h2.at q.o _ (List.getElem?_eq_getElem (by rw [upd_len]; exact ho))⟩, h2.f _, h2.z⟩
theorem RL.step (h : RL N g B qs j lj xs vs W wr) (hj : qs[j]? = some q) (hq : Pq.at N g k j W q) (hr : Rr N g l1 w1) (hm : Mv N (· = g) (· = g) wr w1) (hk : Kx wr w1) (hB : ∀ k, Tq g qs k → k < B) {a : List UInt8} {v : Value} (hv : SlNw B w1 v a) :
    RL N g B qs (j + 1) l1 (xs ++ [.lst a]) (vs ++ [v]) W (w1.setCell ⟨q.b, q.o, none⟩ v) := by
  have hqm : q ∈ qs := List.mem_of_getElem? hj
  have hst : Mv N (Tq g qs) (Tq g qs) w1 (w1.setCell ⟨q.b, q.o, none⟩ v) := (Mv.refl N (Tq g qs) w1).setCell (p := ⟨q.b, q.o, none⟩) hq.lo (Or.inl (Or.inr ⟨q, hqm, rfl⟩)) _
  refine ⟨?_, ?_, ?_, fun b L hb hL => ?_, by rw [List.length_append, h.len]; rfl, ?_⟩
  · exact hr.move (T := fun k => k = q.b) ((Mv.refl N (fun k => k = q.b) w1).setCell (p := ⟨q.b, q.o, none⟩) hq.lo (Or.inl rfl) _) (Ne.symm hq.ng)
  · exact (h.mv.trans (hm.wide (fun k e => Or.inl e))).trans hst
  · exact (h.kx.trans hk).trans (Kx.set _ _ _ _)
  · have h1 := h.put b L hb hL
    have h2 : Bx w1 b (upd b L (qs.take j) vs) := h1.same hm.size (hm.block _ h1.z hb)
    have e : upd b L (qs.take (j + 1)) (vs ++ [v]) = if q.b = b then (upd b L (qs.take j) vs).set q.o v else upd b L (qs.take j) vs := by
      rw [List.take_add_one, hj]
      refine upd_app b _ _ L q v ?_
      rw [h.ls.len, h.len, List.length_take]
      have := (List.getElem?_eq_some_iff.1 hj).1
      omega
    rw [e]
    split
    · rename_i eb
      subst eb
      by_cases hlt : q.o < (upd q.b L (qs.take j) vs).length
      · exact h2.set q.o _ hlt
      · rw [List.set_eq_of_length_le (by omega)]
        refine ⟨by simpa using h2.z, fun i u hi => ?_, fun o' => by simpa using h2.f o'⟩
        have hil := (List.getElem?_eq_some_iff.1 hi).1
        exact (World.cell?_setCell_other _ _ _ _ (by intro x; have := congrArg Addr.off x; simp at this; omega)).trans (h2.c i u hi)
    · rename_i eb
      exact h2.far eb _
  · exact ((h.ls.move (hm.wide (T' := Tq g qs) (fun k e => Or.inl e)) hB).app hv).move hst hB
theorem size_no (h : rdK .u16 lj = none) : rdK .lst lj = none := by
  have h1 : rW lj = none := by
    cases hh : rW lj with
    | none => rfl
    | some p => simp only [rdK, hh] at h; cases h
  simp only [rdK, rL, h1]; rfl
theorem size_ok {c : Ct} (h : rdK .u16 lj = some (c, l1)) : ∃ n : Nat, c = .u16 n ∧ n ≤ 65535 ∧ (n ≤ l1.length → rdK .lst lj = some (.lst (l1.take n), l1.drop n)) ∧ (l1.length < n → rdK .lst lj = none) := by
  cases hh : rW lj with
  | none => simp only [rdK, hh] at h; cases h
  | some p =>
    obtain ⟨x, t⟩ := p
    simp only [rdK, hh, Option.map_some, Option.some.injEq, Prod.mk.injEq] at h
    obtain ⟨rfl, rfl⟩ := h
    obtain ⟨_, b0, b1⟩ := rW_inv hh
    refine ⟨x.toNat, by rw [show ((x.toNat : Nat) : Int) = x by omega], by omega, fun hn => ?_, fun hn => ?_⟩
    · simp only [rdK, rL, hh]
      rw [if_pos (by omega)]; rfl
    · simp only [rdK, rL, hh]
      rw [if_neg (by omega)]; rfl
end
def RlEnd (N g B : Nat) (qs : List Pq) (l : List UInt8) (W : World) (e : Ending) (w' : World) : Prop :=
  (rdL (List.replicate qs.length .lst) l = none ∧ e = tornE ∧ Mv N (Tq g qs) (Tq g qs) W w' ∧ Kx W w') ∨
  (e = .returned (.tuple #[]) ∧ ∃ xs vs l', rdL (List.replicate qs.length .lst) l = some (xs, l') ∧ RL N g B qs qs.length l' xs vs W w')
theorem sl_form {w : World} {B n : Nat} {xs : List Value} {v : Value} (h : w.ownsRow B 5 1 v n xs) : ∃ a n c, v = .slice a n c := by
  rcases h.2 with ⟨e0, _⟩ | ⟨g, cap, cur, e0, _⟩
  · exact ⟨_, _, _, e0⟩
  · exact ⟨_, _, _, e0⟩
theorem sl_new {w : World} {B C : Nat} {l : List UInt8} {v : Value} (hB : C ≤ B) (h : w.ownsRow B 5 1 v l.length (bcs l)) : SlNw C w v l := by
  rcases own_rw h with h | ⟨k, cap, h1, h2, h3, h4⟩
  · exact Or.inl h
  · exact Or.inr ⟨k, cap, h1, h2, by omega, h4⟩
set_option maxHeartbeats 1600000 in
theorem Sv.rlists (N g B k cap : Nat) (l : List UInt8) (qs : List Pq) (W : World) (h : Rr N g l W) (hk : k ≠ g) (hp : ∀ j q, qs[j]? = some q → Pq.at N g k j W q) (hl : l.length ≤ 9223372036854775807) (hql : qs.length ≤ 100) (hB : ∀ k, Tq g qs k → k < B) (hBW : B ≤ W.heap.size) :
    Calls Try.prog 110 #[pt g 0, .slice (some ⟨k, 0, none⟩) qs.length cap] W fun e w' => RlEnd N g B qs l W e w' := by
  have H := hid h
  have HP := hid hp
  have HBB := hid hB
  clear h hp hB
  go_enter Try.func110, Try.ntmps110
  go_wp2
  go_loopw [9] (fun i wr => ∃ (j : Nat) (xs : List Ct) (vs : List Value) (lj : List UInt8), j ≤ qs.length ∧ i = .int .i64 j ∧ rdL (List.replicate j .lst) l = some (xs, lj) ∧ RL N g B qs j lj xs vs W wr) (fun i _ => qs.length - (intOf i).toNat)
  case atStart => exact ⟨0, [], [], l, Nat.zero_le _, rfl, rfl, RL.zero H.out⟩
  case round =>
    obtain ⟨j, xs, vs, lj, hj, rfl, hrd, hR⟩ := hrel
    by_cases hlt : j < qs.length
    · obtain ⟨q, hqj⟩ : ∃ q, qs[j]? = some q := ⟨_, List.getElem?_eq_getElem hlt⟩
      have hq := HP.out j q hqj
      have hkz : k < W.heap.size := World.block_lt_of_cell? W _ hq.pp
      have hkt : ¬ Tq g qs k := fun ht => by
        rcases ht with e | ⟨q', hm, e⟩
        · exact hk e
        · obtain ⟨i, hi⟩ := List.mem_iff_getElem?.1 hm
          exact (HP.out i q' hi).nk e
      have c2 : wr.cell? ⟨k, j, none⟩ = some (pt q.b q.o) := (hR.mv.cell hkz hkt j).trans hq.pp
      have hkz2 := Nat.lt_of_lt_of_le hkz hR.mv.size
      have hjl : (j : Int) < qs.length := by omega
      have hj0 : (0 : Int) ≤ j := by omega
      have hpl : (qs.length : Int) ≤ 100 := by omega
      have hlj : lj.length ≤ 9223372036854775807 := by
        have := (rdL_inv _ _ _ _ hrd).1
        have h2 : l.length = (wrL xs).length + lj.length := by rw [this, List.length_append]
        omega
      have HR := hid hR
      have HQ := hid hq
      have HQJ := hid hqj
      have HRD := hid hrd
      clear hR hq hqj hrd hkt
      have HC := hid (Sv.rone .u16 112 (.int .u16 0) 22 111 HR.out.r (fun k cap qs W h hk hp hq => Sv.rwords N g k cap lj qs W h hk hp hlj hq))
      go_upto_region 5 with (go_at_call 112; refine HC.out.mono ?_; rintro e w1 (⟨h1, rfl, h3, h4⟩ | ⟨rfl, c, l1, h2, h3, h4, h6, h7, h8⟩))
      case' inl => exact ⟨rfl, Or.inl ⟨rep_no HRD.out (size_no h1) hlt, rfl, HR.out.mv.trans (h3.wide (fun k e => Or.inl e)), HR.out.kx.trans h4⟩⟩
      obtain ⟨n, rfl, hn, hyes, hno⟩ := size_ok h2
      have hl1 : l1.length ≤ 9223372036854775807 := by
        have := (rdK_inv h2).1
        have h9 : lj.length = _ := congrArg List.length this
        rw [List.length_append] at h9
        omega
      have g1 : w1.cell? ⟨wr.heap.size, 0, none⟩ = some (.int .u16 n) := h4
      have HR1 := hid h3
      have HM1 := hid h6
      have HK1 := hid h7
      have hni : (n : Int) ≤ 65535 := by omega
      have hn0 : (0 : Int) ≤ n := by omega
      have hw1 : IntKind.i64.wrap (n : Int) = n := by rw [IntKind.wrap_i64]; omega
      clear h2 h3 h4 h6 h7 HC
      by_cases hnl : n ≤ l1.length
      · have HRK := hid (hyes hnl)
        have HO := hid (Sv.take_ok w1 n HR1.out hnl hl1)
        clear hyes hno
        go_wp2_with (first
          | (go_at_call 113; refine HO.out.mono ?_; rintro e w2 ⟨a, c, rfl, hs, hr, hm, hk1⟩; have HR2 := hid hr; have HM2 := hid (HM1.out.trans hm); have HK2 := hid (HK1.out.trans hk1); have HSS := hid hs.slice; clear hs hr hm hk1)
          | (go_at_call 39; refine (Bu.clone_any _ (l1.take n) _ HSS.out (by rw [List.length_take]; omega)).mono ?_; rintro e w3 ⟨v3, rfl, hv3, hb3⟩; have HB3 := hid hb3; have HV3 := hid hv3; have hm3 : Mv N (· = g) (· = g) wr w3 := HM2.out.trans (Mv.of_below (Nat.le_trans HR2.out.hN (Nat.le_of_lt HR2.out.z)) hb3); obtain ⟨⟨y0, y1⟩, y2, y3⟩ := HR.out.there HQ.out hm3; have HM3 := hid hm3; obtain ⟨va, vn, vc, ev⟩ := sl_form hv3; subst ev; clear hb3 hv3 hm3))
        exact ⟨⟨j + 1, xs ++ [.lst (l1.take n)], vs ++ [.slice va vn vc], l1.drop n, by omega, by simp, rep_ok HRD.out HRK.out, HR.out.step HQJ.out HQ.out (HR2.out.kept HB3.out) HM3.out (HK2.out.trans (Kx.below HB3.out)) HBB.out (sl_new (by have := HM2.out.size; have := HR.out.mv.size; omega) HV3.out)⟩, by simp [intOf]; omega⟩
      · have HRK := hid (hno (by omega))
        have HO := hid (Sv.take_no w1 n HR1.out (by omega))
        clear hyes hno
        go_wp2_with (go_at_call 113; refine HO.out.mono ?_; rintro e w2 ⟨rfl, rfl⟩)
        exact ⟨rfl, Or.inl ⟨rep_no HRD.out HRK.out hlt, rfl, HR.out.mv.trans (HM1.out.wide (fun k e => Or.inl e)), HR.out.kx.trans HK1.out⟩⟩
    · have hj2 : j = qs.length := by omega
      subst hj2
      have hnl : ¬ (qs.length : Int) < qs.length := by omega
      have HR := hid hR
      have HRD := hid hrd
      clear hR hrd
      go_wp2
      go_end0
      exact Or.inr ⟨rfl, xs, vs, lj, HRD.out, HR.out⟩
end Go.Proofs.Ytlibaekomndmoaa
