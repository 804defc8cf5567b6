/-
  Package tape: Parse.
-/
import Derived.Test.YtbfflipcmciapaaDoorTapR
namespace Go.Proofs.YtbfflipcmciapaaDoor
open Go.ChangeShapes Go.WideShapes Go.ChangeAt Go.RowKit
set_option linter.unusedVariables false
set_option maxRecDepth 100000

/-- While Parse runs: inputs that are read, and what is left. -/
structure Tp.Pw (w : World) (s0 : List UInt8) (l : List Tp.In) (s : List UInt8) (v : Value) (Y : World) : Prop where
  low : Below w.heap.size w Y
  fc : Tp.F Y
  row : Y.ownsRow w.heap.size 34 3 v l.length (Tp.ics l)
  eq : Tp.rdA (Tp.sp 10 s0) 0 = Tp.aft l (Tp.rdA (Tp.sp 10 s) l.length)
  ok : ∀ x ∈ l, x.ok
  len : s.length + l.length ≤ s0.length
theorem Tp.Pw.kept {w : World} {s0 : List UInt8} {l : List Tp.In} {s : List UInt8} {v : Value} {Y Y' : World} (h : Tp.Pw w s0 l s v Y) (hb : Below Y.heap.size Y Y') : Tp.Pw w s0 l s v Y' :=
  ⟨stp h.low hb, h.fc.kept hb, Tp.row_kept h.row hb, h.eq, h.ok, h.len⟩
theorem Tp.pw_no {s0 s : List UInt8} {l : List Tp.In} (h : Tp.rdA (Tp.sp 10 s0) 0 = Tp.aft l (Tp.rdA (Tp.sp 10 s) l.length)) (hl : ¬ 4000 < s0.length) (hs : Tp.rdA (Tp.sp 10 s) l.length = .error l.length) : Tp.prsL s0 = [] ∧ Tp.prsN s0 = l.length ∧ Tp.prsE s0 = 1 := by
  rw [hs] at h
  unfold Tp.prsL Tp.prsN Tp.prsE
  rw [if_neg hl, if_neg hl, if_neg hl, h]
  exact ⟨rfl, rfl, rfl⟩
theorem Tp.rdA_last {s : List UInt8} {i : Nat} (h : (10 : UInt8) ∉ s) (h0 : s ≠ []) : Tp.rdA (Tp.sp 10 s) i = .error i := by
  rw [Tp.sp_no 10 s h, Tp.rdA, if_neg h0]
theorem Tp.rdA_at {u r : List UInt8} {i : Nat} (h : (10 : UInt8) ∉ u) (hr : Tp.rd u = none) : Tp.rdA (Tp.sp 10 (u ++ 10 :: r)) i = .error i := by
  rw [Tp.sp_at 10 r u h]
  cases hs : Tp.sp 10 r with
  | nil => exact absurd hs (Tp.sp_ne _ _)
  | cons t ls => exact Tp.rdA_no hr
theorem Tp.rdA_go {u r : List UInt8} {i : Nat} {x : Tp.In} (h : (10 : UInt8) ∉ u) (hr : Tp.rd u = some x) : Tp.rdA (Tp.sp 10 (u ++ 10 :: r)) i = Tp.aft [x] (Tp.rdA (Tp.sp 10 r) (i + 1)) := by
  rw [Tp.sp_at 10 r u h]
  cases hs : Tp.sp 10 r with
  | nil => exact absurd hs (Tp.sp_ne _ _)
  | cons t ls => exact Tp.rdA_yes hr
theorem Tp.Pw.next {w : World} {s0 : List UInt8} {l : List Tp.In} {u r : List UInt8} {x : Tp.In} {v v' : Value} {Y Y' : World} (h : Tp.Pw w s0 l (u ++ 10 :: r) v Y) (hu : (10 : UInt8) ∉ u) (hr : Tp.rd u = some x) (hb : Below w.heap.size Y Y') (hf : Tp.F Y') (hrow : Y'.ownsRow w.heap.size 34 3 v' (l.length + 1) (Tp.ics l ++ Tp.ics [x])) : Tp.Pw w s0 (l ++ [x]) r v' Y' := by
  refine ⟨h.low.trans hb, hf, ?_, ?_, fun y hy => ?_, ?_⟩
  · rw [List.length_append, Tp.ics_app]; exact hrow
  · rw [h.eq, Tp.rdA_go hu hr, Tp.aft_aft, List.length_append]; rfl
  · rcases List.mem_append.1 hy with e | e
    · exact h.ok y e
    · rw [List.mem_singleton] at e; subst e; exact (Tp.rd_some hr).2
  · have := h.len
    simp only [List.length_append, List.length_cons, List.length_nil] at this ⊢
    omega
theorem Tp.Pw.done {w : World} {s0 : List UInt8} {l : List Tp.In} {v : Value} {Y : World} (h : Tp.Pw w s0 l [] v Y) (hl : ¬ 4000 < s0.length) : Tp.prsL s0 = (if Tp.chkIn l 0 = 0 then l else []) ∧ Tp.prsN s0 = 0 ∧ Tp.prsE s0 = Tp.chkIn l 0 := by
  have e : Tp.rdA (Tp.sp 10 s0) 0 = .ok l := by rw [h.eq]; simp [Tp.sp, Tp.rdA, Tp.aft]
  unfold Tp.prsL Tp.prsN Tp.prsE
  rw [if_neg hl, if_neg hl, if_neg hl, e]
  exact ⟨rfl, rfl, rfl⟩
theorem Tp.mk_empty (l : List UInt8) : (mk l).toList.isEmpty = l.isEmpty := by rw [mk_toList]
set_option maxHeartbeats 3200000 in
theorem Tp.parse_any (s : List UInt8) (w : World) (hF : Tp.F w) :
    Calls Tryd.prog 15 #[.string (mk s)] w fun e w' => ∃ v, e = .returned (.tuple #[v, .int .i64 (Tp.prsN s), .int .i64 (Tp.prsE s)]) ∧ w'.ownsRow w.heap.size 34 3 v (Tp.prsL s).length (Tp.ics (Tp.prsL s)) ∧ (∀ x ∈ Tp.prsL s, x.ok) ∧ Below w.heap.size w w' := by
  by_cases hl : 4000 < s.length
  · have e1 : Tp.prsL s = [] := if_pos hl
    have e2 : Tp.prsN s = 0 := if_pos hl
    have e3 : Tp.prsE s = 2 := if_pos hl
    rw [e1, e2, e3]
    have hs : (4000 : Int) < (mk s).size := by show (4000 : Int) < s.length; omega
    clear e1 e2 e3 hF
    go_enter Tryd.func15, Tryd.ntmps15
    go_wp2
    go_ret3
    exact ⟨_, rfl, ⟨rfl, Or.inl ⟨rfl, rfl⟩⟩, fun x hx => (by cases hx), st0 w⟩
  · have hs : ¬ (4000 : Int) < (mk s).size := by show ¬ (4000 : Int) < s.length; omega
    have HL := hid hl
    have H0 : Hid (Tp.Pw w s [] s (.slice none 0 0) w) := hid ⟨st0 w, hF, ⟨rfl, Or.inl ⟨rfl, rfl⟩⟩, by cases Tp.rdA (Tp.sp 10 s) 0 <;> rfl, fun x hx => (by cases hx), by simp⟩
    clear hF
    go_enter Tryd.func15, Tryd.ntmps15
    go_wp2
    go_loopw [0, 2] (fun t v wr => ∃ (l : List Tp.In) (r : List UInt8), t = .string (mk r) ∧ Tp.Pw w s l r v wr) (fun t _ _ => match t with | .string b => b.size | _ => 0)
    case atStart => exact ⟨[], s, rfl, H0.out⟩
    case round =>
      obtain ⟨l, r, rfl, hw⟩ := hrel
      have HW := hid hw
      obtain ⟨ra, rc, rfl⟩ := Tp.row_len hw.row
      have hlen := hw.len
      by_cases hr : r = []
      · subst hr
        obtain ⟨e1, e2, e3⟩ := hw.done HL.out
        have HE := hid (And.intro e1 (And.intro e2 e3))
        have hem : (mk ([] : List UInt8)).toList.isEmpty = true := by rw [Tp.mk_empty]; rfl
        clear hw e1 e2 e3
        have HCK := hid (Tp.checkInputs l (.slice ra l.length rc) wr.heap.size 0 wr (Tp.own_in HW.out.row) (Nat.le_refl _))
        by_cases hc : Tp.chkIn l 0 = 0
        · have HC := hid hc
          rw [hc] at HCK
          clear hc
          go_wp2_with (go_at_call 23; refine HCK.out.mono ?_; rintro e w1 ⟨rfl, hb1⟩; have HB1 := hid hb1; clear hb1)
          go_ret3
          rw [HE.out.1, HE.out.2.1, HE.out.2.2, if_pos HC.out, HC.out]
          exact ⟨_, rfl, Tp.row_kept HW.out.row HB1.out, HW.out.ok, stp HW.out.low HB1.out⟩
        · have HC := hid hc
          have hne : (Tp.chkIn l 0 != 0) = true := by simpa using hc
          generalize hce : Tp.chkIn l 0 = ce at *
          clear hc
          go_wp2_with (go_at_call 23; refine HCK.out.mono ?_; rintro e w1 ⟨rfl, hb1⟩; have HB1 := hid hb1; clear hb1)
          go_ret3
          rw [HE.out.1, HE.out.2.1, HE.out.2.2, if_neg HC.out]
          exact ⟨_, rfl, ⟨rfl, Or.inl ⟨rfl, rfl⟩⟩, fun x hx => (by cases hx), stp HW.out.low HB1.out⟩
      · have hem : (mk r).toList.isEmpty = false := by rw [Tp.mk_empty]; cases r with | nil => exact absurd rfl hr | cons _ _ => rfl
        have HCT := hid (Tp.cut_any r [10] (by have := HL.out; omega) wr HW.out.fc)
        by_cases h10 : (10 : UInt8) ∈ r
        · obtain ⟨u, q, rfl, hu⟩ := Tp.first_at 10 r h10
          rw [Tp.cut_at 10 u q hu] at HCT
          have HU := hid hu
          have hul : u.length + q.length + 1 = (u ++ 10 :: q).length := by simp; omega
          cases hrd : Tp.rd u with
          | none =>
            have HOL : Hid (∀ w1, Tp.F w1 → Calls Tryd.prog 31 #[.string (mk u)] w1 fun e w' => e = .returned (.tuple #[.agg #[.int .i64 0, .int .i64 0, .int .u8 0], .int .i64 1]) ∧ Below w1.heap.size w1 w') := hid (fun w1 h1 => by have h9 := Tp.ofLine_any u (by have := HL.out; omega) w1 h1; rw [hrd] at h9; exact h9)
            obtain ⟨e1, e2, e3⟩ := Tp.pw_no HW.out.eq HL.out (Tp.rdA_at hu hrd)
            have HE := hid (And.intro e1 (And.intro e2 e3))
            clear hw e1 e2 e3 hu hrd h10
            go_wp2_with (first
              | (go_at_call 30; refine HCT.out.mono ?_; rintro e w1 ⟨rfl, hb1⟩; have HW1 := hid (HW.out.kept hb1); clear hb1)
              | (go_at_call 31; refine (HOL.out _ HW1.out.fc).mono ?_; rintro e w2 ⟨rfl, hb2⟩; have HW2 := hid (HW1.out.kept hb2); clear hb2))
            go_ret3
            rw [HE.out.1, HE.out.2.1, HE.out.2.2]
            exact ⟨_, rfl, ⟨rfl, Or.inl ⟨rfl, rfl⟩⟩, fun x hx => (by cases hx), stA HW2.out.low _⟩
          | some x =>
            have HOL : Hid (∀ w1, Tp.F w1 → Calls Tryd.prog 31 #[.string (mk u)] w1 fun e w' => e = .returned (.tuple #[.agg #[.int .i64 x.c, .int .i64 x.p, .int .u8 x.d], .int .i64 0]) ∧ Below w1.heap.size w1 w') := hid (fun w1 h1 => by have h9 := Tp.ofLine_any u (by have := HL.out; omega) w1 h1; rw [hrd] at h9; exact h9)
            have HRD := hid hrd
            have rb := Tp.run_bin x.c x.p x.d
            clear hw hu hrd h10
            go_wp2_with (first
              | (go_at_call 30; refine HCT.out.mono ?_; rintro e w1 ⟨rfl, hb1⟩; have HW1 := hid (HW.out.kept hb1); clear hb1)
              | (go_at_call 31; refine (HOL.out _ HW1.out.fc).mono ?_; rintro e w2 ⟨rfl, hb2⟩; have HW2 := hid (HW1.out.kept hb2); clear hb2)
              | (at_builtin; refine Tp.appOne Tryd.underlying22 Tp.info_in3 rfl (by omega) (by rfl) _ _ (by rfl) (by rfl) (HW2.out.kept (stA (stA (st0 w2) _) _)).row _ _ (by rfl) (ys := Tp.ics [x]) rfl (Tp.in_cells _ x _ (by simp)) (Tp.in_one x) (by have := HL.out; omega) (by have := HL.out; omega) (HW2.out.kept (stA (stA (st0 w2) _) _)).low.size ?_; intro v' w' hown' hb'))
            have hP := (HW2.out.kept (stA (stA (st0 w2) _) _)).next HU.out HRD.out hb' (H0.out.fc.kept ((HW2.out.kept (stA (stA (st0 w2) _) _)).low.trans hb')) hown'
            refine ⟨⟨l ++ [x], q, rfl, hP⟩, ?_⟩
            show q.length < (u ++ 10 :: q).length
            omega
        · rw [Tp.cut_no 10 r h10] at HCT
          obtain ⟨e1, e2, e3⟩ := Tp.pw_no HW.out.eq HL.out (Tp.rdA_last h10 hr)
          have HE := hid (And.intro e1 (And.intro e2 e3))
          clear hw e1 e2 e3
          cases hrd : Tp.rd r with
          | none =>
            have HOL : Hid (∀ w1, Tp.F w1 → Calls Tryd.prog 31 #[.string (mk r)] w1 fun e w' => e = .returned (.tuple #[.agg #[.int .i64 0, .int .i64 0, .int .u8 0], .int .i64 1]) ∧ Below w1.heap.size w1 w') := hid (fun w1 h1 => by have h9 := Tp.ofLine_any r (by have := HL.out; omega) w1 h1; rw [hrd] at h9; exact h9)
            clear hrd
            go_wp2_with (first
              | (go_at_call 30; refine HCT.out.mono ?_; rintro e w1 ⟨rfl, hb1⟩; have HW1 := hid (HW.out.kept hb1); clear hb1)
              | (go_at_call 31; refine (HOL.out _ HW1.out.fc).mono ?_; rintro e w2 ⟨rfl, hb2⟩; have HW2 := hid (HW1.out.kept hb2); clear hb2))
            go_ret3
            rw [HE.out.1, HE.out.2.1, HE.out.2.2]
            exact ⟨_, rfl, ⟨rfl, Or.inl ⟨rfl, rfl⟩⟩, fun x hx => (by cases hx), stA HW2.out.low _⟩
          | some x =>
            have HOL : Hid (∀ w1, Tp.F w1 → Calls Tryd.prog 31 #[.string (mk r)] w1 fun e w' => e = .returned (.tuple #[.agg #[.int .i64 x.c, .int .i64 x.p, .int .u8 x.d], .int .i64 0]) ∧ Below w1.heap.size w1 w') := hid (fun w1 h1 => by have h9 := Tp.ofLine_any r (by have := HL.out; omega) w1 h1; rw [hrd] at h9; exact h9)
            clear hrd
            go_wp2_with (first
              | (go_at_call 30; refine HCT.out.mono ?_; rintro e w1 ⟨rfl, hb1⟩; have HW1 := hid (HW.out.kept hb1); clear hb1)
              | (go_at_call 31; refine (HOL.out _ HW1.out.fc).mono ?_; rintro e w2 ⟨rfl, hb2⟩; have HW2 := hid (HW1.out.kept hb2); clear hb2))
            go_ret3
            rw [HE.out.1, HE.out.2.1, HE.out.2.2]
            exact ⟨_, rfl, ⟨rfl, Or.inl ⟨rfl, rfl⟩⟩, fun x hx => (by cases hx), stA HW2.out.low _⟩
end Go.Proofs.YtbfflipcmciapaaDoor
