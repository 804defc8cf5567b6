/-
  The law TapeParse's own reading of a number.
-/
import Derived.Test.YtbfflipcmciapaaDoorTapI
import Derived.Test.YtbfflipcmciapaaDoorShelfT
import Derived.Lib.ParseIntBTie
namespace Go.Proofs.YtbfflipcmciapaaDoor
open Go.ChangeShapes Go.WideShapes Go.ChangeAt Go.RowKit
set_option linter.unusedVariables false
set_option maxRecDepth 100000

theorem Tp.fmt_any (n : Int) (h0 : -9223372036854775808 ≤ n) (h1 : n ≤ 9223372036854775807) (w : World) (h : Tp.F w) :
    Calls Tryd.prog 18 #[.int .i64 n, .int .i64 10] w fun e w' => e = .returned (.string (mk (Lib.itoa n))) ∧ Below w.heap.size w w' := by
  refine (Tryd.strconv_FormatInt_10 n h0 h1 w h.pow).mono fun e w' ⟨he, k, os, hw⟩ => ⟨he, ?_⟩
  subst hw
  exact Tp.below_grow w k os
theorem Tp.whole_any (a : List UInt8) (hl : a.length ≤ 10000) (w : World) (hF : Tp.F w) :
    Calls Tryd.prog 16 #[.string (mk a)] w fun e w' => e = .returned (.tuple #[.int .i64 (Tp.atv a), .bool (Tp.wh a).isSome]) ∧ Below w.heap.size w w' := by
  obtain ⟨e1, h1, k1⟩ := hF.syn
  obtain ⟨e2, h2, k2⟩ := hF.ran
  have hs : (mk a).size = a.length := rfl
  have HF := hid hF
  cases hh : Lib.atoiAll a with
  | ok v =>
    have hp : Lib.parseIntB 64 a = .ok v := (Lib.parseIntB_64 a).trans hh
    have hb := Lib.atoiAll_bounds hh
    have ev : Tp.atv a = v := by unfold Tp.atv; rw [hh]
    have HP : Hid (Calls Tryd.prog 17 #[.string (mk a), .int .i64 10, .int .i64 64] w fun e w' => e = .returned (.tuple #[.int .i64 v, .nilIface]) ∧ Below w.heap.size w w') := hid ((Tryd.strconv_ParseInt_10_at64_ok (mk a) (by omega) v hp w).mono fun e w' h => ⟨h.1, by
      rcases h.2 with rfl | ⟨t, rfl⟩
      · exact st0 _
      · exact Joins.below_bytesWorld _ _ _ _ (Nat.le_refl _)⟩)
    rw [ev]
    by_cases he : Lib.itoa v = a
    · have ew : Tp.wh a = some v := by unfold Tp.wh; rw [hh]; simp [he]
      have hne : ((mk (Lib.itoa v)).toList == (mk a).toList) = true := by rw [mk_toList, mk_toList]; simpa using he
      rw [ew]
      clear hF e1 h1 k1 e2 h2 k2 hs hh hp ev ew he
      go_enter Tryd.func16, Tryd.ntmps16
      go_wp2_with (first
        | (go_at_call 17; refine HP.out.mono ?_; rintro e w1 ⟨rfl, hb1⟩; have HB1 := hid hb1; clear hb1)
        | (go_at_call 18; refine (Tp.fmt_any v hb.1 hb.2 _ (HF.out.kept HB1.out)).mono ?_; rintro e w2 ⟨rfl, hb2⟩; have HB2 := hid (stp HB1.out hb2); clear hb2))
      go_ret2
      exact ⟨rfl, HB2.out⟩
    · have ew : Tp.wh a = none := by unfold Tp.wh; rw [hh]; simp [he]
      have hne : ((mk (Lib.itoa v)).toList == (mk a).toList) = false := by rw [mk_toList, mk_toList]; simpa using he
      rw [ew]
      clear hF e1 h1 k1 e2 h2 k2 hs hh hp ev ew he
      go_enter Tryd.func16, Tryd.ntmps16
      go_wp2_with (first
        | (go_at_call 17; refine HP.out.mono ?_; rintro e w1 ⟨rfl, hb1⟩; have HB1 := hid hb1; clear hb1)
        | (go_at_call 18; refine (Tp.fmt_any v hb.1 hb.2 _ (HF.out.kept HB1.out)).mono ?_; rintro e w2 ⟨rfl, hb2⟩; have HB2 := hid (stp HB1.out hb2); clear hb2))
      go_ret2
      exact ⟨rfl, HB2.out⟩
  | «syntax» =>
    have hp : Lib.parseIntB 64 a = .«syntax» := (Lib.parseIntB_64 a).trans hh
    have ev : Tp.atv a = 0 := by unfold Tp.atv; rw [hh]
    have ew : Tp.wh a = none := by unfold Tp.wh; rw [hh]
    have HP := hid (Tryd.strconv_ParseInt_10_at64_syntax (mk a) (by omega) hp e1 w h1 k1)
    rw [ev, ew]
    clear hF h1 k1 h2 k2 hs hh hp ev ew
    go_enter Tryd.func16, Tryd.ntmps16
    go_wp2_with (go_at_call 17; refine HP.out.mono ?_; rintro e w1 ⟨N, rfl, _, _, hb1⟩; have HB1 := hid hb1; clear hb1)
    go_ret2
    exact ⟨rfl, HB1.out⟩
  | range =>
    have hp : Lib.parseIntB 64 a = .range := (Lib.parseIntB_64 a).trans hh
    have ev : Tp.atv a = Lib.intSat 64 a := by unfold Tp.atv; rw [hh, Lib.intSat_64]
    have ew : Tp.wh a = none := by unfold Tp.wh; rw [hh]
    have HP := hid (Tryd.strconv_ParseInt_10_at64_range (mk a) (by omega) hp e2 w h2 k2)
    have e3 : Lib.intSat 64 (mk a).data.toList = Tp.atv a := ev.symm
    rw [e3] at HP
    rw [ew]
    generalize Tp.atv a = q at *
    clear hF h1 k1 h2 k2 hs hh hp ev ew e3
    go_enter Tryd.func16, Tryd.ntmps16
    go_wp2_with (go_at_call 17; refine HP.out.mono ?_; rintro e w1 ⟨N, rfl, _, _, hb1⟩; have HB1 := hid hb1; clear hb1)
    go_ret2
    exact ⟨rfl, HB1.out⟩
end Go.Proofs.YtbfflipcmciapaaDoor
