/-
  For every sound and every two numbers of clocks the law ToneParts of the program returns true and leaves its arguments as they were; no condition.
-/
import Derived.Test.YtjmmbbehjklhgaaTonePartsFrame
import Derived.Test.YtjmmbbehjklhgaaTonePartsWalk
import Derived.Test.YtjmmbbehjklhgaaTonePartsBad
import Derived.Test.YtjmmbbehjklhgaaTonO
namespace Go.Proofs.Ytjmmbbehjklhgaa
open Go.ChangeShapes Go.WideShapes Go.ChangeAt Go.RowKit
set_option linter.unusedVariables false

theorem toneParts_walk : TonePartsWalk := by
  intro H enc W base v0 v1 v2 d0 d1 d2 p0 p1 p2 k0 t0 k1 t1 k2 t2
  obtain ⟨s, rfl, hs, _⟩ := open_sound k0 t0
  obtain ⟨a, rfl, _, _, wa⟩ := open_int Try.underlying3 k1 t1
  obtain ⟨b, rfl, _, _, wb⟩ := open_int Try.underlying3 k2 t2
  by_cases hn : 0 ≤ a ∧ 0 ≤ b ∧ a ≤ 20000 ∧ b ≤ 20000 - a
  · obtain ⟨A, rfl⟩ := Int.eq_ofNat_of_zero_le hn.1
    obtain ⟨B, rfl⟩ := Int.eq_ofNat_of_zero_le hn.2.1
    by_cases hw : 0 ≤ s.w ∧ s.w ≤ 15
    · exact parts_ok s A B W ⟨hs, hw⟩ (by omega)
    · exact parts_wait s A B W (by omega) (by omega)
  · exact parts_num s a b W (by omega)
theorem toneParts_holds : Rows.TonePartsSaid := toneParts_row toneParts_walk
end Go.Proofs.Ytjmmbbehjklhgaa
