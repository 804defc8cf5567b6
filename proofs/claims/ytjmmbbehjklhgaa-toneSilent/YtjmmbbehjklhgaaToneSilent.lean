/-
  For every sound and every number of clocks the law ToneSilent of the program returns true and leaves its arguments as they were; no condition.
-/
import Derived.Test.YtjmmbbehjklhgaaToneSilentFrame
import Derived.Test.YtjmmbbehjklhgaaToneSilentWalk
import Derived.Test.YtjmmbbehjklhgaaToneSilentBad
import Derived.Test.YtjmmbbehjklhgaaTonO
namespace Go.Proofs.Ytjmmbbehjklhgaa
open Go.ChangeShapes Go.WideShapes Go.ChangeAt Go.RowKit
set_option linter.unusedVariables false

theorem toneSilent_walk : ToneSilentWalk := by
  intro H enc W base v0 v1 d0 d1 p0 p1 k0 t0 k1 t1
  obtain ⟨s, rfl, hs, _⟩ := open_sound k0 t0
  obtain ⟨n, rfl, _, _, wn⟩ := open_int Try.underlying3 k1 t1
  by_cases hw : 0 ≤ s.w ∧ s.w ≤ 15
  · by_cases hn : 0 ≤ n ∧ n ≤ 20000
    · obtain ⟨N, rfl⟩ := Int.eq_ofNat_of_zero_le hn.1
      exact silent_ok s W hs N (by omega) hw
    · exact silent_may s n W hs hn hw
  · exact silent_check s n W hs (by omega)
theorem toneSilent_holds : Rows.ToneSilentSaid := toneSilent_row toneSilent_walk
end Go.Proofs.Ytjmmbbehjklhgaa
