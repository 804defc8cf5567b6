/-
  For every sound, every port and every byte the law TonePut of the program returns true and leaves its arguments as they were; no condition.
-/
import Derived.Test.YtjmmbbehjklhgaaTonePutFrame
import Derived.Test.YtjmmbbehjklhgaaTonePutWalk
import Derived.Test.YtjmmbbehjklhgaaTonePutBad
import Derived.Test.YtjmmbbehjklhgaaTonO
namespace Go.Proofs.Ytjmmbbehjklhgaa
open Go.ChangeShapes Go.WideShapes Go.ChangeAt Go.RowKit
set_option linter.unusedVariables false

theorem tonePut_walk : TonePutWalk := by
  intro H enc W base v0 v1 v2 d0 d1 d2 p0 p1 p2 k0 t0 k1 t1 k2 t2
  obtain ⟨s, rfl, hs, _⟩ := open_sound k0 t0
  obtain ⟨n, rfl, _, _, wn⟩ := open_int Try.underlying3 k1 t1
  obtain ⟨b, rfl, _, _, wb⟩ := open_int Try.underlying5 k2 t2
  have hb := bounds_u8 wb
  by_cases hn : 0 ≤ n ∧ n ≤ 23
  · obtain ⟨k, rfl⟩ := Int.eq_ofNat_of_zero_le hn.1
    exact put_law_ok s k b W (by omega) hs hb
  · exact put_law_bad s n b W (by omega)
theorem tonePut_holds : Rows.TonePutSaid := tonePut_row tonePut_walk
end Go.Proofs.Ytjmmbbehjklhgaa
