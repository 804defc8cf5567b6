/-
  For every pad and every two bytes the law PadSays of the program returns true and leaves its arguments as they were; no condition.
-/
import Derived.Test.YtkonmgjboojliaaPadSaysFrame
import Derived.Test.YtkonmgjboojliaaPadSaysWalk
import Derived.Test.YtkonmgjboojliaaPadO
namespace Go.Proofs.Ytkonmgjboojliaa
open Go.ChangeShapes Go.WideShapes Go.ChangeAt Go.RowKit
set_option linter.unusedVariables false

theorem padSays_walk : PadSaysWalk := by
  intro H enc W base v0 v1 v2 d0 d1 d2 p0 p1 p2 k0 t0 k1 t1 k2 t2
  obtain ⟨d, s, l, rfl, hd, hs⟩ := open_pad k0 t0
  obtain ⟨a, rfl, _, _, wa⟩ := open_int Try.underlying5 k1 t1
  obtain ⟨b, rfl, _, _, wb⟩ := open_int Try.underlying5 k2 t2
  exact says_walk d s a b l W hd hs (bounds_u8 wa) (bounds_u8 wb)
theorem padSays_holds : Rows.PadSaysSaid := padSays_row padSays_walk
end Go.Proofs.Ytkonmgjboojliaa
