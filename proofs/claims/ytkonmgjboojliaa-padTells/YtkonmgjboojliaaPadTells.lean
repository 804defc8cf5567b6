/-
  For every pad, every script of bytes and every byte the law PadTells of the program returns true and leaves its arguments as they were; no condition.
-/
import Derived.Test.YtkonmgjboojliaaPadTellsFrame
import Derived.Test.YtkonmgjboojliaaPadTellsWalk
import Derived.Test.YtkonmgjboojliaaPadO
namespace Go.Proofs.Ytkonmgjboojliaa
open Go.ChangeShapes Go.WideShapes Go.ChangeAt Go.RowKit
set_option linter.unusedVariables false

theorem padTells_walk : PadTellsWalk := by
  intro H enc W base v0 v1 v2 d0 d1 d2 p0 p1 p2 k0 t0 k1 t1 k2 t2
  obtain ⟨d, s, l, rfl, hd, hs⟩ := open_pad k0 t0
  obtain ⟨sc, hsc, hl, hw⟩ := open_is Try.underlying29 Try.underlying5 (by kernel_rfl) k1 t1
  obtain ⟨b, rfl, _, _, wb⟩ := open_int Try.underlying5 k2 t2
  exact tells_walk d s b l v1 sc W hd hs (bounds_u8 wb) hsc hl hw
theorem padTells_holds : Rows.PadTellsSaid := padTells_row padTells_walk
end Go.Proofs.Ytkonmgjboojliaa
