/-
  For any text the law TapeParse of the program returns true and leaves its argument as it was; the listed library variables are as the tied card says.
-/
import Derived.Test.YtbfflipcmciapaaDoorTapeParseFrame
import Derived.Test.YtbfflipcmciapaaDoorTapeParseWalk
namespace Go.Proofs.YtbfflipcmciapaaDoor
open Go.ChangeShapes Go.WideShapes Go.ChangeAt Go.RowKit
set_option linter.unusedVariables false
set_option maxRecDepth 100000

theorem tapeParse_walk : TapeParseWalk := by
  intro H enc W base v0 d0 p0 hF k0 t0
  obtain ⟨x, rfl, _⟩ := Go.ChangeMaps.open_string Tryd.underlying9 k0 t0
  have := Tp.parse_law x.data.toList W hF
  rw [Tp.mk_bs] at this
  exact this
theorem tapeParse_holds : Rows.TapeParseCardSaid := tapeParse_card tapeParse_walk
end Go.Proofs.YtbfflipcmciapaaDoor
