/-
  For anything that is pressed, every byte and any text the law TapePrint of the program returns true and leaves its arguments as they were; the listed library variables are as the tied card says.
-/
import Derived.Test.YtbfflipcmciapaaDoorTapePrintFrame
import Derived.Test.YtbfflipcmciapaaDoorTapePrintWalk
import Derived.Test.YtbfflipcmciapaaDoorTapO
namespace Go.Proofs.YtbfflipcmciapaaDoor
open Go.ChangeShapes Go.WideShapes Go.ChangeAt Go.RowKit
set_option linter.unusedVariables false
set_option maxRecDepth 100000

theorem tapePrint_walk : TapePrintWalk := by
  intro H enc W base v0 v1 v2 d0 d1 d2 p0 p1 p2 hF k0 t0 k1 t1 k2 t2
  obtain ⟨l, hin, hll, hlf⟩ := Tp.open_inputs k0 t0
  obtain ⟨a, rfl, _, _, wa⟩ := open_int Tryd.underlying5 k1 t1
  obtain ⟨x, rfl, _⟩ := Go.ChangeMaps.open_string Tryd.underlying9 k2 t2
  have ha := bounds_u8 wa
  obtain ⟨n, rfl⟩ := Int.eq_ofNat_of_zero_le ha.1
  have := Tp.print_law v0 l n x.data.toList W hF hin hlf (by omega)
  rw [Tp.mk_bs] at this
  exact this
theorem tapePrint_holds : Rows.TapePrintCardSaid := tapePrint_card tapePrint_walk
end Go.Proofs.YtbfflipcmciapaaDoor
