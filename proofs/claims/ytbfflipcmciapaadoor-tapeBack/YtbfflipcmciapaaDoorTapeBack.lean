/-
  For anything that is pressed and every byte the law TapeBack of the program returns true and leaves its arguments as they were; the listed library variables are as the tied card says.
-/
import Derived.Test.YtbfflipcmciapaaDoorTapeBackFrame
import Derived.Test.YtbfflipcmciapaaDoorTapeBackWalk
import Derived.Test.YtbfflipcmciapaaDoorTapO
namespace Go.Proofs.YtbfflipcmciapaaDoor
open Go.ChangeShapes Go.WideShapes Go.ChangeAt Go.RowKit
set_option linter.unusedVariables false
set_option maxRecDepth 100000

theorem tapeBack_walk : TapeBackWalk := by
  intro H enc W base v0 v1 d0 d1 p0 p1 hF k0 t0 k1 t1
  obtain ⟨l, hin, hll, hlf⟩ := Tp.open_inputs k0 t0
  obtain ⟨a, rfl, _, _, wa⟩ := open_int Tryd.underlying5 k1 t1
  have ha := bounds_u8 wa
  obtain ⟨n, rfl⟩ := Int.eq_ofNat_of_zero_le ha.1
  exact Tp.back_law v0 l n W hF hin hlf (by omega)
theorem tapeBack_holds : Rows.TapeBackCardSaid := tapeBack_card tapeBack_walk
end Go.Proofs.YtbfflipcmciapaaDoor
