/-
  For anything that was shown and every number the law TapeFrame of the program returns true and leaves its arguments as they were; the listed library variables are as the tied card says.
-/
import Derived.Test.YtbfflipcmciapaaDoorTapeFrameFrame
import Derived.Test.YtbfflipcmciapaaDoorTapeFrameWalk
import Derived.Test.YtbfflipcmciapaaDoorTapM
namespace Go.Proofs.YtbfflipcmciapaaDoor
open Go.ChangeShapes Go.WideShapes Go.ChangeAt Go.RowKit
set_option linter.unusedVariables false
set_option maxRecDepth 100000

theorem tapeFrame_walk : TapeFrameWalk := by
  intro H enc W base v0 v1 d0 d1 p0 p1 hF k0 t0 k1 t1
  have hone : Deep.oneCellFields Tryd.prog (Tryd.prog.fieldsOf 54) = true := by kernel_rfl
  obtain ⟨c0, c1, c2, y0, y1, y2, n, rfl, rfl, g0, g1, g2⟩ := open_agg3 (P := Tryd.prog) (t := 54) Tryd.underlying54 (by kernel_rfl) (by kernel_rfl) k0 t0
  obtain ⟨a, rfl, _, _, wa⟩ := open_int Tryd.underlying3 k1 t1
  obtain ⟨l, hl, hll⟩ := Tp.open_lines g0 (fun k hk => hF.2 k (by
    simp only [DataW.weights, Tryd.underlying54]
    exact DataW.weights_mem_each (j := 0) rfl rfl k hk))
  exact Tp.frame_law c0 c1 c2 l a W hF.1 hl hll
theorem tapeFrame_holds : Rows.TapeFrameCardSaid := tapeFrame_card tapeFrame_walk
end Go.Proofs.YtbfflipcmciapaaDoor
