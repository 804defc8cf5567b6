/-
  For every beam and every number of clocks the law BeamRuns of the program returns true and leaves its arguments as they were; no condition.
-/
import Derived.Test.YteanddobckpcpaaBeamRunsFrame
import Derived.Test.YteanddobckpcpaaBeamRunsWalk
import Derived.Test.YteanddobckpcpaaBeamRunsBad
namespace Go.Proofs.Yteanddobckpcpaa
open Go.ChangeShapes Go.WideShapes Go.ChangeAt Go.RowKit
set_option linter.unusedVariables false

theorem beamRuns_walk : BeamRunsWalk := by
  intro H enc W base v0 v1 d0 d1 p0 p1 k0 t0 k1 t1
  obtain ⟨l, a, f, g, rfl⟩ := Bm.open_beam k0 t0
  obtain ⟨n, rfl, _, _, wn⟩ := open_int Try.underlying3 k1 t1
  by_cases h : BOk l a f ∧ 0 ≤ n ∧ n ≤ 20000
  · exact Bm.runs_ok l a f n g W h.1 h.2
  · exact Bm.runs_bad l a f n g W h
theorem beamRuns_holds : Rows.BeamRunsSaid := beamRuns_row beamRuns_walk
end Go.Proofs.Yteanddobckpcpaa
