/-
  For every timer, on or off, and every number of clocks the law TimerRuns of the program returns true and leaves its arguments as they were; no condition.
-/
import Derived.Test.YtdbigihmggpklaaTimerRunsFrame
import Derived.Test.YtdbigihmggpklaaTimerRunsWalk
import Derived.Test.YtdbigihmggpklaaTimerRunsBad
namespace Go.Proofs.Ytdbigihmggpklaa
open Go.ChangeShapes Go.WideShapes Go.ChangeAt Go.RowKit
set_option linter.unusedVariables false

theorem timerRuns_walk : TimerRunsWalk := by
  intro H enc W base v0 v1 v2 d0 d1 d2 p0 p1 p2 k0 t0 k1 t1 k2 t2
  obtain ⟨r, c, on, g, rfl, hr, hc⟩ := open_timer k0 t0
  obtain ⟨o2, rfl, _⟩ := open_bool Try.underlying4 k1 t1
  obtain ⟨n, rfl, _, _, wn⟩ := open_int Try.underlying3 k2 t2
  by_cases hn : 0 ≤ n ∧ n ≤ 20000
  · exact runs_ok r c n on o2 g W hr hc hn
  · exact runs_bad r c n on o2 g W hr hc (by omega)
theorem timerRuns_holds : Rows.TimerRunsSaid := timerRuns_row timerRuns_walk
end Go.Proofs.Ytdbigihmggpklaa
