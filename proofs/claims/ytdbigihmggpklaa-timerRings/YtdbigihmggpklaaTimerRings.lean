/-
  For every timer and every number of clocks the law TimerRings of the program returns true and leaves its arguments as they were; no condition.
-/
import Derived.Test.YtdbigihmggpklaaTimerRingsFrame
import Derived.Test.YtdbigihmggpklaaTimerRingsWalk
namespace Go.Proofs.Ytdbigihmggpklaa
open Go.ChangeShapes Go.WideShapes Go.ChangeAt Go.RowKit
set_option linter.unusedVariables false

theorem timerRings_walk : TimerRingsWalk := by
  intro H enc W base v0 v1 d0 d1 p0 p1 k0 t0 k1 t1
  obtain ⟨r, c, on, g, rfl, hr, hc⟩ := open_timer k0 t0
  obtain ⟨n, rfl, _, _, wn⟩ := open_int Try.underlying3 k1 t1
  by_cases hn : 0 ≤ n ∧ n ≤ 20000
  · exact rings_ok r c n on g W hr hc hn
  · exact rings_bad r c n on g W (by omega)
theorem timerRings_holds : Rows.TimerRingsSaid := timerRings_row timerRings_walk
end Go.Proofs.Ytdbigihmggpklaa
