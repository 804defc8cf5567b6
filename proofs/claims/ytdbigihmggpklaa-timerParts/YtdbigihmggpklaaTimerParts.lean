/-
  For every timer and every two numbers of clocks the law TimerParts of the program returns true and leaves its arguments as they were; no condition.
-/
import Derived.Test.YtdbigihmggpklaaTimerPartsFrame
import Derived.Test.YtdbigihmggpklaaTimerPartsWalk
import Derived.Test.YtdbigihmggpklaaTimerPartsWalk2
namespace Go.Proofs.Ytdbigihmggpklaa
open Go.ChangeShapes Go.WideShapes Go.ChangeAt Go.RowKit
set_option linter.unusedVariables false

theorem timerParts_walk : TimerPartsWalk := by
  intro H enc W base v0 v1 v2 d0 d1 d2 p0 p1 p2 k0 t0 k1 t1 k2 t2
  obtain ⟨r, c, on, g, rfl, hr, hc⟩ := open_timer k0 t0
  obtain ⟨a, rfl, _, _, wa⟩ := open_int Try.underlying3 k1 t1
  obtain ⟨b, rfl, _, _, wb⟩ := open_int Try.underlying3 k2 t2
  by_cases hn : 0 ≤ a ∧ 0 ≤ b ∧ a + b ≤ 20000
  · obtain ⟨h1, h2, h3⟩ := hn
    cases on
    · exact parts_off r c a b g W hr hc h1 h2 h3
    · by_cases h4 : c + 1 ≤ 20000
      · exact parts_near r c a b g W hr hc h1 h2 h3 h4
      · exact parts_far r c a b g W hr hc h1 h2 h3 (by omega)
  · exact parts_bad r c a b on g W (by omega)
theorem timerParts_holds : Rows.TimerPartsSaid := timerParts_row timerParts_walk
end Go.Proofs.Ytdbigihmggpklaa
