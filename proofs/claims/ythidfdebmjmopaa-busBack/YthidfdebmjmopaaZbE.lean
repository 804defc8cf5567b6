/-
  For every machine, every address and every byte the law BusBack of the program returns true and leaves its arguments as they were; no condition.
-/
import Derived.Test.YthidfdebmjmopaaBusBackFrame
import Derived.Test.YthidfdebmjmopaaZbD
import Derived.Test.YthidfdebmjmopaaZbN
namespace Go.Proofs.Ythidfdebmjmopaa
open Go.ChangeShapes Go.WideShapes Go.ChangeAt Go.RowKit
set_option linter.unusedVariables false
set_option maxRecDepth 100000

section
theorem busBack_walk : BusBackWalk := by
  intro H enc W base v0 v1 v2 d0 d1 d2 p0 p1 p2 k0 t0 k1 t1 k2 t2
  obtain ⟨M, S, rfl, hok, hs, hz⟩ := open_mach k0 t0
  obtain ⟨a, rfl, _, _, wa⟩ := open_int Try.underlying23 k1 t1
  obtain ⟨n, rfl, _, _, wn⟩ := open_int Try.underlying5 k2 t2
  have ha := bounds_u16 wa
  have hn := bounds_u8 wn
  by_cases hc : M.chk = 0
  · exact Bu.back_ok M S W a n ha hn hs (chk_fit hok hc)
  · exact Bu.back_bad M S W a n ha hs.lens hz hc
theorem busBack_holds : Rows.BusBackSaid := busBack_row busBack_walk
end
end Go.Proofs.Ythidfdebmjmopaa
