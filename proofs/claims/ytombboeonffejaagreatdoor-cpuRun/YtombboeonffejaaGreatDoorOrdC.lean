/-
  What package order's Check answers, for any order; nothing old is written.
-/
import Derived.Test.YtombboeonffejaaGreatDoorOrdB
namespace Go.Proofs.YtombboeonffejaaGreatDoor
open Go.ChangeShapes Go.WideShapes Go.ChangeAt Go.RowKit
set_option linter.unusedVariables false

theorem okTo_step {h : Int} {v : Nat → Int} {j : Nat} (a : okTo h v j) (b : O.inB h j (v j) = true) : okTo h v (j + 1) := fun i hi => by
  by_cases e : i < j
  · exact a i e
  · have : i = j := by omega
    subst this; exact b
end Go.Proofs.YtombboeonffejaaGreatDoor
