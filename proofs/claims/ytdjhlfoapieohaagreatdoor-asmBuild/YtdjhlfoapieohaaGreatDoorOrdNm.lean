/-
  What package order's Name answers; nothing old is written.
-/
import Derived.Test.YtdjhlfoapieohaaGreatDoorOrdB
namespace Go.Proofs.YtdjhlfoapieohaaGreatDoor
open Go.ChangeShapes Go.WideShapes Go.ChangeAt Go.RowKit
set_option linter.unusedVariables false

theorem name_yes (k : Nat) (hk : k < 32) (h30 : k ≠ 30) (w : World) (hs : shapesAt w) :
    Calls Tryz.prog 50 #[.int .i64 k] w fun e w' => e = .returned (.tuple #[.string (O.nameS k), .int .i64 0]) ∧ Below w.heap.size w w' := by
  have HS := hid hs
  clear hs
  go_enter Tryz.func50, Tryz.ntmps50
  go_wp2_with (go_at_call 75; refine (shape_yes k hk h30 _ HS.out).mono ?_; rintro e w1 ⟨rfl, hb1⟩)
  go_ret2
  exact ⟨rfl, stA hb1 _⟩
theorem name_no (op : Int) (h : O.isOp op = false) (w : World) (hs : shapesAt w) :
    Calls Tryz.prog 50 #[.int .i64 op] w fun e w' => e = .returned (.tuple #[.string ⟨#[]⟩, .int .i64 5]) ∧ Below w.heap.size w w' := by
  have HS := hid hs
  clear hs
  have H := hid h
  clear h
  go_enter Tryz.func50, Tryz.ntmps50
  go_wp2_with (go_at_call 75; refine (shape_no op H.out _ HS.out).mono ?_; rintro e w1 ⟨rfl, hb1⟩)
  go_ret2
  exact ⟨rfl, stA hb1 _⟩
end Go.Proofs.YtdjhlfoapieohaaGreatDoor
