/-
  For every two words the law OrderRead of the program returns true and leaves its arguments as they were; its condition: the program's and the library's listed variables hold what the program's text lays (the card ties them).
-/
import Derived.Test.YtgpijkcbehcaaabDoorRefO
import Derived.Test.YtgpijkcbehcaaabDoorOrderReadFrame
namespace Go.Proofs.YtgpijkcbehcaaabDoor
open Go.ChangeShapes Go.WideShapes Go.ChangeAt Go.RowKit
set_option linter.unusedVariables false

set_option maxRecDepth 100000 in
set_option maxHeartbeats 1600000 in
theorem read_law (a b : Int) (ha : 0 ≤ a ∧ a ≤ 65535) (hb : 0 ≤ b ∧ b ≤ 65535) (w : World) (hF : Facts w) :
    Calls Tryd.prog 3 #[.int .u16 a, .int .u16 b] w fun e w' => e = .returned (.bool true) ∧ Below w.heap.size w w' := by
  have HF := hid hF
  have eqo := eq_order
  clear hF
  go_enter Tryd.func3, Tryd.ntmps3
  go_wp2_with (first
    | (go_at_call 5; refine (read_any a b ha hb _ HF.out.shapes).mono ?_; unfold orderV; rintro e w1 ⟨rfl, hb1⟩)
    | (go_at_call 6; refine (orderOf_any a b ha hb _ (HF.out.kept (stA hb1 _))).mono ?_; rintro e w2 ⟨rfl, hb2⟩; obtain ⟨hc2, hf2⟩ := bcell hb2; have hz2 := lt_box hb2)
    | (go_at_call 7; refine (orders_any _ (HF.out.kept (stA (stp (stA hb1 _) hb2) _)).shapes).mono ?_; rintro e w3 ⟨rfl, hb3⟩; obtain ⟨hc3, hf3⟩ := bcell hb3; have hz3 := Nat.lt_trans hz2 (lt_box hb3)))
  go_ret
  exact ⟨rfl, stp (stA (stp (stA hb1 _) hb2) _) hb3⟩
set_option maxRecDepth 100000 in
theorem orderRead_walk : OrderReadWalk := by
  intro H enc W base v0 v1 d0 d1 p0 p1 hF k0 t0 k1 t1
  obtain ⟨a, rfl, _, _, wa⟩ := open_int Tryd.underlying22 k0 t0
  obtain ⟨b, rfl, _, _, wb⟩ := open_int Tryd.underlying22 k1 t1
  exact read_law a b (bounds_u16 wa) (bounds_u16 wb) W hF
theorem orderRead_holds : Rows.OrderReadCardSaid := orderRead_card orderRead_walk
end Go.Proofs.YtgpijkcbehcaaabDoor
