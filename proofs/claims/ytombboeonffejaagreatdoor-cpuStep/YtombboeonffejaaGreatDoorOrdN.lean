/-
  What package order's Name and Cycles answer; nothing old is written.
-/
import Derived.Test.YtombboeonffejaaGreatDoorOrdB
namespace Go.Proofs.YtombboeonffejaaGreatDoor
open Go.ChangeShapes Go.WideShapes Go.ChangeAt Go.RowKit
set_option maxRecDepth 100000 in
theorem cycles_yes (k : Nat) (hk : k < 32) (h30 : k ≠ 30) (w : World) (hs : shapesAt w) :
    Calls Tryz.prog 57 #[.int .i64 k] w fun e w' => e = .returned (.tuple #[.int .i64 (K.cyc k), .int .i64 (lenOf (O.mask k)), .int .i64 0]) ∧ Below w.heap.size w w' := by
  have HS := hid hs
  clear hs
  go_enter Tryz.func57, Tryz.ntmps57
  go_wp2_with (go_at_call 70; refine (shape_yes k hk h30 _ HS.out).mono ?_; rintro e w1 ⟨rfl, hb1⟩)
  go_region_held3 (fun w' => w'.cell? ⟨w1.heap.size, 0, none⟩ = some (.string (O.nameS k)) ∧ w'.cell? ⟨w1.heap.size, 1, none⟩ = some (.int .i64 (K.cyc k)) ∧ w'.cell? ⟨w1.heap.size, 2, none⟩ = some (.int .i64 (O.mask k)))
    (first
      | go_keep
      | (go_split_ands
         refine ⟨?_, ?_, ?_⟩
         · (rw [hb2.cell (by simp)]; assumption)
         · (rw [hb2.cell (by simp)]; assumption)
         · (rw [hb2.cell (by simp)]; assumption)))
    ((go_at_call 71; refine (words_any _ _ k hk _).mono ?_; rintro e w2 ⟨rfl, hb2⟩))
  go_wp2
  go_ret3
  exact ⟨rfl, stp (stA hb1 _).drew hb2⟩
theorem cycles_no (op : Int) (h : O.isOp op = false) (w : World) (hs : shapesAt w) :
    Calls Tryz.prog 57 #[.int .i64 op] w fun e w' => e = .returned (.tuple #[.int .i64 0, .int .i64 0, .int .i64 5]) ∧ Below w.heap.size w w' := by
  have HS := hid hs
  clear hs
  have H := hid h
  clear h
  go_enter Tryz.func57, Tryz.ntmps57
  go_wp2_with (go_at_call 70; refine (shape_no op H.out _ HS.out).mono ?_; rintro e w1 ⟨rfl, hb1⟩)
  go_ret3
  exact ⟨rfl, stA hb1 _⟩
end Go.Proofs.YtombboeonffejaaGreatDoor
