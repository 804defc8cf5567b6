/-
  What package order's Check answers of an Op that is no order's, and plain facts on limits; nothing old is written.
-/
import Derived.Test.YtdjhlfoapieohaaGreatDoorOrdA
import Derived.Deep.RegionHeld3
namespace Go.Proofs.YtdjhlfoapieohaaGreatDoor
open Go.ChangeShapes Go.WideShapes Go.ChangeAt Go.RowKit
set_option linter.unusedVariables false

theorem shapes_alloc {w : World} (h : shapesAt w) (o : Obj) : shapesAt (w.alloc o) := h.kept ((Below.refl _ _).alloc (Nat.le_refl _) _)
theorem check_no (op d s n ww : Int) (h : O.isOp op = false) (w : World) (hs : shapesAt w) :
    Calls Tryz.prog 94 #[.agg #[.int .i64 op, .int .i64 d, .int .i64 s, .int .i64 n, .int .i64 ww]] w fun e w' => e = .returned (.int .i64 5) ∧ Below w.heap.size w w' := by
  have HS := hid hs
  clear hs
  have H := hid h
  clear h
  go_enter Tryz.func94, Tryz.ntmps94
  go_wp2_with (go_at_call 75; refine (shape_no op H.out _ (shapes_alloc HS.out _)).mono ?_; rintro e w1 ⟨rfl, hb1⟩)
  go_ret
  exact ⟨rfl, stA (stp (stA (st0 _) _) hb1) _⟩
/-- The first j of an order's parts are within their limits. -/
def okTo (h : Int) (v : Nat → Int) (j : Nat) : Prop := ∀ i, i < j → O.inB h i (v i) = true
def vals (d s n w : Int) (i : Nat) : Int := if i = 0 then d else if i = 1 then s else if i = 2 then n else w
theorem okTo_4 (k : Nat) (hk : k < 32) (d s n w : Int) (h : okTo (O.mask k) (vals d s n w) 4) : O.okB k d s n w = true := by
  have h0 : O.inB (O.mask k) 0 d = true := h 0 (by omega)
  have h1 : O.inB (O.mask k) 1 s = true := h 1 (by omega)
  have h2 : O.inB (O.mask k) 2 n = true := h 2 (by omega)
  have h3 : O.inB (O.mask k) 3 w = true := h 3 (by omega)
  rw [← O.inB_all k hk, h0, h1, h2, h3]; rfl
theorem okTo_not (k : Nat) (hk : k < 32) (d s n w : Int) (i : Nat) (hi : i < 4) (h : O.inB (O.mask k) i (vals d s n w i) = false) : O.okB k d s n w = false := by
  rw [← O.inB_all k hk]
  have hc : i = 0 ∨ i = 1 ∨ i = 2 ∨ i = 3 := by omega
  rcases hc with rfl | rfl | rfl | rfl
  · have h' : O.inB (O.mask k) 0 d = false := h
    rw [h']; simp
  · have h' : O.inB (O.mask k) 1 s = false := h
    rw [h']; simp
  · have h' : O.inB (O.mask k) 2 n = false := h
    rw [h']; simp
  · have h' : O.inB (O.mask k) 3 w = false := h
    rw [h']; simp
theorem ck_yes {k : Nat} (hk : k < 32) (h30 : k ≠ 30) (d s n w : Int) : O.ck k d s n w = if O.okB k d s n w then 0 else 3 := by
  unfold O.ck
  rw [if_pos ((O.isOp_iff _).2 (by omega))]
  rfl
end Go.Proofs.YtdjhlfoapieohaaGreatDoor
