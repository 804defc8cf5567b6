/-
  What package order's Words and Read answer, for any order and any words; nothing old is written.
-/
import Derived.Test.YtdjhlfoapieohaaGreatDoorOrdC
namespace Go.Proofs.YtdjhlfoapieohaaGreatDoor
open Go.ChangeShapes Go.WideShapes Go.ChangeAt Go.RowKit
set_option linter.unusedVariables false

theorem check_ok (op d s n ww : Int) (h1 : O.isOp op = true) (h2 : O.okB op.toNat d s n ww = true) (w : World) (hs : shapesAt w) :
    Calls Tryz.prog 94 #[.agg #[.int .i64 op, .int .i64 d, .int .i64 s, .int .i64 n, .int .i64 ww]] w fun e w' => e = .returned (.int .i64 0) ∧ Below w.heap.size w w' := by
  refine (check_any op d s n ww w hs).mono fun e w' hh => ⟨hh.1.trans ?_, hh.2⟩
  unfold O.ck; rw [h1, h2]; rfl
theorem words_no (op d s n ww : Int) (h : (O.ck op d s n ww == 0) = false) (w : World) (hs : shapesAt w) :
    Calls Tryz.prog 67 #[.agg #[.int .i64 op, .int .i64 d, .int .i64 s, .int .i64 n, .int .i64 ww]] w fun e w' => e = .returned (.tuple #[.slice none 0 0, .int .i64 (O.ck op d s n ww)]) ∧ Below w.heap.size w w' := by
  have HS := hid hs
  clear hs
  go_enter Tryz.func67, Tryz.ntmps67
  go_wp2_with (go_at_call 94; refine (check_any op d s n ww _ (shapes_alloc HS.out _)).mono ?_; rintro e w1 ⟨rfl, hb1⟩)
  go_ret2
  exact ⟨rfl, stp (stA (st0 _) _) hb1⟩
/-- Block g of w holds these words. -/
def wordsAt (w : World) (g : Nat) (l : List Int) : Prop := ∀ i, i < l.length → w.cell? ⟨g, i, none⟩ = some (.int .u16 (l.getD i 0))
theorem first_bits (k d s n : Int) (h1 : 0 ≤ k ∧ k ≤ 31) (h2 : 0 ≤ d ∧ d ≤ 7) (h3 : 0 ≤ s ∧ s ≤ 7) (h4 : -16 ≤ n ∧ n ≤ 15) :
    bits .or .u16 (bits .or .u16 (bits .or .u16 (k * 2048) (d * 256)) (s * 32)) (bits .and .u16 (IntKind.u16.wrap n) 31) = O.first k d s n := by
  rw [O.low5 n h4, O.first_of k d s _ h1 h2 h3 (by omega)]; rfl
set_option maxRecDepth 100000 in
set_option maxHeartbeats 1600000 in
theorem words_one (k : Nat) (d s n ww : Int) (hk : k < 32) (h30 : k ≠ 30) (hok : O.okB k d s n ww = true) (hw : O.hasC k 119 = false) (w : World) (hs : shapesAt w) :
    Calls Tryz.prog 67 #[.agg #[.int .i64 k, .int .i64 d, .int .i64 s, .int .i64 n, .int .i64 ww]] w fun e w' => ∃ g, e = .returned (.tuple #[.slice (some ⟨g, 0, none⟩) 1 1, .int .i64 0]) ∧ wordsAt w' g [O.first k d s n] ∧ w.heap.size ≤ g ∧ g < w'.heap.size ∧ Below w.heap.size w w' := by
  obtain ⟨⟨d0, d1⟩, ⟨s0, s1⟩, ⟨n0, n1⟩, ⟨w0, ww1⟩⟩ := O.ok_bd hok
  have h1 := (O.isOp_iff k).2 (by omega)
  have hl : lenOf (O.mask k) = 1 := by have := O.mask_w k hk; rw [hw] at this; unfold lenOf; rw [if_neg (by simpa using this.symm)]
  have HL := hid hl
  have HO := hid hok
  have H1 := hid h1
  have HS := hid hs
  have hlt := hs.lt
  have hlt0 : 0 < w.heap.size := Nat.lt_of_le_of_lt (Nat.zero_le _) hlt
  obtain ⟨c0, c1, c2⟩ := hs k hk
  clear hs hok h1 hw hl
  go_enter Tryz.func67, Tryz.ntmps67
  go_wp2_with (first
    | (go_at_call 94; refine (check_ok _ _ _ _ _ H1.out HO.out _ (shapes_alloc HS.out _)).mono ?_; rintro e w1 ⟨rfl, hb1⟩; obtain ⟨hc1, hf1⟩ := bcell hb1; have hz1 : w.heap.size < w1.heap.size := by have := hb1.size; simp at this; omega)
    | (go_at_call 93; refine (words_any _ _ k hk _).mono ?_; rw [HL.out]; rintro e w2 ⟨rfl, hb2⟩))
  go_ret2
  refine ⟨w2.heap.size, rfl, fun i hi => ?_, Nat.le_of_lt (Nat.lt_of_lt_of_le hz1 hb2.size), by simp, stA (stp (stp (stA (st0 _) _) hb1) hb2) _⟩
  obtain rfl : i = 0 := by simpa using hi
  rw [first_bits k d s n (by omega) ⟨d0, d1⟩ ⟨s0, s1⟩ ⟨n0, n1⟩]
  exact cell_new _ _ _ _ rfl
set_option maxRecDepth 100000 in
set_option maxHeartbeats 1600000 in
theorem words_two (k : Nat) (d s n ww : Int) (hk : k < 32) (h30 : k ≠ 30) (hok : O.okB k d s n ww = true) (hw : O.hasC k 119 = true) (w : World) (hs : shapesAt w) :
    Calls Tryz.prog 67 #[.agg #[.int .i64 k, .int .i64 d, .int .i64 s, .int .i64 n, .int .i64 ww]] w fun e w' => ∃ g, e = .returned (.tuple #[.slice (some ⟨g, 0, none⟩) 2 2, .int .i64 0]) ∧ wordsAt w' g [O.first k d s n, ww] ∧ w.heap.size ≤ g ∧ g < w'.heap.size ∧ Below w.heap.size w w' := by
  obtain ⟨⟨d0, d1⟩, ⟨s0, s1⟩, ⟨n0, n1⟩, ⟨w0, ww1⟩⟩ := O.ok_bd hok
  have h1 := (O.isOp_iff k).2 (by omega)
  have hl : lenOf (O.mask k) = 2 := by have := O.mask_w k hk; rw [hw] at this; unfold lenOf; rw [if_pos (by simpa using this.symm)]
  have HL := hid hl
  have HO := hid hok
  have H1 := hid h1
  have HS := hid hs
  have hlt := hs.lt
  have hlt0 : 0 < w.heap.size := Nat.lt_of_le_of_lt (Nat.zero_le _) hlt
  obtain ⟨c0, c1, c2⟩ := hs k hk
  clear hs hok h1 hw hl
  go_enter Tryz.func67, Tryz.ntmps67
  go_wp2_with (first
    | (go_at_call 94; refine (check_ok _ _ _ _ _ H1.out HO.out _ (shapes_alloc HS.out _)).mono ?_; rintro e w1 ⟨rfl, hb1⟩; obtain ⟨hc1, hf1⟩ := bcell hb1; have hz1 : w.heap.size < w1.heap.size := by have := hb1.size; simp at this; omega)
    | (go_at_call 93; refine (words_any _ _ k hk _).mono ?_; rw [HL.out]; rintro e w2 ⟨rfl, hb2⟩; obtain ⟨hc2, hf2⟩ := bcell hb2))
  go_ret2
  refine ⟨w2.heap.size, rfl, fun i hi => ?_, Nat.le_of_lt (Nat.lt_of_lt_of_le hz1 hb2.size), by simp, stA (stp (stp (stA (st0 _) _) hb1) hb2) _⟩
  rw [first_bits k d s n (by omega) ⟨d0, d1⟩ ⟨s0, s1⟩ ⟨n0, n1⟩]
  have hi' : i = 0 ∨ i = 1 := by simp at hi; omega
  rcases hi' with rfl | rfl <;> exact cell_new _ _ _ _ rfl
/-- The words of a right order, in a new block. -/
theorem words_yes (op d s n ww : Int) (h1 : O.isOp op = true) (hok : O.okB op.toNat d s n ww = true) (w : World) (hs : shapesAt w) :
    Calls Tryz.prog 67 #[.agg #[.int .i64 op, .int .i64 d, .int .i64 s, .int .i64 n, .int .i64 ww]] w fun e w' =>
      ∃ g, e = .returned (.tuple #[.slice (some ⟨g, 0, none⟩) (O.words op d s n ww).length (O.words op d s n ww).length, .int .i64 0]) ∧ wordsAt w' g (O.words op d s n ww) ∧ w.heap.size ≤ g ∧ g < w'.heap.size ∧ Below w.heap.size w w' := by
  obtain ⟨a1, a2, a3⟩ := (O.isOp_iff op).1 h1
  obtain ⟨k, rfl⟩ := Int.eq_ofNat_of_zero_le a1
  rw [Int.toNat_natCast] at hok
  unfold O.words
  rw [Int.toNat_natCast]
  cases hc : O.hasC k 119
  · exact words_one k d s n ww (by omega) (by omega) hok hc w hs
  · exact words_two k d s n ww (by omega) (by omega) hok hc w hs
end Go.Proofs.YtdjhlfoapieohaaGreatDoor
