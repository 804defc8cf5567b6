/-
  What package order's Read answers, for any two words; nothing old is written.
-/
import Derived.Test.YtdjhlfoapieohaaGreatDoorOrdD
namespace Go.Proofs.YtdjhlfoapieohaaGreatDoor
open Go.ChangeShapes Go.WideShapes Go.ChangeAt Go.RowKit
set_option linter.unusedVariables false

theorem ret_ii {k l : IntKind} {a a' b b' : Int} (h : a = a') (h1 : b = b') : Ending.returned (.tuple #[.int k a, .int l b]) = .returned (.tuple #[.int k a', .int l b']) := by rw [h, h1]
theorem signed_yes (a n : Int) (w : World) (ha : 0 ≤ a) (ha' : a ≤ 65535) (hn : 1 ≤ n) (hn' : n ≤ 16) :
    Calls Tryz.prog 92 #[.int .u16 a, .int .i64 n] w fun e w' => e = .returned (.tuple #[.int .i64 (M.low a n), .int .i64 0]) ∧ w' = w := by
  go_enter Tryz.func92, Tryz.ntmps92
  go_wp2
  go_ret2
  exact ⟨ret_ii (M.low_of a n hn hn') rfl, rfl⟩
theorem and_mod (x : Int) (h : 0 ≤ x) (h' : x ≤ 65535) : bits .and .u16 x 7 = x % 8 ∧ bits .and .u16 x 15 = x % 16 :=
  ⟨by have := M.and_low x 3 (by omega) h h'; simpa using this, by have := M.and_low x 4 (by omega) h h'; simpa using this⟩
/-- What a call that turns nothing old leaves of two new blocks. -/
theorem held8 {w1 w2 : World} {n c h a0 a1 a2 a3 a4 : Value} {t t' : TypeId} (hb : Below ((w1.alloc (.cells #[n, c, h] t)).alloc (.cells #[a0, a1, a2, a3, a4] t')).drew.heap.size ((w1.alloc (.cells #[n, c, h] t)).alloc (.cells #[a0, a1, a2, a3, a4] t')).drew w2) :
    w2.cell? ⟨w1.heap.size, 0, none⟩ = some n ∧ w2.cell? ⟨w1.heap.size, 1, none⟩ = some c ∧ w2.cell? ⟨w1.heap.size, 2, none⟩ = some h ∧ w2.cell? ⟨w1.heap.size + 1, 0, none⟩ = some a0 ∧ w2.cell? ⟨w1.heap.size + 1, 1, none⟩ = some a1 ∧
      w2.cell? ⟨w1.heap.size + 1, 2, none⟩ = some a2 ∧ w2.cell? ⟨w1.heap.size + 1, 3, none⟩ = some a3 ∧ w2.cell? ⟨w1.heap.size + 1, 4, none⟩ = some a4 := by
  have e : ∀ i, ((w1.alloc (.cells #[n, c, h] t)).alloc (.cells #[a0, a1, a2, a3, a4] t')).drew.cell? ⟨w1.heap.size, i, none⟩ = #[n, c, h][i]? := fun i =>
    (World.cell?_alloc_lt (w1.alloc (.cells #[n, c, h] t)) _ _ (by simp)).trans (cell_new _ _ _ _ rfl)
  have e' : ∀ i, ((w1.alloc (.cells #[n, c, h] t)).alloc (.cells #[a0, a1, a2, a3, a4] t')).drew.cell? ⟨w1.heap.size + 1, i, none⟩ = #[a0, a1, a2, a3, a4][i]? := fun i => cell_new (w1.alloc (.cells #[n, c, h] t)) _ _ _ (by simp)
  refine ⟨?_, ?_, ?_, ?_, ?_, ?_, ?_, ?_⟩
  · rw [hb.cell (by simp; omega), e]; rfl
  · rw [hb.cell (by simp; omega), e]; rfl
  · rw [hb.cell (by simp; omega), e]; rfl
  · rw [hb.cell (by simp), e']; rfl
  · rw [hb.cell (by simp), e']; rfl
  · rw [hb.cell (by simp), e']; rfl
  · rw [hb.cell (by simp), e']; rfl
  · rw [hb.cell (by simp), e']; rfl
theorem far5 (w2 : World) (b : Nat) (v0 v1 v2 v3 v4 : Value) (p : Addr) (h : b ≠ p.block) :
    (((((w2.setCell ⟨b, 0, none⟩ v0).setCell ⟨b, 1, none⟩ v1).setCell ⟨b, 2, none⟩ v2).setCell ⟨b, 3, none⟩ v3).setCell ⟨b, 4, none⟩ v4).cell? p = w2.cell? p := by
  rw [World.cell?_setCell_far _ _ _ _ h, World.cell?_setCell_far _ _ _ _ h, World.cell?_setCell_far _ _ _ _ h, World.cell?_setCell_far _ _ _ _ h, World.cell?_setCell_far _ _ _ _ h]
theorem held8s {w w1 w2 : World} {n c h a0 a1 a2 a3 a4 v0 v1 v2 v3 v4 : Value} (hz : w.heap.size < w1.heap.size)
    (hh : w2.cell? ⟨w1.heap.size, 0, none⟩ = some n ∧ w2.cell? ⟨w1.heap.size, 1, none⟩ = some c ∧ w2.cell? ⟨w1.heap.size, 2, none⟩ = some h ∧ w2.cell? ⟨w1.heap.size + 1, 0, none⟩ = some a0 ∧ w2.cell? ⟨w1.heap.size + 1, 1, none⟩ = some a1 ∧
      w2.cell? ⟨w1.heap.size + 1, 2, none⟩ = some a2 ∧ w2.cell? ⟨w1.heap.size + 1, 3, none⟩ = some a3 ∧ w2.cell? ⟨w1.heap.size + 1, 4, none⟩ = some a4) :
    (((((w2.setCell ⟨w.heap.size, 0, none⟩ v0).setCell ⟨w.heap.size, 1, none⟩ v1).setCell ⟨w.heap.size, 2, none⟩ v2).setCell ⟨w.heap.size, 3, none⟩ v3).setCell ⟨w.heap.size, 4, none⟩ v4).cell? ⟨w1.heap.size, 0, none⟩ = some n ∧ (((((w2.setCell ⟨w.heap.size, 0, none⟩ v0).setCell ⟨w.heap.size, 1, none⟩ v1).setCell ⟨w.heap.size, 2, none⟩ v2).setCell ⟨w.heap.size, 3, none⟩ v3).setCell ⟨w.heap.size, 4, none⟩ v4).cell? ⟨w1.heap.size, 1, none⟩ = some c ∧ (((((w2.setCell ⟨w.heap.size, 0, none⟩ v0).setCell ⟨w.heap.size, 1, none⟩ v1).setCell ⟨w.heap.size, 2, none⟩ v2).setCell ⟨w.heap.size, 3, none⟩ v3).setCell ⟨w.heap.size, 4, none⟩ v4).cell? ⟨w1.heap.size, 2, none⟩ = some h ∧ (((((w2.setCell ⟨w.heap.size, 0, none⟩ v0).setCell ⟨w.heap.size, 1, none⟩ v1).setCell ⟨w.heap.size, 2, none⟩ v2).setCell ⟨w.heap.size, 3, none⟩ v3).setCell ⟨w.heap.size, 4, none⟩ v4).cell? ⟨w1.heap.size + 1, 0, none⟩ = some a0 ∧ (((((w2.setCell ⟨w.heap.size, 0, none⟩ v0).setCell ⟨w.heap.size, 1, none⟩ v1).setCell ⟨w.heap.size, 2, none⟩ v2).setCell ⟨w.heap.size, 3, none⟩ v3).setCell ⟨w.heap.size, 4, none⟩ v4).cell? ⟨w1.heap.size + 1, 1, none⟩ = some a1 ∧
      (((((w2.setCell ⟨w.heap.size, 0, none⟩ v0).setCell ⟨w.heap.size, 1, none⟩ v1).setCell ⟨w.heap.size, 2, none⟩ v2).setCell ⟨w.heap.size, 3, none⟩ v3).setCell ⟨w.heap.size, 4, none⟩ v4).cell? ⟨w1.heap.size + 1, 2, none⟩ = some a2 ∧ (((((w2.setCell ⟨w.heap.size, 0, none⟩ v0).setCell ⟨w.heap.size, 1, none⟩ v1).setCell ⟨w.heap.size, 2, none⟩ v2).setCell ⟨w.heap.size, 3, none⟩ v3).setCell ⟨w.heap.size, 4, none⟩ v4).cell? ⟨w1.heap.size + 1, 3, none⟩ = some a3 ∧ (((((w2.setCell ⟨w.heap.size, 0, none⟩ v0).setCell ⟨w.heap.size, 1, none⟩ v1).setCell ⟨w.heap.size, 2, none⟩ v2).setCell ⟨w.heap.size, 3, none⟩ v3).setCell ⟨w.heap.size, 4, none⟩ v4).cell? ⟨w1.heap.size + 1, 4, none⟩ = some a4 := by
  obtain ⟨h1, h2, h3, h4, h5, h6, h7, h8⟩ := hh
  refine ⟨?_, ?_, ?_, ?_, ?_, ?_, ?_, ?_⟩
  · exact (far5 _ _ _ _ _ _ _ _ (by simp; omega)).trans h1
  · exact (far5 _ _ _ _ _ _ _ _ (by simp; omega)).trans h2
  · exact (far5 _ _ _ _ _ _ _ _ (by simp; omega)).trans h3
  · exact (far5 _ _ _ _ _ _ _ _ (by simp; omega)).trans h4
  · exact (far5 _ _ _ _ _ _ _ _ (by simp; omega)).trans h5
  · exact (far5 _ _ _ _ _ _ _ _ (by simp; omega)).trans h6
  · exact (far5 _ _ _ _ _ _ _ _ (by simp; omega)).trans h7
  · exact (far5 _ _ _ _ _ _ _ _ (by simp; omega)).trans h8
/-- What such calls leave of the result's block. -/
theorem newRes {w w1 w2 : World} {o o' : Obj} {t : TypeId} (hb1 : Below (w.alloc (.cells #[.int .i64 0, .int .i64 0, .int .i64 0, .int .i64 0, .int .i64 0] t)).heap.size (w.alloc (.cells #[.int .i64 0, .int .i64 0, .int .i64 0, .int .i64 0, .int .i64 0] t)) w1)
    (hb2 : Below ((w1.alloc o).alloc o').drew.heap.size ((w1.alloc o).alloc o').drew w2) :
    (∀ i, i < 5 → w2.cell? ⟨w.heap.size, i, none⟩ = some (.int .i64 0)) ∧ ∀ i, w2.frozen? ⟨w.heap.size, i, none⟩ = false := by
  have hz : w.heap.size < w1.heap.size := by have := hb1.size; simp at this; omega
  have b : Below w1.heap.size w1 w2 := ((stA (stA (st0 w1) o) o').drew).trans (hb2.mono (by simp; omega))
  refine ⟨fun i hi => ?_, fun i => ?_⟩
  · rw [b.cell hz, hb1.cell (by simp), cell_new _ _ _ _ rfl]
    have hc : i = 0 ∨ i = 1 ∨ i = 2 ∨ i = 3 ∨ i = 4 := by omega
    rcases hc with rfl | rfl | rfl | rfl | rfl <;> rfl
  · rw [b.frozen hz, hb1.frozen (by simp)]
    simp
end Go.Proofs.YtdjhlfoapieohaaGreatDoor
