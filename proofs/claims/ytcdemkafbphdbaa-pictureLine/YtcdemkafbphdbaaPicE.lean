/-
  Package picture: a line's pixels.
-/
import Derived.Test.YtcdemkafbphdbaaPicD
namespace Go.Proofs.Ytcdemkafbphdbaa
open Go.ChangeShapes Go.WideShapes Go.ChangeAt Go.RowKit
set_option linter.unusedVariables false

theorem idx16_0 (f : Nat → Nat) (w : World) : (Instr.index 23 (.agg (row16 f).toArray) (.int .i64 0)).run Try.prog w = .ok (.int .u8 (f 0)) w := by kernel_rfl
theorem idx16_1 (f : Nat → Nat) (w : World) : (Instr.index 23 (.agg (row16 f).toArray) (.int .i64 1)).run Try.prog w = .ok (.int .u8 (f 1)) w := by kernel_rfl
theorem idx16_2 (f : Nat → Nat) (w : World) : (Instr.index 23 (.agg (row16 f).toArray) (.int .i64 2)).run Try.prog w = .ok (.int .u8 (f 2)) w := by kernel_rfl
theorem idx16_3 (f : Nat → Nat) (w : World) : (Instr.index 23 (.agg (row16 f).toArray) (.int .i64 3)).run Try.prog w = .ok (.int .u8 (f 3)) w := by kernel_rfl
theorem idx16_4 (f : Nat → Nat) (w : World) : (Instr.index 23 (.agg (row16 f).toArray) (.int .i64 4)).run Try.prog w = .ok (.int .u8 (f 4)) w := by kernel_rfl
theorem idx16_5 (f : Nat → Nat) (w : World) : (Instr.index 23 (.agg (row16 f).toArray) (.int .i64 5)).run Try.prog w = .ok (.int .u8 (f 5)) w := by kernel_rfl
theorem idx16_6 (f : Nat → Nat) (w : World) : (Instr.index 23 (.agg (row16 f).toArray) (.int .i64 6)).run Try.prog w = .ok (.int .u8 (f 6)) w := by kernel_rfl
theorem idx16_7 (f : Nat → Nat) (w : World) : (Instr.index 23 (.agg (row16 f).toArray) (.int .i64 7)).run Try.prog w = .ok (.int .u8 (f 7)) w := by kernel_rfl
theorem idx16_8 (f : Nat → Nat) (w : World) : (Instr.index 23 (.agg (row16 f).toArray) (.int .i64 8)).run Try.prog w = .ok (.int .u8 (f 8)) w := by kernel_rfl
theorem idx16_9 (f : Nat → Nat) (w : World) : (Instr.index 23 (.agg (row16 f).toArray) (.int .i64 9)).run Try.prog w = .ok (.int .u8 (f 9)) w := by kernel_rfl
theorem idx16_10 (f : Nat → Nat) (w : World) : (Instr.index 23 (.agg (row16 f).toArray) (.int .i64 10)).run Try.prog w = .ok (.int .u8 (f 10)) w := by kernel_rfl
theorem idx16_11 (f : Nat → Nat) (w : World) : (Instr.index 23 (.agg (row16 f).toArray) (.int .i64 11)).run Try.prog w = .ok (.int .u8 (f 11)) w := by kernel_rfl
theorem idx16_12 (f : Nat → Nat) (w : World) : (Instr.index 23 (.agg (row16 f).toArray) (.int .i64 12)).run Try.prog w = .ok (.int .u8 (f 12)) w := by kernel_rfl
theorem idx16_13 (f : Nat → Nat) (w : World) : (Instr.index 23 (.agg (row16 f).toArray) (.int .i64 13)).run Try.prog w = .ok (.int .u8 (f 13)) w := by kernel_rfl
theorem idx16_14 (f : Nat → Nat) (w : World) : (Instr.index 23 (.agg (row16 f).toArray) (.int .i64 14)).run Try.prog w = .ok (.int .u8 (f 14)) w := by kernel_rfl
theorem idx16_15 (f : Nat → Nat) (w : World) : (Instr.index 23 (.agg (row16 f).toArray) (.int .i64 15)).run Try.prog w = .ok (.int .u8 (f 15)) w := by kernel_rfl
theorem idx16 (f : Nat → Nat) (x : Nat) (h : x < 16) (w : World) : (Instr.index 23 (.agg (row16 f).toArray) (.int .i64 (x : Nat))).run Try.prog w = .ok (.int .u8 (f x)) w := by
  have hx : x = 0 ∨ x = 1 ∨ x = 2 ∨ x = 3 ∨ x = 4 ∨ x = 5 ∨ x = 6 ∨ x = 7 ∨ x = 8 ∨ x = 9 ∨ x = 10 ∨ x = 11 ∨ x = 12 ∨ x = 13 ∨ x = 14 ∨ x = 15 := by omega
  rcases hx with rfl | rfl | rfl | rfl | rfl | rfl | rfl | rfl | rfl | rfl | rfl | rfl | rfl | rfl | rfl | rfl
  · exact idx16_0 f w
  · exact idx16_1 f w
  · exact idx16_2 f w
  · exact idx16_3 f w
  · exact idx16_4 f w
  · exact idx16_5 f w
  · exact idx16_6 f w
  · exact idx16_7 f w
  · exact idx16_8 f w
  · exact idx16_9 f w
  · exact idx16_10 f w
  · exact idx16_11 f w
  · exact idx16_12 f w
  · exact idx16_13 f w
  · exact idx16_14 f w
  · exact idx16_15 f w
theorem idx4_0 (f : Nat → Nat) (w : World) : (Instr.index 52 (.agg #[.int .u8 (f 0), .int .u8 (f 1), .int .u8 (f 2), .int .u8 (f 3)]) (.int .i64 0)).run Try.prog w = .ok (.int .u8 (f 0)) w := by kernel_rfl
theorem idx4_1 (f : Nat → Nat) (w : World) : (Instr.index 52 (.agg #[.int .u8 (f 0), .int .u8 (f 1), .int .u8 (f 2), .int .u8 (f 3)]) (.int .i64 1)).run Try.prog w = .ok (.int .u8 (f 1)) w := by kernel_rfl
theorem idx4_2 (f : Nat → Nat) (w : World) : (Instr.index 52 (.agg #[.int .u8 (f 0), .int .u8 (f 1), .int .u8 (f 2), .int .u8 (f 3)]) (.int .i64 2)).run Try.prog w = .ok (.int .u8 (f 2)) w := by kernel_rfl
theorem idx4_3 (f : Nat → Nat) (w : World) : (Instr.index 52 (.agg #[.int .u8 (f 0), .int .u8 (f 1), .int .u8 (f 2), .int .u8 (f 3)]) (.int .i64 3)).run Try.prog w = .ok (.int .u8 (f 3)) w := by kernel_rfl
theorem idx4 (f : Nat → Nat) (x : Nat) (h : x < 4) (w : World) : (Instr.index 52 (.agg #[.int .u8 (f 0), .int .u8 (f 1), .int .u8 (f 2), .int .u8 (f 3)]) (.int .i64 (x : Nat))).run Try.prog w = .ok (.int .u8 (f x)) w := by
  have hx : x = 0 ∨ x = 1 ∨ x = 2 ∨ x = 3 := by omega
  rcases hx with rfl | rfl | rfl | rfl
  · exact idx4_0 f w
  · exact idx4_1 f w
  · exact idx4_2 f w
  · exact idx4_3 f w
/-- Where pixels are laid, ahead of sprites: the result, the ground, what is shown. -/
structure P0W (w : World) (m : List UInt8) (y bg bo : Nat) (fo : Nat → Nat) (W : World) : Prop where
  low : Below w.heap.size w W
  r : Bx W w.heap.size (row16 fun _ => 0)
  g : Bx W bg (row16 (gd m y))
  o : Bx W bo (row16 fo)
  d1 : w.heap.size < bg
  d2 : bg < bo
/-- With sprites: besides, which pixels are taken; a list of numbers. -/
structure PxW (w : World) (m : List UInt8) (y bg bo bt : Nat) (fo : Nat → Nat) (ft : Nat → Bool) (W : World) : Prop extends P0W w m y bg bo fo W where
  t : Bx W bt (brow16 ft)
  d3 : bo < bt
section
variable {w W w1 : World} {m : List UInt8} {y bg bo bt : Nat} {fo fo' : Nat → Nat} {ft ft' : Nat → Bool}
theorem P0W.kept (h : P0W w m y bg bo fo W) (hb : Below W.heap.size W w1) : P0W w m y bg bo fo w1 := ⟨stp h.low hb, h.r.kept hb, h.g.kept hb, h.o.kept hb, h.d1, h.d2⟩
theorem P0W.over (h : P0W w m y bg bo fo W) (o : Obj) : P0W w m y bg bo fo (W.alloc o) := h.kept (stA (st0 W) o)
theorem P0W.congr (h : P0W w m y bg bo fo W) (e : ∀ x, x < 16 → fo x = fo' x) : P0W w m y bg bo fo' W := ⟨h.low, h.r, h.g, row16_congr e ▸ h.o, h.d1, h.d2⟩
theorem P0W.put (h : P0W w m y bg bo fo W) (x n : Nat) (hx : x < 16) : P0W w m y bg bo (fun i => if i = x then n else fo i) (W.setCell ⟨bo, x, none⟩ (.int .u8 n)) := by
  have h1 := h.d1
  have h2 := h.d2
  exact ⟨Bl.set h.low (by omega) _, h.r.far (by omega) _, h.g.far (by omega) _, row16_set fo x n hx ▸ h.o.set x (.int .u8 n) (by rw [row16_len]; exact hx), h1, h2⟩
theorem PxW.kept (h : PxW w m y bg bo bt fo ft W) (hb : Below W.heap.size W w1) : PxW w m y bg bo bt fo ft w1 := ⟨h.toP0W.kept hb, h.t.kept hb, h.d3⟩
theorem PxW.over (h : PxW w m y bg bo bt fo ft W) (o : Obj) : PxW w m y bg bo bt fo ft (W.alloc o) := h.kept (stA (st0 W) o)
theorem PxW.congr (h : PxW w m y bg bo bt fo ft W) (e : ∀ x, x < 16 → fo x = fo' x) (e' : ∀ x, x < 16 → ft x = ft' x) : PxW w m y bg bo bt fo' ft' W := ⟨h.toP0W.congr e, brow16_congr e' ▸ h.t, h.d3⟩
theorem PxW.take (h : PxW w m y bg bo bt fo ft W) (x : Nat) (hx : x < 16) : PxW w m y bg bo bt fo (fun i => if i = x then true else ft i) (W.setCell ⟨bt, x, none⟩ (.bool true)) := by
  have h1 := h.d1
  have h2 := h.d2
  have h3 := h.d3
  exact ⟨⟨Bl.set h.low (by omega) _, h.r.far (by omega) _, h.g.far (by omega) _, h.o.far (by omega) _, h1, h2⟩, brow16_set ft x true hx ▸ h.t.set x (.bool true) (by rw [brow16_len]; exact hx), h3⟩
theorem PxW.put (h : PxW w m y bg bo bt fo ft W) (x n : Nat) (hx : x < 16) : PxW w m y bg bo bt (fun i => if i = x then n else fo i) ft (W.setCell ⟨bo, x, none⟩ (.int .u8 n)) := by
  have h3 := h.d3
  exact ⟨h.toP0W.put x n hx, h.t.far (by omega) _, h3⟩
end
/-- Pixels, and those that are taken, where of a sprite so many columns are done. -/
def mxN (m : List UInt8) (y : Nat) (ks : List Nat) (k i x : Nat) : Nat := if clS m k ≤ x ∧ x < clS m k + i then pxL m y (ks ++ [k]) x else pxL m y ks x
def mxB (m : List UInt8) (y : Nat) (ks : List Nat) (k i x : Nat) : Bool := if clS m k ≤ x ∧ x < clS m k + i then tkL m y (ks ++ [k]) x else tkL m y ks x
section
variable {m : List UInt8} {y : Nat} {ks : List Nat} {k i : Nat}
theorem mxN_zero (x : Nat) : mxN m y ks k 0 x = pxL m y ks x := by unfold mxN; rw [if_neg (by omega)]
theorem mxB_zero (x : Nat) : mxB m y ks k 0 x = tkL m y ks x := by unfold mxB; rw [if_neg (by omega)]
theorem sx_at (hi : i < 4) : sxS m y k (clS m k + i) = sdS m y k i := by
  unfold sxS
  rw [if_pos (by omega), show clS m k + i - clS m k = i by omega]
theorem sx_far {x : Nat} (h : ¬ (clS m k ≤ x ∧ x < clS m k + 4)) : sxS m y k x = 0 := by unfold sxS; rw [if_neg h]
theorem mxN_four (x : Nat) : mxN m y ks k 4 x = pxL m y (ks ++ [k]) x := by
  unfold mxN
  split
  · rfl
  · rename_i h
    exact (pxL_snoc_none (sx_far h)).symm
theorem mxB_four (x : Nat) : mxB m y ks k 4 x = tkL m y (ks ++ [k]) x := by
  unfold mxB
  split
  · rfl
  · rename_i h
    rw [tkL_snoc, sx_far h]; simp
theorem mxN_succ (x : Nat) : mxN m y ks k (i + 1) x = if x = clS m k + i then pxL m y (ks ++ [k]) x else mxN m y ks k i x := by
  unfold mxN
  by_cases e : x = clS m k + i
  · rw [if_pos e, if_pos (by omega)]
  · rw [if_neg e]
    by_cases h : clS m k ≤ x ∧ x < clS m k + i
    · rw [if_pos h, if_pos (by omega)]
    · rw [if_neg h, if_neg (by omega)]
theorem mxB_succ (x : Nat) : mxB m y ks k (i + 1) x = if x = clS m k + i then tkL m y (ks ++ [k]) x else mxB m y ks k i x := by
  unfold mxB
  by_cases e : x = clS m k + i
  · rw [if_pos e, if_pos (by omega)]
  · rw [if_neg e]
    by_cases h : clS m k ≤ x ∧ x < clS m k + i
    · rw [if_pos h, if_pos (by omega)]
    · rw [if_neg h, if_neg (by omega)]
theorem mxN_at : mxN m y ks k i (clS m k + i) = pxL m y ks (clS m k + i) := by unfold mxN; rw [if_neg (by omega)]
theorem mxB_at : mxB m y ks k i (clS m k + i) = tkL m y ks (clS m k + i) := by unfold mxB; rw [if_neg (by omega)]
/-- It is right of the picture. -/
theorem mx_right (h : 16 ≤ clS m k + i) : (∀ x, x < 16 → mxN m y ks k i x = mxN m y ks k (i + 1) x) ∧ (∀ x, x < 16 → mxB m y ks k i x = mxB m y ks k (i + 1) x) :=
  ⟨fun x hx => by rw [mxN_succ, if_neg (by omega)], fun x hx => by rw [mxB_succ, if_neg (by omega)]⟩
/-- It has no dot there. -/
theorem mx_none (hi : i < 4) (h : sdS m y k i = 0) : (∀ x, x < 16 → mxN m y ks k i x = mxN m y ks k (i + 1) x) ∧ (∀ x, x < 16 → mxB m y ks k i x = mxB m y ks k (i + 1) x) := by
  have h0 : sxS m y k (clS m k + i) = 0 := by rw [sx_at hi]; exact h
  refine ⟨fun x hx => ?_, fun x hx => ?_⟩
  · rw [mxN_succ]
    by_cases e : x = clS m k + i
    · rw [if_pos e, e, mxN_at, pxL_snoc_none h0]
    · rw [if_neg e]
  · rw [mxB_succ]
    by_cases e : x = clS m k + i
    · rw [if_pos e, e, mxB_at, tkL_snoc, h0]; simp
    · rw [if_neg e]
/-- It is taken. -/
theorem mx_taken (h : tkL m y ks (clS m k + i) = true) : (∀ x, x < 16 → mxN m y ks k i x = mxN m y ks k (i + 1) x) ∧ (∀ x, x < 16 → mxB m y ks k i x = mxB m y ks k (i + 1) x) := by
  refine ⟨fun x hx => ?_, fun x hx => ?_⟩
  · rw [mxN_succ]
    by_cases e : x = clS m k + i
    · rw [if_pos e, e, mxN_at, pxL_snoc_taken h]
    · rw [if_neg e]
  · rw [mxB_succ]
    by_cases e : x = clS m k + i
    · rw [if_pos e, e, mxB_at, tkL_snoc, h]; simp
    · rw [if_neg e]
/-- It is new, and hidden. -/
theorem mx_hidden (hi : i < 4) (h : sdS m y k i ≠ 0) (ht : tkL m y ks (clS m k + i) = false) (hb : 128 ≤ hwS m k) (hg : gd m y (clS m k + i) ≠ 0) : (∀ x, x < 16 → mxN m y ks k i x = mxN m y ks k (i + 1) x) ∧ (∀ x, x < 16 → (if x = clS m k + i then true else mxB m y ks k i x) = mxB m y ks k (i + 1) x) := by
  have h0 : sxS m y k (clS m k + i) ≠ 0 := by rw [sx_at hi]; exact h
  refine ⟨fun x hx => ?_, fun x hx => ?_⟩
  · rw [mxN_succ]
    by_cases e : x = clS m k + i
    · rw [if_pos e, e, mxN_at, pxL_snoc_new ht h0, if_pos ⟨hb, hg⟩]
    · rw [if_neg e]
  · rw [mxB_succ]
    by_cases e : x = clS m k + i
    · rw [if_pos e, if_pos e, e, tkL_snoc]; simp [h0]
    · rw [if_neg e, if_neg e]
/-- It is new, and seen. -/
theorem mx_seen (hi : i < 4) (h : sdS m y k i ≠ 0) (ht : tkL m y ks (clS m k + i) = false) (hb : ¬ (128 ≤ hwS m k ∧ gd m y (clS m k + i) ≠ 0)) : (∀ x, x < 16 → (if x = clS m k + i then gb m (164 + sdS m y k i) else mxN m y ks k i x) = mxN m y ks k (i + 1) x) ∧ (∀ x, x < 16 → (if x = clS m k + i then true else mxB m y ks k i x) = mxB m y ks k (i + 1) x) := by
  have h0 : sxS m y k (clS m k + i) ≠ 0 := by rw [sx_at hi]; exact h
  refine ⟨fun x hx => ?_, fun x hx => ?_⟩
  · rw [mxN_succ]
    by_cases e : x = clS m k + i
    · rw [if_pos e, if_pos e, e, pxL_snoc_new ht h0, if_neg hb, sx_at hi]
    · rw [if_neg e, if_neg e]
  · rw [mxB_succ]
    by_cases e : x = clS m k + i
    · rw [if_pos e, if_pos e, e, tkL_snoc]; simp [h0]
    · rw [if_neg e, if_neg e]
end
end Go.Proofs.Ytcdemkafbphdbaa
