/-
  A picture as plain data: a memory's bytes, a tile's dots, the ground, sprites, pixels.
-/
import Derived.Test.YtcdemkafbphdbaaByt
namespace Go.Proofs.Ytcdemkafbphdbaa
open Go.ChangeShapes Go.WideShapes Go.ChangeAt Go.RowKit
set_option linter.unusedVariables false

/-- A byte of it, as a number. -/
def gb (m : List UInt8) (i : Nat) : Nat := (m.getD i 0).toNat
theorem gb_lt (m : List UInt8) (i : Nat) : gb m i < 256 := (m.getD i 0).toNat_lt
/-- A tile's dot. -/
def td (m : List UInt8) (t x y : Nat) : Nat := gb m (16 + 4 * (t % 16) + y) / 4 ^ (3 - x) % 4
theorem td_lt (m : List UInt8) (t x y : Nat) : td m t x y < 4 := Nat.mod_lt _ (by decide)
/-- The ground's dot at a place of the sixteen by sixteen. -/
def g16 (m : List UInt8) (Y X : Nat) : Nat := td m (gb m (Y / 4 * 4 + X / 4)) (X % 4) (Y % 4)
/-- The ground's dot at a pixel. -/
def gd (m : List UInt8) (y x : Nat) : Nat := g16 m ((y + gb m 169) % 16) ((x + gb m 168) % 16)
theorem g16_lt (m : List UInt8) (Y X : Nat) : g16 m Y X < 4 := td_lt ..
theorem gd_lt (m : List UInt8) (y x : Nat) : gd m y x < 4 := td_lt ..
def lnS (m : List UInt8) (k : Nat) : Nat := gb m (128 + 4 * k)
def clS (m : List UInt8) (k : Nat) : Nat := gb m (129 + 4 * k)
def tiS (m : List UInt8) (k : Nat) : Nat := gb m (130 + 4 * k)
def hwS (m : List UInt8) (k : Nat) : Nat := gb m (131 + 4 * k)
/-- Does a sprite lie on a line? -/
def onS (m : List UInt8) (y k : Nat) : Bool := decide (lnS m k ≤ y ∧ y < lnS m k + 4)
/-- All that lie on a line, of the first so many. -/
def drS (m : List UInt8) (y : Nat) (n : Nat) : List Nat := (List.range n).filter (onS m y)
theorem drS_succ (m : List UInt8) (y n : Nat) : drS m y (n + 1) = if onS m y n then drS m y n ++ [n] else drS m y n := by
  unfold drS
  rw [List.range_succ, List.filter_append]
  cases h : onS m y n <;> simp [h]
theorem drS_lt {m : List UInt8} {y n k : Nat} (h : k ∈ drS m y n) : k < n := by
  unfold drS at h
  rw [List.mem_filter] at h
  exact List.mem_range.1 h.1
theorem drS_on {m : List UInt8} {y n k : Nat} (h : k ∈ drS m y n) : onS m y k = true := by
  unfold drS at h
  exact (List.mem_filter.1 h).2
/-- A sprite's row of its tile on a line. -/
def rwS (m : List UInt8) (y k : Nat) : Nat := if hwS m k / 2 % 2 = 1 then 3 - (y - lnS m k) else y - lnS m k
/-- A sprite's dot, i-th column of its own. -/
def sdS (m : List UInt8) (y k i : Nat) : Nat := td m (tiS m k) (if hwS m k % 2 = 1 then 3 - i else i) (rwS m y k)
theorem sdS_lt (m : List UInt8) (y k i : Nat) : sdS m y k i < 4 := td_lt ..
/-- A sprite's dot at a pixel; 0: it has none there. -/
def sxS (m : List UInt8) (y k x : Nat) : Nat := if clS m k ≤ x ∧ x < clS m k + 4 then sdS m y k (x - clS m k) else 0
theorem sxS_lt (m : List UInt8) (y k x : Nat) : sxS m y k x < 4 := by
  unfold sxS
  split
  · exact sdS_lt ..
  · decide
/-- A pixel, where these sprites are drawn. -/
def pxL (m : List UInt8) (y : Nat) (ks : List Nat) (x : Nat) : Nat :=
  match ks.find? (fun k => sxS m y k x != 0) with
  | none => gb m (160 + gd m y x)
  | some k => if 128 ≤ hwS m k ∧ gd m y x ≠ 0 then gb m (160 + gd m y x) else gb m (164 + sxS m y k x)
theorem pxL_lt (m : List UInt8) (y : Nat) (ks : List Nat) (x : Nat) : pxL m y ks x < 256 := by
  unfold pxL
  split
  · exact gb_lt ..
  · split <;> exact gb_lt ..
/-- Has one of these a dot there? -/
def tkL (m : List UInt8) (y : Nat) (ks : List Nat) (x : Nat) : Bool := ks.any (fun k => sxS m y k x != 0)
theorem pxL_nil (m : List UInt8) (y x : Nat) : pxL m y [] x = gb m (160 + gd m y x) := rfl
theorem tkL_nil (m : List UInt8) (y x : Nat) : tkL m y [] x = false := rfl
theorem tkL_snoc (m : List UInt8) (y : Nat) (ks : List Nat) (k x : Nat) : tkL m y (ks ++ [k]) x = (tkL m y ks x || sxS m y k x != 0) := by
  unfold tkL; simp
theorem pxL_free {m : List UInt8} {y : Nat} {ks : List Nat} {x : Nat} (h : tkL m y ks x = false) : pxL m y ks x = gb m (160 + gd m y x) := by
  unfold tkL at h
  have : ks.find? (fun k => sxS m y k x != 0) = none := by
    rw [List.find?_eq_none]
    intro k hk
    rw [List.any_eq_false] at h
    exact h k hk
  unfold pxL
  rw [this]
theorem pxL_snoc_taken {m : List UInt8} {y : Nat} {ks : List Nat} {k x : Nat} (h : tkL m y ks x = true) : pxL m y (ks ++ [k]) x = pxL m y ks x := by
  unfold tkL at h
  unfold pxL
  rw [List.find?_append]
  cases hf : ks.find? (fun k => sxS m y k x != 0) with
  | some a => simp
  | none =>
    rw [List.find?_eq_none] at hf
    rw [List.any_eq_true] at h
    obtain ⟨a, ha, hb⟩ := h
    exact absurd hb (hf a ha)
theorem pxL_snoc_none {m : List UInt8} {y : Nat} {ks : List Nat} {k x : Nat} (h : sxS m y k x = 0) : pxL m y (ks ++ [k]) x = pxL m y ks x := by
  unfold pxL
  rw [List.find?_append]
  have : [k].find? (fun k => sxS m y k x != 0) = none := by simp [h]
  rw [this]
  cases ks.find? (fun k => sxS m y k x != 0) <;> rfl
theorem pxL_snoc_new {m : List UInt8} {y : Nat} {ks : List Nat} {k x : Nat} (h : tkL m y ks x = false) (hd : sxS m y k x ≠ 0) : pxL m y (ks ++ [k]) x = if 128 ≤ hwS m k ∧ gd m y x ≠ 0 then pxL m y ks x else gb m (164 + sxS m y k x) := by
  rw [pxL_free h]
  unfold tkL at h
  have hn : ks.find? (fun k => sxS m y k x != 0) = none := by
    rw [List.find?_eq_none]
    intro k hk
    rw [List.any_eq_false] at h
    exact h k hk
  have h1 : [k].find? (fun k => sxS m y k x != 0) = some k := by simp [hd]
  unfold pxL
  rw [List.find?_append, hn, h1]
  rfl
/-- A line's pixels. -/
def px (m : List UInt8) (y x : Nat) : Nat := pxL m y ((drS m y 8).take 2) x
theorem px_lt (m : List UInt8) (y x : Nat) : px m y x < 256 := pxL_lt ..
/-- Sixteen numbers as an array of bytes. -/
def row16 (f : Nat → Nat) : List Value := (List.range 16).map fun x => Value.int .u8 (f x)
theorem row16_len (f : Nat → Nat) : (row16 f).length = 16 := by simp [row16]
theorem row16_at (f : Nat → Nat) {x : Nat} (h : x < 16) : (row16 f)[x]? = some (.int .u8 (f x)) := by
  unfold row16; rw [List.getElem?_map, List.getElem?_range h]; rfl
theorem row16_congr {f g : Nat → Nat} (h : ∀ x, x < 16 → f x = g x) : row16 f = row16 g := by
  unfold row16
  apply List.map_congr_left
  intro x hx
  rw [h x (List.mem_range.1 hx)]
theorem row16_set (f : Nat → Nat) (x v : Nat) (h : x < 16) : (row16 f).set x (.int .u8 v) = row16 (fun i => if i = x then v else f i) := by
  apply List.ext_getElem?
  intro i
  by_cases hi : i < 16
  · rw [row16_at _ hi]
    by_cases e : i = x
    · subst e
      rw [List.getElem?_set_self (by rw [row16_len]; exact hi)]
      simp
    · rw [List.getElem?_set_ne (Ne.symm e), row16_at _ hi]
      simp [e]
  · rw [List.getElem?_eq_none (by simp [row16_len]; omega), List.getElem?_eq_none (by rw [row16_len]; omega)]
def brow16 (f : Nat → Bool) : List Value := (List.range 16).map fun x => Value.bool (f x)
theorem brow16_len (f : Nat → Bool) : (brow16 f).length = 16 := by simp [brow16]
theorem brow16_at (f : Nat → Bool) {x : Nat} (h : x < 16) : (brow16 f)[x]? = some (.bool (f x)) := by
  unfold brow16; rw [List.getElem?_map, List.getElem?_range h]; rfl
theorem brow16_congr {f g : Nat → Bool} (h : ∀ x, x < 16 → f x = g x) : brow16 f = brow16 g := by
  unfold brow16
  apply List.map_congr_left
  intro x hx
  rw [h x (List.mem_range.1 hx)]
theorem brow16_set (f : Nat → Bool) (x : Nat) (v : Bool) (h : x < 16) : (brow16 f).set x (.bool v) = brow16 (fun i => if i = x then v else f i) := by
  apply List.ext_getElem?
  intro i
  by_cases hi : i < 16
  · rw [brow16_at _ hi]
    by_cases e : i = x
    · subst e
      rw [List.getElem?_set_self (by rw [brow16_len]; exact hi)]
      simp
    · rw [List.getElem?_set_ne (Ne.symm e), brow16_at _ hi]
      simp [e]
  · rw [List.getElem?_eq_none (by simp [brow16_len]; omega), List.getElem?_eq_none (by rw [brow16_len]; omega)]
/-- The memory in the world: where its bytes lie. -/
structure Mm (W : World) (m : List UInt8) (v : Value) (g o c : Nat) : Prop where
  v : v = .slice (some ⟨g, o, none⟩) 256 c
  l : m.length = 256
  z : g < W.heap.size
  c : ∀ i, i < 256 → W.cell? ⟨g, o + i, none⟩ = some (.int .u8 (gb m i))
theorem Mm.of {W : World} {m : List UInt8} {v : Value} (h : sliceAt W v m) (hl : m.length = 256) : ∃ g o c, Mm W m v g o c := by
  rcases h with ⟨a, cap, _, h2⟩ | ⟨g, o, cap, h1, h2, h3, h4⟩
  · rw [h2] at hl; simp at hl
  · refine ⟨g, o, cap, by rw [h1, hl], hl, h3, fun i hi => ?_⟩
    have := h4 i (m.getD i 0) (by rw [List.getElem?_eq_getElem (by omega)]; simp [List.getD, List.getElem?_eq_getElem (show i < m.length by omega)])
    rw [this]; rfl
theorem Mm.kept {W w1 : World} {m : List UInt8} {v : Value} {g o c : Nat} (h : Mm W m v g o c) (hb : Below W.heap.size W w1) : Mm w1 m v g o c :=
  ⟨h.v, h.l, Nat.lt_of_lt_of_le h.z hb.size, fun i hi => (hb.cell (p := ⟨g, o + i, none⟩) h.z).trans (h.c i hi)⟩
end Go.Proofs.Ytcdemkafbphdbaa
