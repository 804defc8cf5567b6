/-
  Plain facts on memories whose sprites are moved away or put behind; arguments opened.
-/
import Derived.Test.YtcdemkafbphdbaaPicI
namespace Go.Proofs.Ytcdemkafbphdbaa
open Go.ChangeShapes Go.WideShapes Go.ChangeAt Go.RowKit
set_option linter.unusedVariables false

theorem nowh_same (M : List UInt8) (hM : M.length = 256) (n k : Nat) (hn : n ≤ 8) (hk : k < n) : gb (nowh M n) (128 + 4 * k) = 200 := by
  induction n with
  | zero => omega
  | succ n ih =>
    rw [nowh]
    by_cases e : k = n
    · subst e; exact gb_set_same _ _ _ (by rw [nowh_len]; omega) (by decide)
    · rw [gb_set_ne _ _ _ _ (by omega)]; exact ih (by omega) (by omega)
theorem nowh_ne (M : List UInt8) (n i : Nat) (h : ∀ k, k < n → i ≠ 128 + 4 * k) : gb (nowh M n) i = gb M i := by
  induction n with
  | zero => rfl
  | succ n ih =>
    rw [nowh, gb_set_ne _ _ _ _ (Ne.symm (h n (by omega)))]
    exact ih fun k hk => h k (by omega)
/-- So many sprites are put behind. -/
def bhd (M : List UInt8) : Nat → List UInt8
  | 0 => M
  | n + 1 => (bhd M n).set (131 + 4 * n) (UInt8.ofNat (gb (bhd M n) (131 + 4 * n) ||| 128))
theorem bhd_len (M : List UInt8) (n : Nat) : (bhd M n).length = M.length := by
  induction n with
  | zero => rfl
  | succ n ih => rw [bhd, List.length_set]; exact ih
theorem or_lt (b : Nat) (h : b < 256) : b ||| 128 < 256 := Nat.or_lt_two_pow (n := 8) h (by decide)
theorem bhd_same (M : List UInt8) (hM : M.length = 256) (n k : Nat) (hn : n ≤ 8) (hk : k < n) : 128 ≤ gb (bhd M n) (131 + 4 * k) := by
  induction n with
  | zero => omega
  | succ n ih =>
    rw [bhd]
    by_cases e : k = n
    · subst e
      rw [gb_set_same _ _ _ (by rw [bhd_len]; omega) (or_lt _ (gb_lt ..))]
      exact Nat.right_le_or
    · rw [gb_set_ne _ _ _ _ (by omega)]; exact ih (by omega) (by omega)
theorem td_congr {M M' : List UInt8} (h : ∀ i, i < 80 → gb M i = gb M' i) (t x y : Nat) (hy : y < 4) : td M t x y = td M' t x y := by
  unfold td
  rw [h _ (by omega)]
theorem g16_congr {M M' : List UInt8} (h : ∀ i, i < 80 → gb M i = gb M' i) {Y X : Nat} (hY : Y < 16) (hX : X < 16) : g16 M Y X = g16 M' Y X := by
  unfold g16
  rw [h _ (by omega)]
  exact td_congr h _ _ _ (Nat.mod_lt _ (by decide))
theorem gd_congr {M M' : List UInt8} (h : ∀ i, i < 80 → gb M i = gb M' i) (h8 : gb M 168 = gb M' 168) (h9 : gb M 169 = gb M' 169) (y x : Nat) : gd M y x = gd M' y x := by
  unfold gd
  rw [h8, h9]
  exact g16_congr h (Nat.mod_lt _ (by decide)) (Nat.mod_lt _ (by decide))
/-- Where no sprite lies on the line. -/
theorem px_none {M : List UInt8} {y : Nat} (h : ∀ k, k < 8 → gb M (128 + 4 * k) = 200) (hy : y < 8) (x : Nat) : px M y x = gb M (160 + gd M y x) := by
  have : drS M y 8 = [] := by
    unfold drS
    rw [List.filter_eq_nil_iff]
    intro k hk
    unfold onS lnS
    rw [h k (List.mem_range.1 hk)]
    simp; omega
  unfold px
  rw [this]
  rfl
/-- Where all sprites are behind. -/
theorem px_behind {M : List UInt8} {y x : Nat} (h : ∀ k, k < 8 → 128 ≤ gb M (131 + 4 * k)) (hg : gd M y x ≠ 0) : px M y x = gb M (160 + gd M y x) := by
  unfold px pxL
  split
  · rfl
  · rename_i k hk
    have hm := List.mem_of_find?_eq_some hk
    rw [if_pos ⟨h k (drS_lt (List.mem_of_mem_take hm)), hg⟩]
/-- The memory with its sprites behind, and colours that tell the dots. -/
def bA (m : List UInt8) : List UInt8 := ((((bhd m 8).set 160 (UInt8.ofNat 0)).set 161 (UInt8.ofNat 1)).set 162 (UInt8.ofNat 2)).set 163 (UInt8.ofNat 3)
theorem bA_len (m : List UInt8) : (bA m).length = m.length := by unfold bA; simp only [List.length_set]; exact bhd_len m 8
theorem bA_col (m : List UInt8) (hm : m.length = 256) (d : Nat) (hd : d < 4) : gb (bA m) (160 + d) = d := by
  have h0 : (bhd m 8).length = 256 := (bhd_len m 8).trans hm
  unfold bA
  have hc : d = 0 ∨ d = 1 ∨ d = 2 ∨ d = 3 := by omega
  rcases hc with rfl | rfl | rfl | rfl
  · rw [gb_set_ne _ _ _ _ (by decide), gb_set_ne _ _ _ _ (by decide), gb_set_ne _ _ _ _ (by decide), gb_set_same _ _ _ (by omega) (by decide)]
  · rw [gb_set_ne _ _ _ _ (by decide), gb_set_ne _ _ _ _ (by decide), gb_set_same _ _ _ (by simp; omega) (by decide)]
  · rw [gb_set_ne _ _ _ _ (by decide), gb_set_same _ _ _ (by simp; omega) (by decide)]
  · rw [gb_set_same _ _ _ (by simp; omega) (by decide)]
theorem bA_beh (m : List UInt8) (hm : m.length = 256) (k : Nat) (hk : k < 8) : 128 ≤ gb (bA m) (131 + 4 * k) := by
  unfold bA
  rw [gb_set_ne _ _ _ _ (by omega), gb_set_ne _ _ _ _ (by omega), gb_set_ne _ _ _ _ (by omega), gb_set_ne _ _ _ _ (by omega)]
  exact bhd_same m hm 8 k (Nat.le_refl _) hk
/-- What PictureBehind says. -/
theorem behind_plain (m : List UInt8) (hm : m.length = 256) (y x : Nat) (hy : y < 8) : px (nowh (bA m) 8) y x < 4 ∧ (px (nowh (bA m) 8) y x ≠ 0 → px (bA m) y x = px (nowh (bA m) 8) y x) := by
  have hl : (bA m).length = 256 := (bA_len m).trans hm
  have hg : gd (nowh (bA m) 8) y x = gd (bA m) y x := gd_congr (fun i hi => nowh_ne _ _ _ (fun k hk => by omega)) (nowh_ne _ _ _ (fun k hk => by omega)) (nowh_ne _ _ _ (fun k hk => by omega)) y x
  have hB : px (nowh (bA m) 8) y x = gd (bA m) y x := by
    rw [px_none (fun k hk => nowh_same _ hl 8 k (Nat.le_refl _) hk) hy, hg]
    rw [nowh_ne _ _ _ (fun k hk => by have := gd_lt (bA m) y x; omega)]
    exact bA_col m hm _ (gd_lt ..)
  rw [hB]
  refine ⟨gd_lt .., fun h => ?_⟩
  rw [px_behind (bA_beh m hm) h]
  exact bA_col m hm _ (gd_lt ..)
/-- The memory that is moved to the side. -/
def mvB (A : List UInt8) (n : Nat) : List UInt8 := A.set 168 (UInt8.ofNat ((gb A 168 + n) % 256))
/-- What PictureMoves says. -/
theorem moves_plain (m : List UInt8) (hm : m.length = 256) (y x n : Nat) (hy : y < 8) : px (mvB (nowh m 8) n) y x = px (nowh m 8) y ((x + n) % 16) ∧ px (nowh m 8) y x = gb (nowh m 8) (160 + gd (nowh m 8) y x) := by
  have hl : (nowh m 8).length = 256 := (nowh_len m 8).trans hm
  have hA : ∀ k, k < 8 → gb (nowh m 8) (128 + 4 * k) = 200 := fun k hk => nowh_same m hm 8 k (Nat.le_refl _) hk
  have hne : ∀ i, i ≠ 168 → gb (mvB (nowh m 8) n) i = gb (nowh m 8) i := fun i hi => gb_set_ne _ _ _ _ (Ne.symm hi)
  have hB : ∀ k, k < 8 → gb (mvB (nowh m 8) n) (128 + 4 * k) = 200 := fun k hk => (hne _ (by omega)).trans (hA k hk)
  have h168 : gb (mvB (nowh m 8) n) 168 = (gb (nowh m 8) 168 + n) % 256 := gb_set_same _ _ _ (by omega) (Nat.mod_lt _ (by decide))
  refine ⟨?_, px_none hA hy x⟩
  have hg : gd (mvB (nowh m 8) n) y x = gd (nowh m 8) y ((x + n) % 16) := by
    unfold gd
    rw [h168, hne 169 (by decide)]
    rw [show (x + (gb (nowh m 8) 168 + n) % 256) % 16 = ((x + n) % 16 + gb (nowh m 8) 168) % 16 by omega]
    exact g16_congr (fun i hi => hne i (by omega)) (Nat.mod_lt _ (by decide)) (Nat.mod_lt _ (by decide))
  rw [px_none hB hy, px_none hA hy, hg]
  exact hne _ (by have := gd_lt (nowh m 8) y ((x + n) % 16); omega)
/-- A memory is copied: onto nothing it is appended. -/
theorem app256 {ops : Array Oper} {rest : List Oper} {o : Oper} {a : Act} {w : World} {Q : Exit → Act → World → Prop} (hgd : o.guard = none) (s x : Operand) (ho : o.op = .call { callee := .builtin .append, args := #[s, x], argTypes := #[22, 22] })
    (b : Nat) (hs : a.eval s = .slice (some ⟨b, 0, none⟩) 0 0) (hbz : b = w.heap.size) (xv : Value) (hx : a.eval x = xv) (M : List UInt8) (hl : sliceAt w xv M) (hM : M.length = 256)
    (h : ∀ g c w', w.heap.size ≤ g → 256 ≤ c → Mb w' g M → Below w.heap.size w w' → wpList Try.prog ops Q rest (a.put o.dst (.slice (some ⟨g, 0, none⟩) 256 c)) w') : wpList Try.prog ops Q (o :: rest) a (w.alloc (.cells #[] 5)) := by
  subst hbz
  refine wpList_appSlice hgd s x ho w.heap.size _ [] hs ⟨rfl, Or.inr ⟨w.heap.size, 0, #[], rfl, Nat.le_refl _, heap_alloc_new w _, Nat.le_refl _, Nat.zero_le _, rfl, rfl⟩⟩ xv hx M (hl.kept (stA (st0 w) _)) (by rw [hM]; decide) (by simp) ?_
  intro v' w' hown hb
  rw [List.nil_append] at hown
  rcases hown.2 with ⟨_, h0⟩ | ⟨g, cap, cur, hv, hbg, hg, hn, hm, hs', ht⟩
  · rw [hM] at h0; cases h0
  · subst hv
    have hbx := own_bx hown
    rw [hM] at hn ⊢
    exact h g cap w' hbg hn ⟨hbx, hM⟩ ((stA (st0 w) _).trans hb)
/-- Bytes that came in. -/
theorem open_bytes {H : Type} {enc : TypeId × Value → H} {W : World} {base : Nat} {v : Value} {d : DataW H} {p : List MemPlace} {t : TypeId} (ht : Try.prog.underlying t = some (.slice 5)) (hv : Value.okWide Try.prog W .any base t v) (hd : DataW.Trod enc Try.prog W 0 (fun _ => true) true t v d p) : ∃ l, sliceAt W v l := by
  obtain ⟨a, len, cap, rfl⟩ := okWide_slice ht hv
  obtain ⟨fuel, hf⟩ := hd
  have c1 : Try.prog.cellsOf 5 = 1 := by kernel_rfl
  rcases open_ints ht Try.underlying5 c1 hf with ⟨hc, _⟩ | ⟨ad, len', cap', zs, hc, _, hl, _, hz, _, hcell, hwf⟩
  · have e : (Value.slice a len cap) = .slice none 0 0 := by simpa [Value.cells] using hc
    rw [e]
    exact ⟨[], Or.inl ⟨none, 0, rfl, rfl⟩⟩
  · have e : (Value.slice a len cap) = .slice (some ad) len' cap' := by simpa [Value.cells] using hc
    rw [e]
    simp only [if_true] at hz
    by_cases h0 : len' = 0
    · subst h0
      exact ⟨[], Or.inl ⟨some ad, cap', rfl, rfl⟩⟩
    · have hs := Pl.spot (hcell 0 (by omega))
      obtain ⟨g, o, sp⟩ := ad
      have hs' : sp = none := by
        cases sp with
        | none => rfl
        | some x => simp [Addr.add] at hs
      subst hs'
      refine ⟨(zs.take len').map (fun z => UInt8.ofNat z.toNat), Or.inr ⟨g, o, cap', by rw [List.length_map, List.length_take, Nat.min_eq_left (by omega)], by rw [List.length_map, List.length_take]; omega, World.block_lt_of_cell? W _ (hcell 0 (by omega)), fun j c hj => ?_⟩⟩
      rw [List.getElem?_map] at hj
      obtain ⟨z, hz1, hz2⟩ := Option.map_eq_some_iff.1 hj
      have hjl : j < len' := by
        have := (List.getElem?_eq_some_iff.1 hz1).1
        rw [List.length_take] at this; omega
      rw [List.getElem?_take_of_lt hjl] at hz1
      have hzj : j < zs.length := (List.getElem?_eq_some_iff.1 hz1).1
      have hw := bounds_u8 (hwf z (List.mem_of_getElem? hz1))
      have := hcell j hzj
      rw [addr_add, show zs.getD j 0 = z by simp [List.getD, hz1]] at this
      rw [this, ← hz2]
      rw [show (UInt8.ofNat z.toNat).toNat = z.toNat by simp; omega, show ((z.toNat : Nat) : Int) = z by omega]
end Go.Proofs.Ytcdemkafbphdbaa
