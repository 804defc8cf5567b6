/-
  Names and registers as the reference looks for them; what an order has, sign by sign. Plain data.
-/
import Derived.Test.YtdjhlfoapieohaaGreatDoorAsmBp
namespace Go.Proofs.YtdjhlfoapieohaaGreatDoor.S
set_option linter.unusedVariables false
set_option linter.unusedSimpArgs false

def letters : By := [97, 98, 99, 100, 101, 102, 103, 104, 105, 106, 107, 108, 109, 110, 111, 112, 113, 114, 115, 116, 117, 118, 119, 120, 121, 122, 95]
def signs : By := letters ++ [48, 49, 50, 51, 52, 53, 54, 55, 56, 57]
theorem all_u8 {p : UInt8 → Prop} (h : ∀ n, n < 256 → p (UInt8.ofNat n)) (c : UInt8) : p c := by
  have := h c.toNat (UInt8.toNat_lt c)
  rwa [UInt8.ofNat_toNat] at this
theorem signs_at (c : UInt8) : signs.contains c = nameCh c := all_u8 (p := fun c => signs.contains c = nameCh c) (by decide +kernel) c
theorem letters_at (c : UInt8) : letters.contains c = (nameCh c && !isDigit c) := all_u8 (p := fun c => letters.contains c = (nameCh c && !isDigit c)) (by decide +kernel) c
def trim (p : UInt8 → Bool) (s : By) : By := (s.reverse.dropWhile p).reverse.dropWhile p
theorem dropWhile_nil {p : UInt8 → Bool} : ∀ s : By, s.dropWhile p = [] ↔ s.all p = true
  | [] => by simp
  | c :: s => by
    rw [List.dropWhile_cons, List.all_cons]
    cases h : p c
    · simp
    · simp only [if_true, Bool.true_and]
      exact dropWhile_nil s
theorem dropWhile_head {p : UInt8 → Bool} {c : UInt8} {r : By} : ∀ s : By, s.dropWhile p = c :: r → p c = false
  | [], h => by simp at h
  | d :: s, h => by
    rw [List.dropWhile_cons] at h
    cases hd : p d
    · rw [hd] at h; simp at h; rw [← h.1]; exact hd
    · rw [hd] at h; exact dropWhile_head s h
theorem trim_nil {p : UInt8 → Bool} (s : By) : trim p s = [] ↔ s.all p = true := by
  unfold trim
  rw [dropWhile_nil, List.all_reverse]
  constructor
  · intro h
    cases hd : s.reverse.dropWhile p with
    | nil => have := (dropWhile_nil _).1 hd; rwa [List.all_reverse] at this
    | cons c r =>
      have := dropWhile_head _ hd
      rw [hd, List.all_cons, this] at h
      cases h
  · intro h
    rw [(dropWhile_nil _).2 (by rw [List.all_reverse]; exact h)]
    rfl
theorem trim_empty {p : UInt8 → Bool} (s : By) : (trim p s).isEmpty = s.all p := by
  cases h : s.all p with
  | true => rw [(trim_nil s).2 h]; rfl
  | false =>
    cases ht : trim p s with
    | nil => rw [(trim_nil s).1 ht] at h; cases h
    | cons c r => rfl
theorem trim_len {p : UInt8 → Bool} (s : By) : (trim p s).length ≤ s.length := by
  unfold trim
  have h1 := (List.dropWhile_sublist p (l := (s.reverse.dropWhile p).reverse)).length_le
  have h2 := (List.dropWhile_sublist p (l := s.reverse)).length_le
  simp at h1 h2; omega

/-! ### registers -/
def regT : By := [32, 114, 48, 32, 114, 49, 32, 114, 50, 32, 114, 51, 32, 114, 52, 32, 114, 53, 32, 114, 54, 32, 114, 55, 32]
theorem regT_yes : ∀ n, n < 256 → 48 ≤ n ∧ n ≤ 55 → Lib.contains regT [32, 114, UInt8.ofNat n, 32] = true := by decide +kernel
def wordsT : Nat → By
  | 0 => [32]
  | j + 1 => 32 :: 114 :: UInt8.ofNat (55 - j) :: wordsT j
theorem regT_words : regT = wordsT 8 := by decide
theorem pre_words : ∀ (j : Nat), j ≤ 8 → ∀ (s : By), s ≠ [] → (∀ x ∈ s, x ≠ 32) → ∀ i, Lib.occAt (wordsT j) (32 :: s ++ [32]) i = true → (reg s).isSome = true
  | 0, _, s, h0, h1, 0, ho => by
    cases s with
    | nil => exact absurd rfl h0
    | cons a s => simp [Lib.occAt, wordsT, List.isPrefixOf] at ho
  | 0, _, s, h0, h1, i + 1, ho => by simp [Lib.occAt, wordsT, List.isPrefixOf] at ho
  | j + 1, hj, s, h0, h1, 0, ho => by
    simp only [Lib.occAt, wordsT, List.drop_zero, List.cons_append, List.isPrefixOf, beq_self_eq_true, Bool.true_and] at ho
    match s, h0, h1, ho with
    | [], h0, _, _ => exact absurd rfl h0
    | [a], _, _, ho =>
      simp only [List.cons_append, List.nil_append, List.isPrefixOf, Bool.and_true, Bool.and_eq_true, beq_iff_eq] at ho
      have := ho.2
      have hb : (UInt8.ofNat (55 - j)).toNat = 55 - j := by simp; omega
      rw [← this] at hb
      simp at hb; omega
    | [a, b], _, _, ho =>
      simp only [List.cons_append, List.nil_append, List.isPrefixOf, Bool.and_eq_true, beq_iff_eq] at ho
      obtain ⟨rfl, rfl, _⟩ := ho
      have hb : (UInt8.ofNat (55 - j)).toNat = 55 - j := by simp; omega
      have hc : ((114 : UInt8) = 114 ∧ 48 ≤ (UInt8.ofNat (55 - j)).toNat ∧ (UInt8.ofNat (55 - j)).toNat ≤ 55) := ⟨rfl, by rw [hb]; omega, by rw [hb]; omega⟩
      show (if _ then _ else none : Option Int).isSome = true
      rw [if_pos hc]
      rfl
    | a :: b :: c :: r, _, h1, ho =>
      simp only [List.cons_append, List.isPrefixOf, Bool.and_eq_true, beq_iff_eq] at ho
      obtain ⟨rfl, rfl, ho⟩ := ho
      have : c = 32 := by
        cases j with
        | zero => simp only [wordsT, List.isPrefixOf, Bool.and_eq_true, beq_iff_eq] at ho; exact ho.1
        | succ j => simp only [wordsT, List.isPrefixOf, Bool.and_eq_true, beq_iff_eq] at ho; exact ho.1
      exact absurd this (h1 c (by simp))
  | j + 1, hj, s, h0, h1, 1, ho => by simp [Lib.occAt, wordsT, List.isPrefixOf] at ho
  | j + 1, hj, s, h0, h1, 2, ho => by
    simp only [Lib.occAt, wordsT, List.drop_succ_cons, List.drop_zero, List.cons_append, List.isPrefixOf, Bool.and_eq_true, beq_iff_eq] at ho
    have hb : (UInt8.ofNat (55 - j)).toNat = 55 - j := by simp; omega
    rw [← ho.1] at hb
    simp at hb; omega
  | j + 1, hj, s, h0, h1, i + 3, ho => by
    have : Lib.occAt (wordsT j) (32 :: s ++ [32]) i = true := by
      simp only [Lib.occAt, wordsT, List.drop_succ_cons] at ho ⊢
      exact ho
    exact pre_words j (by omega) s h0 h1 i this
theorem regT_at (s : By) (h0 : s ≠ []) (h1 : ∀ x ∈ s, x ≠ 32) : Lib.contains regT (32 :: s ++ [32]) = (reg s).isSome := by
  cases hr : (reg s).isSome with
  | true =>
    match s, hr with
    | [], hr => cases hr
    | [a], hr => cases hr
    | a :: b :: c :: r, hr => cases hr
    | [a, c], hr =>
      replace hr : (if a = 114 ∧ 48 ≤ c.toNat ∧ c.toNat ≤ 55 then some ((c.toNat : Int) - 48) else none : Option Int).isSome = true := hr
      by_cases h : a = 114 ∧ 48 ≤ c.toNat ∧ c.toNat ≤ 55
      · obtain ⟨rfl, h⟩ := h
        have := regT_yes c.toNat (UInt8.toNat_lt c) h
        rw [UInt8.ofNat_toNat] at this
        exact this
      · rw [if_neg h] at hr; cases hr
  | false =>
    unfold Lib.contains
    rcases Lib.index_spec regT (32 :: s ++ [32]) with ⟨h, _⟩ | ⟨i, h, _, ho, _⟩
    · rw [h]; rfl
    · rw [regT_words] at ho
      rw [pre_words 8 (by omega) s h0 h1 i ho] at hr
      cases hr
theorem name_sp {s : By} (h : s.all nameCh = true) : ∀ x ∈ s, x ≠ 32 := fun x hx e => by
  have := List.all_eq_true.1 h x hx
  rw [e] at this
  exact absurd this (by decide)

/-! ### what an order has -/
theorem has_parts : ∀ k, k < 32 → (K.row k).2.1 = (parts k).map sgn := by decide +kernel
theorem has_len (k : Nat) (hk : k < 32) : (K.row k).2.1.length = (parts k).length := by rw [has_parts k hk, List.length_map]
theorem has_at (k : Nat) (hk : k < 32) (j : Nat) (p : Nat) (h : (parts k)[j]? = some p) : (K.row k).2.1[j]? = some (sgn p) := by rw [has_parts k hk, List.getElem?_map, h]; rfl
theorem parts_lt (k : Nat) : ∀ p ∈ parts k, p < 4 := fun p hp => by
  unfold parts at hp
  have := (List.mem_filter.1 hp).1
  simpa using this
theorem parts_nodup (k : Nat) : (parts k).Nodup := List.nodup_range.filter _
end Go.Proofs.YtdjhlfoapieohaaGreatDoor.S
