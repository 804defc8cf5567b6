/-
  What is listed of a program is built as it, as plain data.
-/
import Derived.Test.YtdjhlfoapieohaaGreatDoorAsmS
namespace Go.Proofs.YtdjhlfoapieohaaGreatDoor.S
set_option linter.unusedVariables false

/-! ### the first place of a sign -/
theorem index_at (c : UInt8) (tl r : By) (h : tl.isPrefixOf r = true) : ∀ t : By, c ∉ t → Lib.index (t ++ c :: r) (c :: tl) = t.length
  | [], _ => by simp [Lib.index, h]
  | b :: t, hn => by
    have hb : ¬ c = b := by simp at hn; exact hn.1
    have ih := index_at c tl r h t (by simp at hn; exact hn.2)
    have h1 : ((t.length : Int) == -1) = false := by simp
    simp [Lib.index, ih, h1]
    intro e; exact absurd e hb
theorem index_no (c : UInt8) (tl : By) : ∀ t : By, c ∉ t → Lib.index t (c :: tl) = -1
  | [], _ => rfl
  | b :: t, hn => by
    have hb : ¬ c = b := by simp at hn; exact hn.1
    have ih := index_no c tl t (by simp at hn; exact hn.2)
    simp [Lib.index, ih]
    intro e; exact absurd e hb
theorem cut_at (c : UInt8) (t r : By) (h : c ∉ t) : Lib.cut (t ++ c :: r) [c] = (t, r, true) := by
  have e := index_at c [] r (by simp) t h
  unfold Lib.cut
  rw [e, if_pos (by omega)]
  simp [List.drop_append]
theorem cut_no (c : UInt8) (t : By) (h : c ∉ t) : Lib.cut t [c] = (t, [], false) := by
  have e := index_no c [] t h
  unfold Lib.cut
  rw [e, if_neg (by omega)]
theorem suffix_no (c : UInt8) (t : By) (h : c ∉ t) : Lib.hasSuffix t [c] = false := by
  unfold Lib.hasSuffix
  cases e : [c].isSuffixOf t with
  | false => rfl
  | true =>
    have := (List.isSuffixOf_iff_suffix.1 e).subset (List.mem_singleton.2 rfl)
    exact absurd this h

/-! ### parts of a line -/
theorem join_cons (p q : By) (ps : List By) : Lib.join (p :: q :: ps) comma = p ++ 44 :: 32 :: Lib.join (q :: ps) comma := by
  simp [Lib.join, List.intercalate, comma]
theorem join_one (p : By) : Lib.join [p] comma = p := by simp [Lib.join, List.intercalate]
theorem split_join : ∀ (ps : List By), (∀ p ∈ ps, (44 : UInt8) ∉ p) → ∀ p : By, (44 : UInt8) ∉ p → ∀ fuel, ps.length < fuel →
    Lib.countFrom comma fuel (Lib.join (p :: ps) comma) = ps.length ∧ Lib.splitK comma 0 ps.length (Lib.join (p :: ps) comma) = p :: ps
  | [], _, p, hp, fuel, hf => by
    obtain ⟨f, rfl⟩ : ∃ f, fuel = f + 1 := ⟨fuel - 1, by simp at hf; omega⟩
    rw [join_one]
    have e := index_no 44 [32] p hp
    exact ⟨by simp [Lib.countFrom, comma, e], rfl⟩
  | q :: ps, hps, p, hp, fuel, hf => by
    obtain ⟨f, rfl⟩ : ∃ f, fuel = f + 1 := ⟨fuel - 1, by simp at hf; omega⟩
    rw [join_cons]
    have e : Lib.index (p ++ 44 :: 32 :: Lib.join (q :: ps) comma) comma = p.length := index_at 44 [32] (32 :: Lib.join (q :: ps) comma) (by simp) p hp
    have hc : comma.length = 2 := rfl
    obtain ⟨h1, h2⟩ := split_join ps (fun x hx => hps x (by simp [hx])) q (hps q (by simp)) f (by simp at hf; omega)
    have hne : ((p.length : Int) == -1) = false := by simp
    have hd : (p ++ 44 :: 32 :: Lib.join (q :: ps) comma).drop (p.length + 2) = Lib.join (q :: ps) comma := by simp [List.drop_append]
    have ht : (p ++ 44 :: 32 :: Lib.join (q :: ps) comma).take p.length = p := by simp
    constructor
    · rw [Lib.countFrom, e, hne]
      simp only [Bool.false_eq_true, if_false, Int.toNat_natCast, List.length_cons]
      rw [hc, hd, h1]; omega
    · simp only [List.length_cons]
      rw [Lib.splitK, e, hne]
      simp only [Bool.false_eq_true, if_false, Int.toNat_natCast, Nat.add_zero]
      rw [hc, hd, ht, h2]
theorem length_join : ∀ (ps : List By) (p : By), ps.length ≤ (Lib.join (p :: ps) comma).length
  | [], p => by simp
  | q :: ps, p => by
    have := length_join ps q
    rw [join_cons]; simp; omega
theorem split_of (p : By) (ps : List By) (hp : (44 : UInt8) ∉ p) (hps : ∀ q ∈ ps, (44 : UInt8) ∉ q) : Lib.split (Lib.join (p :: ps) comma) comma = p :: ps := by
  have hl := length_join ps p
  obtain ⟨h1, h2⟩ := split_join ps hps p hp ((Lib.join (p :: ps) comma).length + 1) (by omega)
  unfold Lib.split Lib.count
  rw [h1, h2]

/-! ### numbers -/
theorem dec_ne (u : Nat) : Lib.decDigits u ≠ [] := by
  rw [Lib.decDigits]; split <;> simp
theorem dec_digit (u : Nat) : ∀ c ∈ Lib.decDigits u, 48 ≤ c.toNat ∧ c.toNat ≤ 57 := by
  induction u using Nat.strongRecOn with
  | _ u ih =>
    intro c hc
    rw [Lib.decDigits] at hc
    split at hc
    · rw [List.mem_singleton] at hc; subst hc
      have e : (UInt8.ofNat (48 + u)).toNat = (48 + u) % 256 := by simp
      rw [e]; omega
    · rcases List.mem_append.1 hc with h | h
      · exact ih (u / 10) (by omega) c h
      · rw [List.mem_singleton] at h; subst h
        have e : (UInt8.ofNat (48 + u % 10)).toNat = (48 + u % 10) % 256 := by simp
        rw [e]; omega
theorem parse_snoc (c : UInt8) (hc : 48 ≤ c.toNat ∧ c.toNat ≤ 57) : ∀ (l : By) (acc v : Nat), Lib.parseUint10 acc l = .ok v → v < 1000000000000000000 → Lib.parseUint10 acc (l ++ [c]) = .ok (v * 10 + (c.toNat - 48))
  | [], acc, v, h, hv => by
    simp only [Lib.parseUint10, Lib.NumEnd.ok.injEq] at h
    subst h
    simp only [List.nil_append, Lib.parseUint10]
    rw [if_pos hc, if_neg (by omega), if_neg (by omega)]
  | d :: l, acc, v, h, hv => by
    simp only [Lib.parseUint10] at h
    simp only [List.cons_append, Lib.parseUint10]
    split at h
    · rename_i h1
      split at h
      · cases h
      · rename_i h2
        split at h
        · cases h
        · rename_i h3
          rw [if_pos h1, if_neg h2, if_neg h3]
          exact parse_snoc c hc l _ v h hv
    · cases h
theorem parse_dec (u : Nat) (hu : u < 1000000000000000000) : Lib.parseUint10 0 (Lib.decDigits u) = .ok u := by
  induction u using Nat.strongRecOn with
  | _ u ih =>
    rw [Lib.decDigits]
    split
    · rename_i h
      have e : (UInt8.ofNat (48 + u)).toNat = 48 + u := by simp; omega
      simp only [Lib.parseUint10, e]
      rw [if_pos (by omega), if_neg (by omega), if_neg (by omega)]
      congr 1; omega
    · rename_i h
      have e : (UInt8.ofNat (48 + u % 10)).toNat = 48 + u % 10 := by simp; omega
      have := parse_snoc (UInt8.ofNat (48 + u % 10)) (by rw [e]; omega) _ 0 _ (ih (u / 10) (by omega) (by omega)) (by omega)
      rw [this, e]; congr 1; omega
theorem dec_cons (u : Nat) : ∃ c r, Lib.decDigits u = c :: r ∧ 48 ≤ c.toNat ∧ c.toNat ≤ 57 := by
  cases h : Lib.decDigits u with
  | nil => exact absurd h (dec_ne u)
  | cons c r => exact ⟨c, r, rfl, dec_digit u c (by rw [h]; simp)⟩
theorem atoi_itoa (n : Int) (h0 : -1000000 ≤ n) (h1 : n ≤ 1000000) : Lib.atoiAll (Lib.itoa n) = .ok n := by
  unfold Lib.itoa
  by_cases hn : n < 0
  · rw [if_pos hn]
    have hp := parse_dec n.natAbs (by omega)
    have hm : Lib.parseMag (Lib.decDigits n.natAbs) = .ok n.natAbs := by unfold Lib.parseMag; rw [if_neg (dec_ne _), hp]
    have e : (45 : UInt8).toNat = 45 := rfl
    simp only [Lib.atoiAll, e, or_true, if_true, hm]
    rw [if_neg (by simp), if_neg (by omega)]
    congr 1; omega
  · rw [if_neg hn]
    have hp := parse_dec n.toNat (by omega)
    obtain ⟨c, r, hc, c0, c1⟩ := dec_cons n.toNat
    rw [hc] at hp ⊢
    have hm : Lib.parseMag (c :: r) = .ok n.toNat := by unfold Lib.parseMag; rw [if_neg (by simp), hp]
    have n1 : ¬ c.toNat = 43 := by omega
    have n2 : ¬ c.toNat = 45 := by omega
    simp only [Lib.atoiAll, n1, n2, or_self, if_false, hm, false_and, not_false_eq_true, true_and]
    rw [if_neg (by omega)]
    congr 1; omega
theorem num_itoa (n : Int) (h0 : -1000000 ≤ n) (h1 : n ≤ 1000000) : num (Lib.itoa n) = some n := by
  unfold num
  rw [atoi_itoa n h0 h1]
  simp
/-- Digits, and the sign ahead of them. -/
theorem itoa_mem (n : Int) : ∀ c ∈ Lib.itoa n, c = 45 ∨ (48 ≤ c.toNat ∧ c.toNat ≤ 57) := by
  intro c hc
  unfold Lib.itoa at hc
  split at hc
  · rcases List.mem_cons.1 hc with h | h
    · exact Or.inl h
    · exact Or.inr (dec_digit _ c h)
  · exact Or.inr (dec_digit _ c hc)
theorem itoa_ne (n : Int) : Lib.itoa n ≠ [] := by unfold Lib.itoa; split <;> simp [dec_ne]
theorem itoa_not (n : Int) (x : UInt8) (hx : x ≠ 45) (hx' : ¬ (48 ≤ x.toNat ∧ x.toNat ≤ 57)) : x ∉ Lib.itoa n := fun h => by
  rcases itoa_mem n x h with h | h
  · exact hx h
  · exact hx' h
theorem name_itoa (n : Int) : nameOk (Lib.itoa n) = false := by
  cases h : Lib.itoa n with
  | nil => rfl
  | cons c r =>
    have hc := itoa_mem n c (by rw [h]; simp)
    unfold nameOk
    rcases hc with rfl | hc
    · simp [nameCh, isDigit]
    · simp [isDigit, hc]
theorem wordOrName_itoa (n : Int) (h0 : -1000000 ≤ n) (h1 : n ≤ 1000000) : wordOrName (Lib.itoa n) = some (n, []) := by
  unfold wordOrName
  rw [name_itoa, num_itoa n h0 h1]; rfl
theorem dec_small (u : Nat) (h : u < 10) : Lib.decDigits u = [UInt8.ofNat (48 + u)] := by rw [Lib.decDigits, dif_pos h]
theorem reg_itoa (n : Int) (h0 : 0 ≤ n) (h1 : n ≤ 7) : reg (114 :: Lib.itoa n) = some n := by
  have e : Lib.itoa n = [UInt8.ofNat (48 + n.toNat)] := by unfold Lib.itoa; rw [if_neg (by omega), dec_small _ (by omega)]
  have e2 : (UInt8.ofNat (48 + n.toNat)).toNat = 48 + n.toNat := by simp; omega
  rw [e]
  simp only [reg, e2]
  rw [if_pos ⟨trivial, by omega, by omega⟩]
  congr 1; omega
theorem partText_not (o : Ord) (p : Nat) (x : UInt8) (hx : x ≠ 45) (hx' : ¬ (48 ≤ x.toNat ∧ x.toNat ≤ 57)) (hr : x ≠ 114) : x ∉ partText o p := by
  unfold partText
  split
  · intro h
    rcases List.mem_cons.1 h with h | h
    · exact hr h
    · exact itoa_not _ x hx hx' h
  · exact itoa_not _ x hx hx'
theorem join_not (x : UInt8) (h1 : x ≠ 44) (h2 : x ≠ 32) : ∀ ps : List By, (∀ p ∈ ps, x ∉ p) → x ∉ Lib.join ps comma
  | [], _ => by simp [Lib.join, List.intercalate]
  | [p], h => by rw [join_one]; exact h p (by simp)
  | p :: q :: ps, h => by
    rw [join_cons]
    have ih := join_not x h1 h2 (q :: ps) (fun r hr => h r (List.mem_cons_of_mem _ hr))
    have hp := h p (by simp)
    simp only [List.mem_append, List.mem_cons, not_or]
    exact ⟨hp, h1, h2, ih⟩
end Go.Proofs.YtdjhlfoapieohaaGreatDoor.S
