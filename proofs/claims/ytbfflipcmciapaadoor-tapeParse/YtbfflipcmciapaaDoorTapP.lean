/-
  Texts of what was pressed, as plain data: parts between signs, numbers, lines.
-/
import Derived.Test.YtbfflipcmciapaaDoorTapD
import Derived.Lib.AtoiAll
import Derived.Lib.ItoaNum
import Derived.Lib.Split
namespace Go.Proofs.YtbfflipcmciapaaDoor
open Go.ChangeShapes Go.WideShapes Go.ChangeAt Go.RowKit
set_option linter.unusedVariables false
set_option maxRecDepth 100000

theorem Tp.index_at (c : UInt8) (tl r : List UInt8) (h : tl.isPrefixOf r = true) : ∀ t : List UInt8, c ∉ t → Lib.index (t ++ c :: r) (c :: tl) = t.length
  | [], _ => by simp [Lib.index, h]
  | b :: t, hn => by
    have hb : ¬ c = b := by simp at hn; exact hn.1
    have ih := Tp.index_at c tl r h t (by simp at hn; exact hn.2)
    have h1 : ((t.length : Int) == -1) = false := by simp
    simp [Lib.index, ih, h1]
    intro e; exact absurd e hb
theorem Tp.index_no (c : UInt8) (tl : List UInt8) : ∀ t : List UInt8, c ∉ t → Lib.index t (c :: tl) = -1
  | [], _ => rfl
  | b :: t, hn => by
    have hb : ¬ c = b := by simp at hn; exact hn.1
    have ih := Tp.index_no c tl t (by simp at hn; exact hn.2)
    simp [Lib.index, ih]
    intro e; exact absurd e hb
theorem Tp.cut_at (c : UInt8) (t r : List UInt8) (h : c ∉ t) : Lib.cut (t ++ c :: r) [c] = (t, r, true) := by
  have e := Tp.index_at c [] r (by simp) t h
  unfold Lib.cut
  rw [e, if_pos (by omega)]
  simp [List.drop_append]
theorem Tp.cut_no (c : UInt8) (t : List UInt8) (h : c ∉ t) : Lib.cut t [c] = (t, [], false) := by
  have e := Tp.index_no c [] t h
  unfold Lib.cut
  rw [e, if_neg (by omega)]
theorem Tp.dec_ne (u : Nat) : Lib.decDigits u ≠ [] := by
  rw [Lib.decDigits]; split <;> simp
theorem Tp.dec_digit (u : Nat) : ∀ c ∈ Lib.decDigits u, 48 ≤ c.toNat ∧ c.toNat ≤ 57 := by
  induction u using Nat.strongRecOn with
  | _ u ih =>
    intro c hc
    rw [Lib.decDigits] at hc
    split at hc
    · rw [List.mem_singleton] at hc; subst hc
      have e : (UInt8.ofNat (48 + u)).toNat = (48 + u) % 256 := by simp
      rw [e]; omega
    · rcases List.mem_append.1 hc with h | h
      · exact ih (u / 10) (by omega) c h
      · rw [List.mem_singleton] at h; subst h
        have e : (UInt8.ofNat (48 + u % 10)).toNat = (48 + u % 10) % 256 := by simp
        rw [e]; omega
theorem Tp.parse_snoc (c : UInt8) (hc : 48 ≤ c.toNat ∧ c.toNat ≤ 57) : ∀ (l : List UInt8) (acc v : Nat), Lib.parseUint10 acc l = .ok v → v < 1844674407370955161 → Lib.parseUint10 acc (l ++ [c]) = .ok (v * 10 + (c.toNat - 48))
  | [], acc, v, h, hv => by
    simp only [Lib.parseUint10, Lib.NumEnd.ok.injEq] at h
    subst h
    simp only [List.nil_append, Lib.parseUint10]
    rw [if_pos hc, if_neg (by omega), if_neg (by omega)]
  | d :: l, acc, v, h, hv => by
    simp only [Lib.parseUint10] at h
    simp only [List.cons_append, Lib.parseUint10]
    split at h
    · rename_i h1
      split at h
      · cases h
      · rename_i h2
        split at h
        · cases h
        · rename_i h3
          rw [if_pos h1, if_neg h2, if_neg h3]
          exact Tp.parse_snoc c hc l _ v h hv
    · cases h
theorem Tp.parse_dec (u : Nat) (hu : u ≤ 9223372036854775808) : Lib.parseUint10 0 (Lib.decDigits u) = .ok u := by
  induction u using Nat.strongRecOn with
  | _ u ih =>
    rw [Lib.decDigits]
    split
    · rename_i h
      have e : (UInt8.ofNat (48 + u)).toNat = 48 + u := by simp; omega
      simp only [Lib.parseUint10, e]
      rw [if_pos (by omega), if_neg (by omega), if_neg (by omega)]
      congr 1; omega
    · rename_i h
      have e : (UInt8.ofNat (48 + u % 10)).toNat = 48 + u % 10 := by simp; omega
      have := Tp.parse_snoc (UInt8.ofNat (48 + u % 10)) (by rw [e]; omega) _ 0 _ (ih (u / 10) (by omega) (by omega)) (by omega)
      rw [this, e]; congr 1; omega
theorem Tp.dec_cons (u : Nat) : ∃ c r, Lib.decDigits u = c :: r ∧ 48 ≤ c.toNat ∧ c.toNat ≤ 57 := by
  cases h : Lib.decDigits u with
  | nil => exact absurd h (Tp.dec_ne u)
  | cons c r => exact ⟨c, r, rfl, Tp.dec_digit u c (by rw [h]; simp)⟩
theorem Tp.atoi_itoa (n : Int) (h0 : -9223372036854775808 ≤ n) (h1 : n ≤ 9223372036854775807) : Lib.atoiAll (Lib.itoa n) = .ok n := by
  unfold Lib.itoa
  by_cases hn : n < 0
  · rw [if_pos hn]
    have hp := Tp.parse_dec n.natAbs (by omega)
    have hm : Lib.parseMag (Lib.decDigits n.natAbs) = .ok n.natAbs := by unfold Lib.parseMag; rw [if_neg (Tp.dec_ne _), hp]
    have e : (45 : UInt8).toNat = 45 := rfl
    simp only [Lib.atoiAll, e, or_true, if_true, hm]
    rw [if_neg (by simp), if_neg (by omega)]
    congr 1; omega
  · rw [if_neg hn]
    have hp := Tp.parse_dec n.toNat (by omega)
    obtain ⟨c, r, hc, c0, c1⟩ := Tp.dec_cons n.toNat
    rw [hc] at hp ⊢
    have hm : Lib.parseMag (c :: r) = .ok n.toNat := by unfold Lib.parseMag; rw [if_neg (by simp), hp]
    have n1 : ¬ c.toNat = 43 := by omega
    have n2 : ¬ c.toNat = 45 := by omega
    simp only [Lib.atoiAll, n1, n2, or_self, if_false, hm, false_and, not_false_eq_true, true_and]
    rw [if_neg (by omega)]
    congr 1; omega
/-- Digits, and the sign ahead of them. -/
theorem Tp.itoa_mem (n : Int) : ∀ c ∈ Lib.itoa n, c = 45 ∨ (48 ≤ c.toNat ∧ c.toNat ≤ 57) := by
  intro c hc
  unfold Lib.itoa at hc
  split at hc
  · rcases List.mem_cons.1 hc with h | h
    · exact Or.inl h
    · exact Or.inr (Tp.dec_digit _ c h)
  · exact Or.inr (Tp.dec_digit _ c hc)
theorem Tp.itoa_ne (n : Int) : Lib.itoa n ≠ [] := by unfold Lib.itoa; split <;> simp [Tp.dec_ne]
theorem Tp.itoa_not (n : Int) (x : UInt8) (hx : x ≠ 45) (hx' : ¬ (48 ≤ x.toNat ∧ x.toNat ≤ 57)) : x ∉ Lib.itoa n := fun h => by
  rcases Tp.itoa_mem n x h with h | h
  · exact hx h
  · exact hx' h

/-! ### parts between signs -/
def Tp.sp (c : UInt8) : List UInt8 → List (List UInt8)
  | [] => [[]]
  | x :: l => if x = c then [] :: Tp.sp c l else match Tp.sp c l with
    | [] => [[x]]
    | p :: ps => (x :: p) :: ps
theorem Tp.sp_no (c : UInt8) : ∀ u : List UInt8, c ∉ u → Tp.sp c u = [u]
  | [], _ => rfl
  | x :: u, h => by
    have h1 : ¬ x = c := fun e => h (by simp [e])
    rw [Tp.sp, if_neg h1, Tp.sp_no c u (fun e => h (List.mem_cons_of_mem _ e))]
theorem Tp.sp_at (c : UInt8) (r : List UInt8) : ∀ u : List UInt8, c ∉ u → Tp.sp c (u ++ c :: r) = u :: Tp.sp c r
  | [], _ => by simp [Tp.sp]
  | x :: u, h => by
    have h1 : ¬ x = c := fun e => h (by simp [e])
    rw [List.cons_append, Tp.sp, if_neg h1, Tp.sp_at c r u (fun e => h (List.mem_cons_of_mem _ e))]
theorem Tp.first_at (c : UInt8) : ∀ s : List UInt8, c ∈ s → ∃ u r, s = u ++ c :: r ∧ c ∉ u
  | x :: s, h => by
    by_cases e : x = c
    · exact ⟨[], s, by rw [e]; rfl, by simp⟩
    · obtain ⟨u, r, h1, h2⟩ := Tp.first_at c s (by rcases List.mem_cons.1 h with h | h; exact absurd h.symm e; exact h)
      exact ⟨x :: u, r, by rw [h1]; rfl, by simp [h2, Ne.symm e]⟩
theorem Tp.sp_ne (c : UInt8) : ∀ s : List UInt8, Tp.sp c s ≠ []
  | [] => by simp [Tp.sp]
  | x :: s => by
    rw [Tp.sp]
    split
    · simp
    · split <;> simp
theorem Tp.split_from (c : UInt8) : ∀ (fuel : Nat) (s : List UInt8), s.length ≤ fuel → Lib.splitK [c] 0 (Lib.countFrom [c] fuel s) s = Tp.sp c s
  | 0, s, h => by
    have : s = [] := List.length_eq_zero_iff.1 (by omega)
    subst this
    rfl
  | fuel + 1, s, h => by
    by_cases hc : c ∈ s
    · obtain ⟨u, r, rfl, hu⟩ := Tp.first_at c s hc
      have hi := Tp.index_at c [] r (by simp) u hu
      have e1 : ((u.length : Int) == -1) = false := by simp
      rw [Tp.sp_at c r u hu]
      unfold Lib.countFrom
      rw [hi, e1]
      simp only [Bool.false_eq_true, if_false, Int.toNat_natCast, List.length_cons, List.length_nil, Nat.zero_add]
      have e2 : (u ++ c :: r).drop (u.length + 1) = r := by simp [List.drop_append]
      rw [e2, Nat.add_comm 1]
      unfold Lib.splitK
      rw [hi, e1]
      simp only [Bool.false_eq_true, if_false, Int.toNat_natCast, List.length_cons, List.length_nil, Nat.zero_add, Nat.add_zero]
      rw [e2, Tp.split_from c fuel r (by rw [List.length_append, List.length_cons] at h; omega)]
      simp
    · rw [Tp.sp_no c s hc]
      unfold Lib.countFrom
      rw [Tp.index_no c [] s hc]
      rfl
theorem Tp.split_eq (c : UInt8) (s : List UInt8) : Lib.split s [c] = Tp.sp c s := by
  unfold Lib.split Lib.count
  exact Tp.split_from c _ s (by omega)
theorem Tp.sp_mem (c : UInt8) (s : List UInt8) : ∀ p ∈ Tp.sp c s, c ∉ p ∧ p.length ≤ s.length := by
  induction s with
  | nil => intro p hp; simp [Tp.sp] at hp; subst hp; simp
  | cons x s ih =>
    intro p hp
    rw [Tp.sp] at hp
    split at hp
    · rcases List.mem_cons.1 hp with h | h
      · subst h; simp
      · obtain ⟨h1, h2⟩ := ih p h; exact ⟨h1, by simp; omega⟩
    · rename_i hx
      cases hs : Tp.sp c s with
      | nil => exact absurd hs (Tp.sp_ne c s)
      | cons q qs =>
        rw [hs] at hp ih
        rcases List.mem_cons.1 hp with h | h
        · subst h
          obtain ⟨h1, h2⟩ := ih q (by simp)
          exact ⟨by simp [h1, Ne.symm hx], by simp; exact h2⟩
        · obtain ⟨h1, h2⟩ := ih p (by simp [h]); exact ⟨h1, by simp; omega⟩
theorem Tp.sp_len (c : UInt8) (s : List UInt8) : (Tp.sp c s).length ≤ s.length + 1 := by
  induction s with
  | nil => simp [Tp.sp]
  | cons x s ih =>
    rw [Tp.sp]
    split
    · simp; omega
    · cases hs : Tp.sp c s with
      | nil => simp
      | cons q qs => rw [hs] at ih; simp at ih ⊢; omega
/-- Parts are the text's. -/
theorem Tp.sp_three {c : UInt8} {s a b d : List UInt8} (h : Tp.sp c s = [a, b, d]) : s = a ++ c :: (b ++ c :: d) ∧ c ∉ a ∧ c ∉ b ∧ c ∉ d := by
  have hm := Tp.sp_mem c s
  rw [h] at hm
  have h1 := (hm a (by simp)).1
  have h2 := (hm b (by simp)).1
  have h3 := (hm d (by simp)).1
  refine ⟨?_, h1, h2, h3⟩
  by_cases hc : c ∈ s
  · obtain ⟨u, r, rfl, hu⟩ := Tp.first_at c s hc
    rw [Tp.sp_at c r u hu] at h
    injection h with e1 e2
    subst e1
    by_cases hc2 : c ∈ r
    · obtain ⟨u2, r2, rfl, hu2⟩ := Tp.first_at c r hc2
      rw [Tp.sp_at c r2 u2 hu2] at e2
      injection e2 with e3 e4
      subst e3
      by_cases hc3 : c ∈ r2
      · obtain ⟨u3, r3, rfl, hu3⟩ := Tp.first_at c r2 hc3
        rw [Tp.sp_at c r3 u3 hu3] at e4
        injection e4 with e5 e6
        exact absurd e6 (Tp.sp_ne c r3)
      · rw [Tp.sp_no c r2 hc3] at e4
        injection e4 with e5 e6
        rw [e5]
    · rw [Tp.sp_no c r hc2] at e2
      injection e2 with e3 e4
      cases e4
  · rw [Tp.sp_no c s hc] at h
    injection h with e1 e2
    cases e2
theorem Tp.uniq {c : UInt8} : ∀ {u u' r r' : List UInt8}, c ∉ u → c ∉ u' → u ++ c :: r = u' ++ c :: r' → u = u' ∧ r = r'
  | [], [], r, r', _, _, e => ⟨rfl, by injection e⟩
  | [], y :: u', r, r', _, h, e => by
    injection e with e1 e2
    exact absurd (by simp [e1]) h
  | x :: u, [], r, r', h, _, e => by
    injection e with e1 e2
    exact absurd (by simp [e1]) h
  | x :: u, y :: u', r, r', h, h', e => by
    rw [List.cons_append, List.cons_append] at e
    injection e with e1 e2
    obtain ⟨h1, h2⟩ := Tp.uniq (fun m => h (List.mem_cons_of_mem _ m)) (fun m => h' (List.mem_cons_of_mem _ m)) e2
    exact ⟨by rw [e1, h1], h2⟩
/-! ### a line, back -/
/-- What Atoi tells besides its error. -/
def Tp.atv (a : List UInt8) : Int := match Lib.atoiAll a with
  | .ok v => v
  | .syntax => 0
  | .range => Lib.atoiSat a
/-- A number that is written as Itoa does. -/
def Tp.wh (a : List UInt8) : Option Int := match Lib.atoiAll a with
  | .ok v => if Lib.itoa v = a then some v else none
  | .syntax => none
  | .range => none
/-- The input of which this is the line. -/
def Tp.rd (t : List UInt8) : Option Tp.In := match Tp.sp 32 t with
  | [a, b, d] => match Tp.wh a, Tp.wh b, Tp.ofb d with
    | some x, some y, some z => some ⟨x, y, z⟩
    | _, _, _ => none
  | _ => none
end Go.Proofs.YtbfflipcmciapaaDoor
