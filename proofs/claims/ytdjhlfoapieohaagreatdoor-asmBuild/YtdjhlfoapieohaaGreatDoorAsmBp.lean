/-
  What is built of a text, told as the reference goes about it: lines that are split, parts that are cut off one by one, orders and registers looked up another way. Plain data.
-/
import Derived.Test.YtdjhlfoapieohaaGreatDoorAsmP
import Derived.Lib.CountLaws
namespace Go.Proofs.YtdjhlfoapieohaaGreatDoor.S
set_option linter.unusedVariables false

theorem split_miss {s sep : By} (h : Lib.index s sep = -1) : Lib.split s sep = [s] := by
  unfold Lib.split; rw [Lib.count_miss h]; rfl
theorem split_hit {s sep : By} {i : Nat} (hs : sep ≠ []) (h : Lib.index s sep = i) : Lib.split s sep = s.take i :: Lib.split (s.drop (i + sep.length)) sep := by
  have hm : ¬ (Lib.index s sep == -1) = true := fun e => by have := beq_iff_eq.1 e; omega
  unfold Lib.split
  rw [Lib.count_hit hs h, Nat.add_comm 1, Lib.splitK, if_neg hm, h]
  simp
theorem split_ne (s sep : By) : Lib.split s sep ≠ [] := by
  unfold Lib.split
  cases Lib.count s sep with
  | zero => simp [Lib.splitK]
  | succ k => unfold Lib.splitK; split <;> simp
theorem index_or (s sep : By) : Lib.index s sep = -1 ∨ ∃ i : Nat, Lib.index s sep = i ∧ i + sep.length ≤ s.length := by
  have h := Lib.index_ge s sep
  by_cases h0 : 0 ≤ Lib.index s sep
  · have h1 := Lib.index_room s sep h0
    exact Or.inr ⟨(Lib.index s sep).toNat, by omega, by omega⟩
  · exact Or.inl (by omega)

/-! ### lines -/
/-- A text's lines one by one: the last of them must be empty. -/
def goLines : List By → Nat → St → Except (Nat × Int) St
  | [], _, st => .ok st
  | t :: r, ln, st => if r = [] then (if t = [] then .ok st else .error (ln, 1)) else match readLine t ln st with
    | .ok st' => goLines r (ln + 1) st'
    | .error e => .error (ln, e)
theorem lines_split : ∀ (f : Nat) (s : By) (ln : Nat) (st : St), s.length ≤ f → readLines f s ln st = goLines (Lib.split s [10]) ln st
  | 0, s, ln, st, hf => by
    have : s = [] := List.length_eq_zero_iff.1 (by omega)
    subst this
    rfl
  | f + 1, s, ln, st, hf => by
    by_cases hs : s = []
    · subst hs; rfl
    · unfold readLines
      rw [if_neg hs]
      rcases index_or s [10] with h | ⟨i, h, hi⟩
      · rw [split_miss h]
        have hc : Lib.cut s [10] = (s, [], false) := by unfold Lib.cut; rw [h, if_neg (by omega)]
        rw [hc]
        simp [goLines, hs]
      · rw [split_hit (by simp) h]
        have hc : Lib.cut s [10] = (s.take i, s.drop (i + 1), true) := by unfold Lib.cut; rw [h, if_pos (by omega)]; simp
        rw [hc]
        simp only [if_true, goLines, List.length_singleton]
        rw [if_neg (split_ne _ _)]
        cases readLine (s.take i) ln st with
        | error e => rfl
        | ok st' => exact lines_split f _ _ _ (by simp at hi ⊢; omega)

/-! ### the parts of a line -/
theorem partsOf_nil : partsOf [] = [] := rfl
theorem partsOf_miss {r : By} (hr : r ≠ []) (h : Lib.index r comma = -1) : partsOf r = [r] := by
  unfold partsOf; rw [if_neg hr, split_miss h]
theorem partsOf_hit {r : By} {i : Nat} (hr : r ≠ []) (h : Lib.index r comma = i) (hn : r.drop (i + 2) ≠ []) : partsOf r = r.take i :: partsOf (r.drop (i + 2)) := by
  unfold partsOf; rw [if_neg hr, if_neg hn, split_hit (by decide) h]; rfl
theorem partsOf_end {r : By} {i : Nat} (hr : r ≠ []) (h : Lib.index r comma = i) (hn : r.drop (i + 2) = []) : partsOf r = [r.take i, []] := by
  unfold partsOf
  rw [if_neg hr, split_hit (by decide) h]
  show _ :: Lib.split (r.drop (i + 2)) comma = _
  rw [hn]; rfl

/-! ### the order of a name: the last that is called so -/
def lastOp : Nat → By → Int
  | 0, _ => -1
  | j + 1, s => if (K.row j).1 = s ∧ j ≠ 30 then j else lastOp j s
theorem names_apartF : ∀ a b : Fin 32, a.val ≠ 30 → b.val ≠ 30 → (K.row a.val).1 = (K.row b.val).1 → a = b := by decide +kernel
theorem names_apart (a : Nat) (ha : a < 32) (b : Nat) (hb : b < 32) (h1 : a ≠ 30) (h2 : b ≠ 30) (h : (K.row a).1 = (K.row b).1) : a = b :=
  congrArg Fin.val (names_apartF ⟨a, ha⟩ ⟨b, hb⟩ h1 h2 h)
theorem lastOp_find : ∀ j, j ≤ 32 → ∀ s : By, lastOp j s = match (List.range j).find? (fun k => k != 30 && (K.row k).1 == s) with
    | some k => (k : Int)
    | none => -1
  | 0, _, s => rfl
  | j + 1, hj, s => by
    have ih := lastOp_find j (by omega) s
    rw [List.range_succ, List.find?_append]
    unfold lastOp
    by_cases h : (K.row j).1 = s ∧ j ≠ 30
    · rw [if_pos h]
      have hno : (List.range j).find? (fun k => k != 30 && (K.row k).1 == s) = none := by
        rw [List.find?_eq_none]
        intro k hk hp
        simp at hk hp
        exact absurd (names_apart k (by omega) j (by omega) hp.1 h.2 (hp.2.trans h.1.symm)) (by omega)
      rw [hno]
      simp [h.1, h.2]
    · rw [if_neg h, ih]
      have hp : (j != 30 && (K.row j).1 == s) = false := by
        cases h1 : (j != 30 && (K.row j).1 == s) with
        | false => rfl
        | true => simp at h1; exact absurd ⟨h1.2, h1.1⟩ h
      simp [hp]
theorem lastOp_32 (s : By) : lastOp 32 s = match opOf s with
    | some k => (k : Int)
    | none => -1 := lastOp_find 32 (Nat.le_refl _) s
theorem opOf_lt {s : By} {k : Nat} (h : opOf s = some k) : k < 32 ∧ k ≠ 30 := by
  have h1 := List.mem_of_find?_eq_some h
  have h2 := List.find?_some h
  simp at h1 h2
  exact ⟨h1, h2.1⟩

/-! ### registers: where they stand in a row of them -/
def regs : By := [114, 48, 114, 49, 114, 50, 114, 51, 114, 52, 114, 53, 114, 54, 114, 55]
theorem regs_at : ∀ n, n < 256 → Lib.index regs [114, UInt8.ofNat n] = if 48 ≤ n ∧ n ≤ 55 then 2 * ((n : Int) - 48) else -1 := by decide +kernel
theorem reg_index (s : By) : reg s = if s.length = 2 ∧ s.head? = some 114 ∧ 0 ≤ Lib.index regs s then some (Lib.index regs s / 2) else none := by
  match s with
  | [] => rfl
  | [a] => simp [reg]
  | a :: b :: c :: r => simp [reg]
  | [a, c] =>
    unfold reg
    by_cases ha : a = 114
    · subst ha
      have hc := regs_at c.toNat (UInt8.toNat_lt c)
      rw [UInt8.ofNat_toNat] at hc
      simp only [true_and, List.length_cons, List.length_nil, List.head?_cons]
      rw [hc]
      by_cases h : 48 ≤ c.toNat ∧ c.toNat ≤ 55
      · rw [if_pos h, if_pos h, if_pos (by omega)]
        congr 1
        omega
      · rw [if_neg h, if_neg h, if_neg (by omega)]
    · simp [ha]
end Go.Proofs.YtdjhlfoapieohaaGreatDoor.S
