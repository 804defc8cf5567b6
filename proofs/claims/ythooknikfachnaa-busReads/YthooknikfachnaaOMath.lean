/-
  Orders as plain data, with no Go in sight: what an order may hold, its words, and what two words are read as; over the table of the text KData.
-/
import Derived.Test.YthooknikfachnaaKData
import Derived.Test.YthooknikfachnaaMath
namespace Go.Proofs.Ythooknikfachnaa.O
set_option linter.unusedVariables false
set_option maxRecDepth 100000

def hasC (k : Nat) (c : UInt8) : Bool := (K.row k).2.1.contains c
def isOp (op : Int) : Bool := decide (0 ≤ op) && decide (op ≤ 31) && (op != 30)
def lowN (k : Nat) : Int := if k = 12 ∨ k = 13 then 0 else -16
def part (b : Bool) (x lo hi : Int) : Bool := if b then decide (lo ≤ x ∧ x ≤ hi) else decide (x = 0)
/-- May an order of this number hold these? -/
def okB (k : Nat) (d s n w : Int) : Bool := part (hasC k 100) d 0 7 && part (hasC k 115) s 0 7 && part (hasC k 110) n (lowN k) 15 && part (hasC k 119) w 0 65535
/-- What is wrong with an order, as a number. -/
def ck (op d s n w : Int) : Int := if isOp op then (if okB op.toNat d s n w then 0 else 3) else 5
def first (op d s n : Int) : Int := op * 2048 + d * 256 + s * 32 + (n + 32) % 32
def words (op d s n w : Int) : List Int := if hasC op.toNat 119 then [first op d s n, w] else [first op d s n]
/-- What two words are read as. -/
def rOp (a : Int) : Int := if a / 2048 = 30 then 31 else a / 2048
def rk (a : Int) : Nat := (rOp a).toNat
def rD (a : Int) : Int := if hasC (rk a) 100 then a / 256 % 8 else 0
def rS (a : Int) : Int := if hasC (rk a) 115 then a / 32 % 8 else 0
def nOf (k : Nat) (a : Int) : Int := if k = 12 ∨ k = 13 then a % 16 else if 16 ≤ a % 32 then a % 32 - 32 else a % 32
def rN (a : Int) : Int := if hasC (rk a) 110 then nOf (rk a) a else 0
def rW (a b : Int) : Int := if hasC (rk a) 119 then b else 0
def rLen (a : Int) : Int := if hasC (rk a) 119 then 2 else 1

/-- What the shapes tell of an order, as a number of bits. -/
def mask (k : Nat) : Int := (if hasC k 100 then 1 else 0) + (if hasC k 115 then 2 else 0) + (if hasC k 110 then (if k = 12 ∨ k = 13 then 16 else 4) else 0) + (if hasC k 119 then 8 else 0)
theorem mask_cases : ∀ k, k < 32 → mask k ∈ ([0, 1, 2, 3, 5, 7, 8, 9, 17] : List Int) := by decide +kernel
/-- The name that the shapes bear: none at 30. -/
def nameS (k : Nat) : ByteArray := if k = 30 then ⟨#[]⟩ else K.name k
theorem nameS_empty : ∀ k, k < 32 → (nameS k).toList.isEmpty = (k == 30) := by decide +kernel
theorem mask_w : ∀ k, k < 32 → hasC k 119 = decide (mask k / 8 % 2 = 1) := by decide +kernel
theorem mask_or (k : Nat) (hk : k < 32) : mask k = 0 ∨ mask k = 1 ∨ mask k = 2 ∨ mask k = 3 ∨ mask k = 5 ∨ mask k = 7 ∨ mask k = 8 ∨ mask k = 9 ∨ mask k = 17 := by simpa using mask_cases k hk

/-- The limits that a shape's number tells of D, S, N, W. -/
def lo (h : Int) (i : Nat) : Int := if i = 2 ∧ (h / 4 % 2 = 1) ∧ ¬ h / 16 % 2 = 1 then -16 else 0
def hi (h : Int) (i : Nat) : Int :=
  if i = 0 then (if h % 2 = 1 then 7 else 0) else if i = 1 then (if h / 2 % 2 = 1 then 7 else 0) else
  if i = 2 then (if h / 4 % 2 = 1 ∨ h / 16 % 2 = 1 then 15 else 0) else (if h / 8 % 2 = 1 then 65535 else 0)
def inR (l u x : Int) : Bool := decide (l ≤ x) && decide (x ≤ u)
def inB (h : Int) (i : Nat) (x : Int) : Bool := inR (lo h i) (hi h i) x
theorem inB_all (k : Nat) (hk : k < 32) (d s n w : Int) : (inB (mask k) 0 d && inB (mask k) 1 s && inB (mask k) 2 n && inB (mask k) 3 w) = okB k d s n w := by
  have h : ∀ k, k < 32 → (lo (mask k) 0 = 0 ∧ hi (mask k) 0 = (if hasC k 100 then 7 else 0)) ∧ (lo (mask k) 1 = 0 ∧ hi (mask k) 1 = (if hasC k 115 then 7 else 0)) ∧
      (lo (mask k) 2 = (if hasC k 110 then lowN k else 0) ∧ hi (mask k) 2 = (if hasC k 110 then 15 else 0)) ∧ (lo (mask k) 3 = 0 ∧ hi (mask k) 3 = (if hasC k 119 then 65535 else 0)) := by decide +kernel
  obtain ⟨⟨a1, a2⟩, ⟨b1, b2⟩, ⟨c1, c2⟩, ⟨d1, d2⟩⟩ := h k hk
  unfold inB inR okB part
  rw [a1, a2, b1, b2, c1, c2, d1, d2]
  have e : ∀ (c : Bool) (l u x : Int), (decide ((if c then l else 0) ≤ x) && decide (x ≤ if c then u else 0)) = if c then decide (l ≤ x ∧ x ≤ u) else decide (x = 0) := by
    intro c l u x
    cases c
    · simp only [Bool.false_eq_true, if_false]
      rw [← Bool.decide_and, decide_eq_decide]; omega
    · simp
  have e0 : ∀ (c : Bool) (u x : Int), (decide (0 ≤ x) && decide (x ≤ if c then u else 0)) = if c then decide (0 ≤ x ∧ x ≤ u) else decide (x = 0) := by
    intro c u x
    have := e c 0 u x
    rwa [show (if c then (0 : Int) else 0) = 0 by cases c <;> rfl] at this
  rw [e, e0, e0, e0]

theorem part_bd {b : Bool} {x l u : Int} (h : part b x l u = true) (hl : l ≤ 0) (hu : 0 ≤ u) : l ≤ x ∧ x ≤ u := by
  unfold part at h
  cases b
  · have := of_decide_eq_true (by simpa using h : decide (x = 0) = true); omega
  · exact of_decide_eq_true (by simpa using h : decide (l ≤ x ∧ x ≤ u) = true)
theorem ok_bd {k : Nat} {d s n w : Int} (h : okB k d s n w = true) : (0 ≤ d ∧ d ≤ 7) ∧ (0 ≤ s ∧ s ≤ 7) ∧ (-16 ≤ n ∧ n ≤ 15) ∧ (0 ≤ w ∧ w ≤ 65535) := by
  unfold okB at h
  simp only [Bool.and_eq_true] at h
  obtain ⟨⟨⟨h1, h2⟩, h3⟩, h4⟩ := h
  have hl : lowN k ≤ 0 ∧ -16 ≤ lowN k := by unfold lowN; split <;> omega
  have a := part_bd h1 (by omega) (by omega)
  have b := part_bd h2 (by omega) (by omega)
  have c := part_bd h3 (by omega) (by omega)
  have e := part_bd h4 (by omega) (by omega)
  exact ⟨a, b, ⟨by omega, by omega⟩, e⟩
theorem isOp_iff (op : Int) : isOp op = true ↔ 0 ≤ op ∧ op ≤ 31 ∧ op ≠ 30 := by
  unfold isOp
  simp only [Bool.and_eq_true, decide_eq_true_eq, bne_iff_ne, ne_eq, and_assoc]
theorem first_bd {op d s n : Int} (h1 : 0 ≤ op ∧ op ≤ 31) (h2 : 0 ≤ d ∧ d ≤ 7) (h3 : 0 ≤ s ∧ s ≤ 7) : 0 ≤ first op d s n ∧ first op d s n ≤ 65535 := by unfold first; omega

/-! ### the first word, laid in bit by bit -/
theorem or_add (a b : Int) (i : Nat) (ha : 0 ≤ a) (hb : 0 ≤ b) (hb' : b < 2 ^ i) (hs : a * 2 ^ i + b ≤ 65535) : bits .or .u16 (a * 2 ^ i) b = a * 2 ^ i + b := by
  obtain ⟨A, rfl⟩ := Int.eq_ofNat_of_zero_le ha
  obtain ⟨B, rfl⟩ := Int.eq_ofNat_of_zero_le hb
  have e : (A : Int) * 2 ^ i = ((A * 2 ^ i : Nat) : Int) := by simp
  rw [e] at hs ⊢
  have hB : B < 2 ^ i := by
    have : ((2 ^ i : Nat) : Int) = (2 : Int) ^ i := by simp
    omega
  rw [u16_or_nat _ _ (by omega) (by omega)]
  have h : A * 2 ^ i ||| B = A * 2 ^ i + B := by
    have := Nat.two_pow_add_eq_or_of_lt hB A
    rw [Nat.mul_comm A]; exact this.symm
  rw [h]; omega
theorem first_of (op d s m : Int) (h1 : 0 ≤ op ∧ op ≤ 31) (h2 : 0 ≤ d ∧ d ≤ 7) (h3 : 0 ≤ s ∧ s ≤ 7) (h4 : 0 ≤ m ∧ m ≤ 31) :
    bits .or .u16 (bits .or .u16 (bits .or .u16 (op * 2048) (d * 256)) (s * 32)) m = op * 2048 + d * 256 + s * 32 + m := by
  have a := or_add op (d * 256) 11 (by omega) (by omega) (by simp only [Int.reducePow]; omega) (by simp only [Int.reducePow]; omega)
  have b := or_add (op * 8 + d) (s * 32) 8 (by omega) (by omega) (by simp only [Int.reducePow]; omega) (by simp only [Int.reducePow]; omega)
  have c := or_add (op * 64 + d * 8 + s) m 5 (by omega) (by omega) (by simp only [Int.reducePow]; omega) (by simp only [Int.reducePow]; omega)
  simp only [Int.reducePow] at a b c
  rw [a, show op * 2048 + d * 256 = (op * 8 + d) * 256 by omega, b, show (op * 8 + d) * 256 + s * 32 = (op * 64 + d * 8 + s) * 32 by omega, c]
theorem low5 (n : Int) (h : -16 ≤ n ∧ n ≤ 15) : bits .and .u16 (IntKind.u16.wrap n) 31 = (n + 32) % 32 := by
  have e : IntKind.u16.wrap n = n % 65536 := IntKind.wrap_u16 n
  rw [e]
  have := M.and_low (n % 65536) 5 (by omega) (by omega) (by omega)
  rw [show (((2 ^ 5 - 1 : Nat) : Nat) : Int) = 31 by rfl] at this
  rw [this]; simp only [Int.reducePow]; omega
theorem low_5 (a : Int) : M.low a 5 = if 16 ≤ a % 32 then a % 32 - 32 else a % 32 := by
  unfold M.low
  simp only [show (5 : Int).toNat = 5 from rfl, Int.reducePow]
  split <;> split <;> omega

/-! ### what was written is read -/
theorem rOp_first {op d s n : Int} (h1 : isOp op = true) (h2 : 0 ≤ d ∧ d ≤ 7) (h3 : 0 ≤ s ∧ s ≤ 7) : rOp (first op d s n) = op := by
  obtain ⟨a, b, c⟩ := (isOp_iff op).1 h1
  have e : first op d s n / 2048 = op := by unfold first; omega
  unfold rOp
  rw [e, if_neg c]
theorem back {op d s n w : Int} (h1 : isOp op = true) (h : okB op.toNat d s n w = true) :
    rOp (first op d s n) = op ∧ rD (first op d s n) = d ∧ rS (first op d s n) = s ∧ rN (first op d s n) = n ∧ rW (first op d s n) w = w ∧ (hasC op.toNat 119 = false → w = 0) ∧ rLen (first op d s n) = (words op d s n w).length := by
  obtain ⟨b1, b2, b3, b4⟩ := ok_bd h
  obtain ⟨a1, a2, a3⟩ := (isOp_iff op).1 h1
  have hop := rOp_first (n := n) h1 b1 b2
  have hk : rk (first op d s n) = op.toNat := by unfold rk; rw [hop]
  unfold okB at h
  simp only [Bool.and_eq_true] at h
  obtain ⟨⟨⟨p1, p2⟩, p3⟩, p4⟩ := h
  unfold part at p1 p2 p3 p4
  refine ⟨hop, ?_, ?_, ?_, ?_, ?_, ?_⟩
  · unfold rD; rw [hk]
    cases hc : hasC op.toNat 100
    · rw [hc] at p1; have := of_decide_eq_true (by simpa using p1 : decide (d = 0) = true); simp; omega
    · rw [if_pos rfl]; unfold first; omega
  · unfold rS; rw [hk]
    cases hc : hasC op.toNat 115
    · rw [hc] at p2; have := of_decide_eq_true (by simpa using p2 : decide (s = 0) = true); simp; omega
    · rw [if_pos rfl]; unfold first; omega
  · unfold rN; rw [hk]
    cases hc : hasC op.toNat 110
    · rw [hc] at p3; have := of_decide_eq_true (by simpa using p3 : decide (n = 0) = true); simp; omega
    · rw [hc] at p3
      have p := of_decide_eq_true (by simpa using p3 : decide (lowN op.toNat ≤ n ∧ n ≤ 15) = true)
      rw [if_pos rfl]; unfold nOf
      unfold lowN at p
      by_cases hs : op.toNat = 12 ∨ op.toNat = 13
      · rw [if_pos hs]; rw [if_pos hs] at p; unfold first; omega
      · rw [if_neg hs]; rw [if_neg hs] at p; unfold first; split <;> omega
  · unfold rW; rw [hk]
    cases hc : hasC op.toNat 119
    · rw [hc] at p4; have := of_decide_eq_true (by simpa using p4 : decide (w = 0) = true); simp; omega
    · rw [if_pos rfl]
  · intro hc
    rw [hc] at p4; have := of_decide_eq_true (by simpa using p4 : decide (w = 0) = true); exact this
  · unfold rLen words; rw [hk]
    cases hc : hasC op.toNat 119 <;> rfl
theorem rOp_isOp (a : Int) (ha : 0 ≤ a ∧ a ≤ 65535) : isOp (rOp a) = true := by
  rw [isOp_iff]; unfold rOp; split <;> omega
/-- What is read is right. -/
theorem read_ok (a b : Int) (ha : 0 ≤ a ∧ a ≤ 65535) (hb : 0 ≤ b ∧ b ≤ 65535) : okB (rOp a).toNat (rD a) (rS a) (rN a) (rW a b) = true := by
  unfold okB
  simp only [Bool.and_eq_true]
  have hk : rk a = (rOp a).toNat := rfl
  refine ⟨⟨⟨?_, ?_⟩, ?_⟩, ?_⟩
  · unfold part rD; rw [hk]
    cases hc : hasC (rOp a).toNat 100
    · simp
    · simp; omega
  · unfold part rS; rw [hk]
    cases hc : hasC (rOp a).toNat 115
    · simp
    · simp; omega
  · unfold part rN; rw [hk]
    cases hc : hasC (rOp a).toNat 110
    · simp
    · simp only [if_true]
      unfold nOf lowN
      by_cases hs : (rOp a).toNat = 12 ∨ (rOp a).toNat = 13
      · rw [if_pos hs, if_pos hs, decide_eq_true]; omega
      · rw [if_neg hs, if_neg hs, decide_eq_true]; split <;> omega
  · unfold part rW; rw [hk]
    cases hc : hasC (rOp a).toNat 119
    · simp
    · simp; omega
end Go.Proofs.Ythooknikfachnaa.O
