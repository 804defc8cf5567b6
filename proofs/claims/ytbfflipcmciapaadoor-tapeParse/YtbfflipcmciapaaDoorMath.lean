/-
  Plain facts on words of sixteen bits, with no Go in sight: what a sum, a difference, a product and a move come to as numbers.
-/
import Derived.WalkKit
import Derived.Laws.BitsAllLaws
namespace Go.Proofs.YtbfflipcmciapaaDoor.M
set_option linter.unusedVariables false
set_option maxRecDepth 100000

def sg (a : Int) : Int := if 32768 ≤ a then a - 65536 else a
def addN (a b : Int) : Int := (a + b) % 65536
def addC (a b : Int) : Bool := decide (65535 < a + b)
def addV (a b : Int) : Bool := decide (32767 < sg a + sg b ∨ sg a + sg b < -32768)
def subN (a b : Int) : Int := (a - b) % 65536
def subC (a b : Int) : Bool := decide (a < b)
def subV (a b : Int) : Bool := decide (32767 < sg a - sg b ∨ sg a - sg b < -32768)
def mulN (a b : Int) : Int := (a * b) % 65536
def mulC (a b : Int) : Bool := decide (65535 < a * b)
def shlN (a n : Int) : Int := (a * 2 ^ n.toNat) % 65536
def shlC (a n : Int) : Bool := decide (1 ≤ n ∧ a / 2 ^ (16 - n).toNat % 2 = 1)
def shrN (a n : Int) : Int := a / 2 ^ n.toNat
def shrC (a n : Int) : Bool := decide (1 ≤ n ∧ a / 2 ^ (n - 1).toNat % 2 = 1)
def hasB (a n : Int) : Bool := decide (a / 2 ^ n.toNat % 2 = 1)
def low (a n : Int) : Int := if (2 : Int) ^ n.toNat ≤ 2 * (a % 2 ^ n.toNat) then a % 2 ^ n.toNat - 2 ^ n.toNat else a % 2 ^ n.toNat

theorem addN_bd (a b : Int) : 0 ≤ addN a b ∧ addN a b ≤ 65535 := by unfold addN; omega
theorem subN_bd (a b : Int) : 0 ≤ subN a b ∧ subN a b ≤ 65535 := by unfold subN; omega
theorem mulN_bd (a b : Int) : 0 ≤ mulN a b ∧ mulN a b ≤ 65535 := by unfold mulN; omega
theorem shlN_bd (a n : Int) : 0 ≤ shlN a n ∧ shlN a n ≤ 65535 := by unfold shlN; omega

/-! ### the highest bit -/
theorem top (x : Nat) (h : x < 65536) : x.testBit 15 = decide (32768 ≤ x) := by
  rw [Nat.testBit_eq_decide_div_mod_eq]
  by_cases hx : 32768 ≤ x
  · rw [decide_eq_true hx, decide_eq_true]; omega
  · rw [decide_eq_false hx, decide_eq_false]; omega
theorem and_pow (x i : Nat) : x &&& 2 ^ i = if x.testBit i then 2 ^ i else 0 := by
  apply Nat.eq_of_testBit_eq
  intro j
  rw [Nat.testBit_and, Nat.testBit_two_pow]
  by_cases h : i = j
  · subst h; cases x.testBit i <;> simp [Nat.testBit_two_pow_self]
  · cases x.testBit i <;> simp [h]
theorem and_top (x : Nat) : (((x &&& 32768 : Nat) : Int) != 0) = x.testBit 15 := by
  have h : x &&& 32768 = if x.testBit 15 then 2 ^ 15 else 0 := and_pow x 15
  rw [h]
  cases x.testBit 15 <;> decide
theorem signs (x y z t : Nat) (hx : x < 65536) (hy : y < 65536) (hz : z < 65536) (ht : t < 65536) :
    (bits .and .u16 (bits .and .u16 (bits .xor .u16 (x : Int) (y : Int)) (bits .xor .u16 (z : Int) (t : Int))) 32768 != 0) =
      ((decide (32768 ≤ x) != decide (32768 ≤ y)) && (decide (32768 ≤ z) != decide (32768 ≤ t))) := by
  have h1 : x ^^^ y < 2 ^ 16 := Nat.xor_lt_two_pow (by omega) (by omega)
  have h2 : z ^^^ t < 2 ^ 16 := Nat.xor_lt_two_pow (by omega) (by omega)
  have h3 : (x ^^^ y) &&& (z ^^^ t) < 2 ^ 16 := Nat.and_lt_two_pow _ h2
  rw [u16_xor_nat x y hx hy, u16_xor_nat z t hz ht, u16_and_nat _ _ (by omega) (by omega)]
  rw [show (32768 : Int) = ((32768 : Nat) : Int) from rfl, u16_and_nat _ _ (by omega) (by omega), and_top]
  rw [Nat.testBit_and, Nat.testBit_xor, Nat.testBit_xor, top x hx, top y hy, top z hz, top t ht]

theorem over_add (a b : Int) (ha : 0 ≤ a) (ha' : a ≤ 65535) (hb : 0 ≤ b) (hb' : b ≤ 65535) :
    (bits .and .u16 (bits .and .u16 (bits .xor .u16 a (IntKind.u16.wrap (a + b))) (bits .xor .u16 b (IntKind.u16.wrap (a + b)))) 32768 != 0) = addV a b := by
  obtain ⟨A, rfl⟩ := Int.eq_ofNat_of_zero_le ha
  obtain ⟨B, rfl⟩ := Int.eq_ofNat_of_zero_le hb
  have e : IntKind.u16.wrap ((A : Int) + (B : Int)) = (((A + B) % 65536 : Nat) : Int) := by rw [IntKind.wrap_u16]; omega
  rw [e, signs A _ B _ (by omega) (by omega) (by omega) (by omega)]
  unfold addV sg
  by_cases h1 : 32768 ≤ A <;> by_cases h2 : 32768 ≤ B <;> by_cases h3 : 32768 ≤ (A + B) % 65536 <;> by_cases h4 : (32768 : Int) ≤ (A : Int) <;> by_cases h5 : (32768 : Int) ≤ (B : Int) <;>
    first
      | (exfalso; omega)
      | (simp [h1, h2, h3, h4, h5]; omega)
theorem over_sub (a b : Int) (ha : 0 ≤ a) (ha' : a ≤ 65535) (hb : 0 ≤ b) (hb' : b ≤ 65535) :
    (bits .and .u16 (bits .and .u16 (bits .xor .u16 a b) (bits .xor .u16 a (IntKind.u16.wrap (a - b)))) 32768 != 0) = subV a b := by
  obtain ⟨A, rfl⟩ := Int.eq_ofNat_of_zero_le ha
  obtain ⟨B, rfl⟩ := Int.eq_ofNat_of_zero_le hb
  have e : IntKind.u16.wrap ((A : Int) - (B : Int)) = (((A + 65536 - B) % 65536 : Nat) : Int) := by rw [IntKind.wrap_u16]; omega
  rw [e, signs A B A _ (by omega) (by omega) (by omega) (by omega)]
  unfold subV sg
  by_cases h1 : 32768 ≤ A <;> by_cases h2 : 32768 ≤ B <;> by_cases h3 : 32768 ≤ (A + 65536 - B) % 65536 <;> by_cases h4 : (32768 : Int) ≤ (A : Int) <;> by_cases h5 : (32768 : Int) ≤ (B : Int) <;>
    first
      | (exfalso; omega)
      | (simp [h1, h2, h3, h4, h5]; omega)
theorem carry_add (a b : Int) (ha : 0 ≤ a) (ha' : a ≤ 65535) (hb : 0 ≤ b) (hb' : b ≤ 65535) : decide (IntKind.u16.wrap (a + b) < a) = addC a b := by
  unfold addC; rw [IntKind.wrap_u16, decide_eq_decide]; omega

/-! ### products -/
theorem mul_bd (a b : Int) (ha : 0 ≤ a) (ha' : a ≤ 65535) (hb : 0 ≤ b) (hb' : b ≤ 65535) : 0 ≤ a * b ∧ a * b ≤ 4294836225 := by
  have h1 : 0 ≤ a * b := Int.mul_nonneg ha hb
  have h2 : a * b ≤ 65535 * 65535 := Int.mul_le_mul ha' hb' hb (by omega)
  omega
theorem mul_high (p : Int) (h : 0 ≤ p) : (p / 65536 != 0) = decide (65535 < p) := by
  by_cases c : 65535 < p
  · rw [decide_eq_true c, bne_iff_ne]; omega
  · rw [decide_eq_false c]; simp; omega

/-! ### bits and bytes -/
theorem bit_of (x : Int) (h : 0 ≤ x) (h' : x ≤ 65535) : (bits .and .u16 x 1 == 1) = decide (x % 2 = 1) := by
  obtain ⟨X, rfl⟩ := Int.eq_ofNat_of_zero_le h
  rw [show (1 : Int) = ((1 : Nat) : Int) from rfl, u16_and_nat _ _ (by omega) (by omega), Nat.and_one_is_mod]
  by_cases c : (X : Int) % 2 = 1
  · rw [decide_eq_true (by omega), beq_iff_eq]; omega
  · rw [decide_eq_false (by omega), beq_eq_false_iff_ne]; omega
theorem joined (a b : Int) (ha : 0 ≤ a) (ha' : a ≤ 255) (hb : 0 ≤ b) (hb' : b ≤ 255) : bits .or .u16 (a * 256) b = a * 256 + b := by
  obtain ⟨A, rfl⟩ := Int.eq_ofNat_of_zero_le ha
  obtain ⟨B, rfl⟩ := Int.eq_ofNat_of_zero_le hb
  rw [show (A : Int) * 256 = ((A * 256 : Nat) : Int) from by omega, u16_or_nat _ _ (by omega) (by omega)]
  have h : A * 256 ||| B = A * 256 + B := by
    have := Nat.two_pow_add_eq_or_of_lt (i := 8) (b := B) (by omega) A
    rw [show A * 256 = 2 ^ 8 * A from by omega]; exact this.symm
  rw [h]; omega
theorem has_of (a n : Int) (ha : 0 ≤ a) (ha' : a ≤ 65535) : (bits .and .u16 (a / 2 ^ n.toNat) 1 == 1) = hasB a n := by
  have hp : (0 : Int) < 2 ^ n.toNat := Int.pow_pos (by omega)
  have h0 : 0 ≤ a / 2 ^ n.toNat := Int.ediv_nonneg ha (by omega)
  have h1 : a / 2 ^ n.toNat ≤ a := Int.ediv_le_self _ ha
  exact bit_of _ h0 (by omega)
theorem wrap_i16 (n : Int) : IntKind.i16.wrap n = if 32768 ≤ n % 65536 then n % 65536 - 65536 else n % 65536 := by
  simp [IntKind.wrap, IntKind.bits, IntKind.signed]
theorem wrap64_small (n : Int) (h : -32768 ≤ n) (h' : n ≤ 32767) : RowKit.wrap64 n = n := by unfold RowKit.wrap64; omega
theorem low_of (a n : Int) (hn : 1 ≤ n) (hn' : n ≤ 16) :
    RowKit.wrap64 (IntKind.i16.wrap (IntKind.u16.wrap (a * 2 ^ (16 - n).toNat)) / 2 ^ (16 - n).toNat) = low a n := by
  have hc : n = 1 ∨ n = 2 ∨ n = 3 ∨ n = 4 ∨ n = 5 ∨ n = 6 ∨ n = 7 ∨ n = 8 ∨ n = 9 ∨ n = 10 ∨ n = 11 ∨ n = 12 ∨ n = 13 ∨ n = 14 ∨ n = 15 ∨ n = 16 := by omega
  unfold low
  rw [IntKind.wrap_u16, wrap_i16]
  rcases hc with rfl | rfl | rfl | rfl | rfl | rfl | rfl | rfl | rfl | rfl | rfl | rfl | rfl | rfl | rfl | rfl <;>
    (simp only [Int.reduceSub, Int.reduceToNat, Int.reducePow]
     split <;> split <;> (rw [wrap64_small _ (by omega) (by omega)]; omega))
theorem and_low (a : Int) (k : Nat) (hk : k ≤ 16) (ha : 0 ≤ a) (ha' : a ≤ 65535) : bits .and .u16 a ((2 ^ k - 1 : Nat) : Int) = a % 2 ^ k := by
  obtain ⟨A, rfl⟩ := Int.eq_ofNat_of_zero_le ha
  have hp : 2 ^ k ≤ 2 ^ 16 := Nat.pow_le_pow_right (by omega) hk
  rw [u16_and_nat _ _ (by omega) (by omega), Nat.and_two_pow_sub_one_eq_mod]
  simp
theorem back_of (a n : Int) (ha : 0 ≤ a) (ha' : a ≤ 65535) (hn : 0 ≤ n) (hn' : n ≤ 15) : bits .and .u16 a (65535 / 2 ^ n.toNat) = shrN (shlN a n) n := by
  have hc : n = 0 ∨ n = 1 ∨ n = 2 ∨ n = 3 ∨ n = 4 ∨ n = 5 ∨ n = 6 ∨ n = 7 ∨ n = 8 ∨ n = 9 ∨ n = 10 ∨ n = 11 ∨ n = 12 ∨ n = 13 ∨ n = 14 ∨ n = 15 := by omega
  have key := fun k hk => and_low a k hk ha ha'
  unfold shrN shlN
  rcases hc with rfl | rfl | rfl | rfl | rfl | rfl | rfl | rfl | rfl | rfl | rfl | rfl | rfl | rfl | rfl | rfl
  · refine (key 16 (by omega)).trans ?_; simp
  · refine (key 15 (by omega)).trans ?_; simp only [Int.reduceToNat, Int.reducePow]; omega
  · refine (key 14 (by omega)).trans ?_; simp only [Int.reduceToNat, Int.reducePow]; omega
  · refine (key 13 (by omega)).trans ?_; simp only [Int.reduceToNat, Int.reducePow]; omega
  · refine (key 12 (by omega)).trans ?_; simp only [Int.reduceToNat, Int.reducePow]; omega
  · refine (key 11 (by omega)).trans ?_; simp only [Int.reduceToNat, Int.reducePow]; omega
  · refine (key 10 (by omega)).trans ?_; simp only [Int.reduceToNat, Int.reducePow]; omega
  · refine (key 9 (by omega)).trans ?_; simp only [Int.reduceToNat, Int.reducePow]; omega
  · refine (key 8 (by omega)).trans ?_; simp only [Int.reduceToNat, Int.reducePow]; omega
  · refine (key 7 (by omega)).trans ?_; simp only [Int.reduceToNat, Int.reducePow]; omega
  · refine (key 6 (by omega)).trans ?_; simp only [Int.reduceToNat, Int.reducePow]; omega
  · refine (key 5 (by omega)).trans ?_; simp only [Int.reduceToNat, Int.reducePow]; omega
  · refine (key 4 (by omega)).trans ?_; simp only [Int.reduceToNat, Int.reducePow]; omega
  · refine (key 3 (by omega)).trans ?_; simp only [Int.reduceToNat, Int.reducePow]; omega
  · refine (key 2 (by omega)).trans ?_; simp only [Int.reduceToNat, Int.reducePow]; omega
  · refine (key 1 (by omega)).trans ?_; simp only [Int.reduceToNat, Int.reducePow]; omega
theorem sg_bd (a : Int) (ha : 0 ≤ a) (ha' : a ≤ 65535) : -32768 ≤ sg a ∧ sg a ≤ 32767 := by unfold sg; split <;> omega
/-! ### moved bit by bit -/
def upTo (a : Int) : Nat → Int
  | 0 => a
  | k + 1 => (upTo a k * 2) % 65536
def upOut (a : Int) : Nat → Bool
  | 0 => false
  | k + 1 => decide (32768 ≤ upTo a k)
def downTo (a : Int) : Nat → Int
  | 0 => a
  | k + 1 => downTo a k / 2
def downOut (a : Int) : Nat → Bool
  | 0 => false
  | k + 1 => (downTo a k % 2 == 1)
theorem upTo_bd (a : Int) (ha : 0 ≤ a) (ha' : a ≤ 65535) (k : Nat) : 0 ≤ upTo a k ∧ upTo a k ≤ 65535 := by
  cases k with
  | zero => exact ⟨ha, ha'⟩
  | succ k => simp only [upTo]; omega
theorem downTo_bd (a : Int) (ha : 0 ≤ a) (ha' : a ≤ 65535) (k : Nat) : 0 ≤ downTo a k ∧ downTo a k ≤ 65535 := by
  induction k with
  | zero => exact ⟨ha, ha'⟩
  | succ k ih => simp only [downTo]; omega
theorem upTo_eq (a : Int) (ha : 0 ≤ a) (ha' : a ≤ 65535) (k : Nat) : upTo a k = (a * 2 ^ k) % 65536 := by
  induction k with
  | zero => simp only [upTo, Int.pow_zero]; omega
  | succ k ih =>
    simp only [upTo, ih, Int.pow_succ]
    rw [show a * (2 ^ k * 2) = a * 2 ^ k * 2 from by rw [Int.mul_assoc]]
    generalize a * 2 ^ k = x
    omega
theorem downTo_eq (a : Int) (k : Nat) : downTo a k = a / 2 ^ k := by
  induction k with
  | zero => simp [downTo]
  | succ k ih =>
    simp only [downTo, ih, Int.pow_succ]
    rw [Int.ediv_ediv_of_nonneg (Int.le_of_lt (Int.pow_pos (by omega)))]
theorem up_shl (a n : Int) (ha : 0 ≤ a) (ha' : a ≤ 65535) (hn : 0 ≤ n) (hn' : n ≤ 15) : upTo a n.toNat = shlN a n ∧ upOut a n.toNat = shlC a n := by
  have hc : n = 0 ∨ n = 1 ∨ n = 2 ∨ n = 3 ∨ n = 4 ∨ n = 5 ∨ n = 6 ∨ n = 7 ∨ n = 8 ∨ n = 9 ∨ n = 10 ∨ n = 11 ∨ n = 12 ∨ n = 13 ∨ n = 14 ∨ n = 15 := by omega
  refine ⟨upTo_eq a ha ha' _, ?_⟩
  rcases hc with rfl | rfl | rfl | rfl | rfl | rfl | rfl | rfl | rfl | rfl | rfl | rfl | rfl | rfl | rfl | rfl
  · simp [upOut, shlC]
  all_goals
    simp only [Int.reduceSub, Int.reduceToNat, upOut, shlC, upTo_eq a ha ha', Int.reducePow]
    rw [Bool.eq_iff_iff, decide_eq_true_eq, decide_eq_true_eq]
    omega
theorem down_shr (a n : Int) (hn : 0 ≤ n) (hn' : n ≤ 15) : downTo a n.toNat = shrN a n ∧ downOut a n.toNat = shrC a n := by
  have hc : n = 0 ∨ n = 1 ∨ n = 2 ∨ n = 3 ∨ n = 4 ∨ n = 5 ∨ n = 6 ∨ n = 7 ∨ n = 8 ∨ n = 9 ∨ n = 10 ∨ n = 11 ∨ n = 12 ∨ n = 13 ∨ n = 14 ∨ n = 15 := by omega
  refine ⟨downTo_eq a _, ?_⟩
  rcases hc with rfl | rfl | rfl | rfl | rfl | rfl | rfl | rfl | rfl | rfl | rfl | rfl | rfl | rfl | rfl | rfl
  · simp [downOut, shrC]
  all_goals
    simp only [Int.reduceSub, Int.reduceToNat, downOut, shrC, downTo_eq a, Int.reducePow]
    rw [Bool.eq_iff_iff, beq_iff_eq, decide_eq_true_eq]
    omega
/-! ### a word gathered bit by bit -/
def bitAt (a : Int) (k : Nat) : Int := bits .and .u16 (a / 2 ^ k) 1
def gather (f : Int → Int → Bool) (a b : Int) : Nat → Int
  | 0 => 0
  | k + 1 => if f (bitAt a k) (bitAt b k) then gather f a b k + 2 ^ k else gather f a b k
theorem bitAt_of (a : Int) (k : Nat) (ha : 0 ≤ a) (ha' : a ≤ 65535) : bitAt a k = if a.toNat.testBit k then 1 else 0 := by
  obtain ⟨A, rfl⟩ := Int.eq_ofNat_of_zero_le ha
  unfold bitAt
  have h0 : (A : Int) / 2 ^ k = ((A / 2 ^ k : Nat) : Int) := by simp
  have h1 : A / 2 ^ k ≤ A := Nat.div_le_self _ _
  rw [h0, show (1 : Int) = ((1 : Nat) : Int) from rfl, u16_and_nat _ _ (by omega) (by omega), Nat.and_one_is_mod, Int.toNat_natCast, Nat.testBit_eq_decide_div_mod_eq]
  by_cases h : A / 2 ^ k % 2 = 1
  · simp [h]
  · simp [h]; omega
theorem gather_bd (f : Int → Int → Bool) (a b : Int) (k : Nat) : 0 ≤ gather f a b k ∧ gather f a b k < 2 ^ k := by
  induction k with
  | zero => simp [gather]
  | succ k ih =>
    have hp : (0 : Int) < 2 ^ k := Int.pow_pos (by omega)
    simp only [gather, Int.pow_succ]
    split <;> omega
theorem pow_le (k : Nat) (h : k ≤ 16) : (2 : Int) ^ k ≤ 65536 := by
  have h1 : 2 ^ k ≤ 2 ^ 16 := Nat.pow_le_pow_right (by omega) h
  have h2 : ((2 ^ k : Nat) : Int) = (2 : Int) ^ k := by simp
  omega
theorem gather_nat (f : Int → Int → Bool) (g : Bool → Bool → Bool) (X A B : Nat) (hA : A < 65536) (hB : B < 65536)
    (hf : ∀ p q : Bool, f (if p then 1 else 0) (if q then 1 else 0) = g p q) (hX : ∀ k, X.testBit k = g (A.testBit k) (B.testBit k)) (k : Nat) :
    gather f (A : Int) (B : Int) k = ((X % 2 ^ k : Nat) : Int) := by
  induction k with
  | zero => simp [gather]
  | succ k ih =>
    simp only [gather]
    rw [bitAt_of _ k (by omega) (by omega), bitAt_of _ k (by omega) (by omega), Int.toNat_natCast, Int.toNat_natCast, hf, ← hX, Nat.mod_pow_succ, ih, Nat.testBit_eq_decide_div_mod_eq]
    by_cases h : X / 2 ^ k % 2 = 1
    · simp [h]
    · simp [show X / 2 ^ k % 2 = 0 from by omega]
def fAnd (x y : Int) : Bool := IntKind.u16.wrap (x + y) == 2
def fOr (x y : Int) : Bool := decide (0 < IntKind.u16.wrap (x + y))
def fXor (x y : Int) : Bool := x != y
theorem gather_and (a b : Int) (ha : 0 ≤ a) (ha' : a ≤ 65535) (hb : 0 ≤ b) (hb' : b ≤ 65535) : gather fAnd a b 16 = bits .and .u16 a b := by
  obtain ⟨A, rfl⟩ := Int.eq_ofNat_of_zero_le ha
  obtain ⟨B, rfl⟩ := Int.eq_ofNat_of_zero_le hb
  rw [gather_nat fAnd and (A &&& B) A B (by omega) (by omega) (by decide) (fun k => Nat.testBit_and A B k), u16_and_nat _ _ (by omega) (by omega)]
  have : A &&& B < 2 ^ 16 := Nat.and_lt_two_pow _ (by omega)
  rw [Nat.mod_eq_of_lt this]
theorem gather_or (a b : Int) (ha : 0 ≤ a) (ha' : a ≤ 65535) (hb : 0 ≤ b) (hb' : b ≤ 65535) : gather fOr a b 16 = bits .or .u16 a b := by
  obtain ⟨A, rfl⟩ := Int.eq_ofNat_of_zero_le ha
  obtain ⟨B, rfl⟩ := Int.eq_ofNat_of_zero_le hb
  rw [gather_nat fOr or (A ||| B) A B (by omega) (by omega) (by decide) (fun k => Nat.testBit_or A B k), u16_or_nat _ _ (by omega) (by omega)]
  have : A ||| B < 2 ^ 16 := Nat.or_lt_two_pow (by omega) (by omega)
  rw [Nat.mod_eq_of_lt this]
theorem gather_xor (a b : Int) (ha : 0 ≤ a) (ha' : a ≤ 65535) (hb : 0 ≤ b) (hb' : b ≤ 65535) : gather fXor a b 16 = bits .xor .u16 a b := by
  obtain ⟨A, rfl⟩ := Int.eq_ofNat_of_zero_le ha
  obtain ⟨B, rfl⟩ := Int.eq_ofNat_of_zero_le hb
  rw [gather_nat fXor (fun p q => p ^^ q) (A ^^^ B) A B (by omega) (by omega) (by decide) (fun k => Nat.testBit_xor A B k), u16_xor_nat _ _ (by omega) (by omega)]
  have : A ^^^ B < 2 ^ 16 := Nat.xor_lt_two_pow (by omega) (by omega)
  rw [Nat.mod_eq_of_lt this]
theorem top_of (n : Int) (h : 0 ≤ n) (h' : n ≤ 65535) : (bits .and .u16 n 32768 != 0) = decide (32768 ≤ n) := by
  obtain ⟨X, rfl⟩ := Int.eq_ofNat_of_zero_le h
  rw [show (32768 : Int) = ((32768 : Nat) : Int) from rfl, u16_and_nat _ _ (by omega) (by omega), and_top, top X (by omega)]
  rw [decide_eq_decide]; omega
theorem and_bd (a b : Int) (ha : 0 ≤ a) (ha' : a ≤ 65535) (hb : 0 ≤ b) (hb' : b ≤ 65535) : 0 ≤ bits .and .u16 a b ∧ bits .and .u16 a b ≤ 65535 := by
  rw [← gather_and a b ha ha' hb hb']; have := gather_bd fAnd a b 16; omega
theorem or_bd (a b : Int) (ha : 0 ≤ a) (ha' : a ≤ 65535) (hb : 0 ≤ b) (hb' : b ≤ 65535) : 0 ≤ bits .or .u16 a b ∧ bits .or .u16 a b ≤ 65535 := by
  rw [← gather_or a b ha ha' hb hb']; have := gather_bd fOr a b 16; omega
theorem xor_bd (a b : Int) (ha : 0 ≤ a) (ha' : a ≤ 65535) (hb : 0 ≤ b) (hb' : b ≤ 65535) : 0 ≤ bits .xor .u16 a b ∧ bits .xor .u16 a b ≤ 65535 := by
  rw [← gather_xor a b ha ha' hb hb']; have := gather_bd fXor a b 16; omega
end Go.Proofs.YtbfflipcmciapaaDoor.M
