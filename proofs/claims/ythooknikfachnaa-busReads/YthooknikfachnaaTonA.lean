/-
  Voices and sounds as plain numbers, with no Go in sight: clock by clock, and many clocks at one go.
-/
import Derived.Test.YthooknikfachnaaPlain
import Derived.Laws.EntriesVeiled
namespace Go.Proofs.Ythooknikfachnaa
open Go.ChangeShapes Go.WideShapes Go.ChangeAt Go.RowKit
set_option linter.unusedVariables false
set_option maxRecDepth 100000

structure Vc where
  p : Int
  c : Int
  l : Int
  h : Bool
  n : Int
def nz (n : Int) : Int := if n % 2 = 1 then bits .xor .u16 (n / 2) 46080 else n / 2
def swH (h : Bool) (n : Int) : Bool := if n = 0 then !h else decide (n % 2 = 1)
def swN (n : Int) : Int := if n = 0 then 0 else nz n
def swsN (n : Int) : Nat → Int
  | 0 => n
  | k + 1 => swN (swsN n k)
def swsH (h : Bool) (n : Int) : Nat → Bool
  | 0 => h
  | k + 1 => swH (swsH h n k) (swsN n k)
def Vc.tick (v : Vc) : Vc := if v.c = 0 then ⟨v.p, v.p, v.l, swH v.h v.n, swN v.n⟩ else ⟨v.p, v.c - 1, v.l, v.h, v.n⟩
def Vc.ticks (v : Vc) : Nat → Vc
  | 0 => v
  | k + 1 => (v.ticks k).tick
def ltC (p c n : Int) : Int := if n < c + 1 then c - n else p - (n - (c + 1)) % (p + 1)
def ltK (p c n : Int) : Nat := if n < c + 1 then 0 else (1 + (n - (c + 1)) / (p + 1)).toNat
def Vc.later (v : Vc) (n : Int) : Vc := ⟨v.p, ltC v.p v.c n, v.l, swsH v.h v.n (ltK v.p v.c n), swsN v.n (ltK v.p v.c n)⟩
structure Vc.ok (v : Vc) : Prop where
  p : 0 ≤ v.p ∧ v.p ≤ 65535
  c : 0 ≤ v.c ∧ v.c ≤ 65535
  l : 0 ≤ v.l ∧ v.l ≤ 255
  n : 0 ≤ v.n ∧ v.n ≤ 65535

theorem mod_step (m k : Int) (hm : 0 ≤ m) (hk : 0 < k) : (m + 1) % k = (if m % k = k - 1 then 0 else m % k + 1) ∧ (m + 1) / k = (if m % k = k - 1 then m / k + 1 else m / k) := by
  have h1 := Int.emod_nonneg m (show k ≠ 0 by omega)
  have h2 := Int.emod_lt_of_pos m hk
  have e0 := Int.emod_add_mul_ediv m k
  have e : m + 1 = (m % k + 1) + k * (m / k) := by omega
  split
  · rename_i h
    have e2 : m + 1 = 0 + k * (m / k + 1) := by rw [Int.mul_add]; omega
    rw [e2, Int.add_mul_emod_self_left, Int.add_mul_ediv_left _ _ (by omega)]
    simp
  · rw [e, Int.add_mul_emod_self_left, Int.add_mul_ediv_left _ _ (by omega), Int.emod_eq_of_lt (by omega) (by omega), Int.ediv_eq_zero_of_lt (by omega) (by omega)]
    simp
theorem nz_bd (n : Int) (h : 0 ≤ n ∧ n ≤ 65535) : 0 ≤ nz n ∧ nz n ≤ 65535 := by
  unfold nz
  split
  · exact M.xor_bd _ _ (by omega) (by omega) (by omega) (by omega)
  · omega
theorem nz_ne (n : Int) (h : 0 ≤ n ∧ n ≤ 65535) (h0 : n ≠ 0) : nz n ≠ 0 := by
  unfold nz
  split
  · obtain ⟨X, hX⟩ := Int.eq_ofNat_of_zero_le (show 0 ≤ n / 2 by omega)
    rw [hX, show (46080 : Int) = ((46080 : Nat) : Int) from rfl, u16_xor_nat _ _ (by omega) (by omega)]
    have hb : (X ^^^ 46080).testBit 15 = true := by
      rw [Nat.testBit_xor, M.top X (by omega), M.top 46080 (by omega), decide_eq_false (show ¬ 32768 ≤ X by omega)]
      rfl
    intro e
    have e' : X ^^^ 46080 = 0 := by omega
    rw [e'] at hb
    simp at hb
  · omega
theorem swN_bd (n : Int) (h : 0 ≤ n ∧ n ≤ 65535) : 0 ≤ swN n ∧ swN n ≤ 65535 := by
  unfold swN; split
  · omega
  · exact nz_bd n h
theorem swsN_bd (n : Int) (h : 0 ≤ n ∧ n ≤ 65535) (k : Nat) : 0 ≤ swsN n k ∧ swsN n k ≤ 65535 := by
  induction k with
  | zero => exact h
  | succ k ih => exact swN_bd _ ih
theorem swsN_zero (k : Nat) : swsN 0 k = 0 := by
  induction k with
  | zero => rfl
  | succ k ih => rw [swsN, ih]; rfl
theorem swsN_ne (n : Int) (h : 0 ≤ n ∧ n ≤ 65535) (h0 : n ≠ 0) (k : Nat) : swsN n k ≠ 0 := by
  induction k with
  | zero => exact h0
  | succ k ih =>
    rw [swsN]; unfold swN
    rw [if_neg ih]
    exact nz_ne _ (swsN_bd n h k) ih
theorem swsH_zero (h : Bool) (k : Nat) : swsH h 0 k = (h != (k % 2 == 1)) := by
  induction k with
  | zero => simp [swsH]
  | succ k ih =>
    rw [swsH, swsN_zero, ih]
    unfold swH
    rw [if_pos rfl]
    by_cases h2 : k % 2 = 1
    · have h3 : (k + 1) % 2 = 0 := by omega
      rw [h2, h3]; cases h <;> rfl
    · have h3 : (k + 1) % 2 = 1 := by omega
      have h4 : k % 2 = 0 := by omega
      rw [h4, h3]; cases h <;> rfl
theorem Vc.tick_ok {v : Vc} (h : v.ok) : v.tick.ok := by
  unfold Vc.tick
  split
  · exact ⟨h.p, h.p, h.l, swN_bd _ h.n⟩
  · exact ⟨h.p, ⟨by have := h.c; simp only; omega, by have := h.c; simp only; omega⟩, h.l, h.n⟩
theorem Vc.ticks_ok {v : Vc} (h : v.ok) (k : Nat) : (v.ticks k).ok := by
  induction k with
  | zero => exact h
  | succ k ih => exact Vc.tick_ok ih
theorem ltC_bd (p c n : Int) (hp : 0 ≤ p ∧ p ≤ 65535) (hc : 0 ≤ c ∧ c ≤ 65535) (hn : 0 ≤ n) : 0 ≤ ltC p c n ∧ ltC p c n ≤ 65535 := by
  unfold ltC
  have b1 := Int.emod_nonneg (n - (c + 1)) (show p + 1 ≠ 0 by omega)
  have b2 := Int.emod_lt_of_pos (n - (c + 1)) (show 0 < p + 1 by omega)
  split <;> omega
theorem Vc.later_ok {v : Vc} (h : v.ok) (n : Int) (hn : 0 ≤ n) : (v.later n).ok := ⟨h.p, ltC_bd _ _ _ h.p h.c hn, h.l, swsN_bd _ h.n _⟩
theorem Vc.later_tick (v : Vc) (h : v.ok) (n : Int) (hn : 0 ≤ n) : (v.later n).tick = v.later (n + 1) := by
  obtain ⟨p, c, l, hi, ns⟩ := v
  obtain ⟨hp, hc, hl, hns⟩ := h
  simp only at hp hc hl hns
  unfold Vc.tick Vc.later
  simp only
  by_cases h1 : n + 1 < c + 1
  · have h2 : n < c + 1 := by omega
    have e1 : ltC p c n = c - n := by unfold ltC; rw [if_pos h2]
    have e2 : ltC p c (n + 1) = c - n - 1 := by unfold ltC; rw [if_pos h1]; omega
    have e3 : ltK p c n = 0 := by unfold ltK; rw [if_pos h2]
    have e4 : ltK p c (n + 1) = 0 := by unfold ltK; rw [if_pos h1]
    rw [e1, e2, e3, e4, if_neg (by omega)]
  · by_cases h2 : n < c + 1
    · have e1 : ltC p c n = 0 := by unfold ltC; rw [if_pos h2]; omega
      have e5 : n + 1 - (c + 1) = 0 := by omega
      have e2 : ltC p c (n + 1) = p := by unfold ltC; rw [if_neg h1, e5]; simp
      have e3 : ltK p c n = 0 := by unfold ltK; rw [if_pos h2]
      have e4 : ltK p c (n + 1) = 1 := by unfold ltK; rw [if_neg h1, e5]; simp
      rw [e1, e2, e3, e4, if_pos rfl]
      rfl
    · have e : n + 1 - (c + 1) = (n - (c + 1)) + 1 := by omega
      obtain ⟨s1, s2⟩ := mod_step (n - (c + 1)) (p + 1) (by omega) (by omega)
      have b1 := Int.emod_nonneg (n - (c + 1)) (show p + 1 ≠ 0 by omega)
      have b2 := Int.emod_lt_of_pos (n - (c + 1)) (show 0 < p + 1 by omega)
      have b3 : 0 ≤ (n - (c + 1)) / (p + 1) := Int.ediv_nonneg (by omega) (by omega)
      have e1 : ltC p c n = p - (n - (c + 1)) % (p + 1) := by unfold ltC; rw [if_neg h2]
      have e3 : ltK p c n = (1 + (n - (c + 1)) / (p + 1)).toNat := by unfold ltK; rw [if_neg h2]
      have e2 : ltC p c (n + 1) = p - (n - (c + 1) + 1) % (p + 1) := by unfold ltC; rw [if_neg h1, e]
      have e4 : ltK p c (n + 1) = (1 + (n - (c + 1) + 1) / (p + 1)).toNat := by unfold ltK; rw [if_neg h1, e]
      by_cases h6 : (n - (c + 1)) % (p + 1) = p
      · rw [s1, if_pos (by omega)] at e2
        rw [s2, if_pos (by omega)] at e4
        have e5 : ltK p c (n + 1) = ltK p c n + 1 := by rw [e3, e4]; omega
        rw [e2, e5, e1, if_pos (by omega)]
        simp [swsH, swsN]
      · rw [s1, if_neg (by omega)] at e2
        rw [s2, if_neg (by omega)] at e4
        have e5 : ltK p c (n + 1) = ltK p c n := by rw [e3, e4]
        rw [e2, e5, e1, if_neg (by omega)]
        simp; omega
theorem Vc.later_zero (v : Vc) (h : v.ok) : v.later 0 = v := by
  have hc := h.c
  have e1 : ltC v.p v.c 0 = v.c := by unfold ltC; rw [if_pos (by omega)]; omega
  have e2 : ltK v.p v.c 0 = 0 := by unfold ltK; rw [if_pos (by omega)]
  unfold Vc.later
  rw [e1, e2]
  rfl
theorem Vc.later_ticks (v : Vc) (h : v.ok) (n : Nat) : v.later n = v.ticks n := by
  induction n with
  | zero => exact v.later_zero h
  | succ n ih => rw [Vc.ticks, ← ih, Vc.later_tick v h n (by omega)]; simp
theorem Vc.ticks_add (v : Vc) (a b : Nat) : (v.ticks a).ticks b = v.ticks (a + b) := by
  induction b with
  | zero => rfl
  | succ b ih => rw [Vc.ticks, ih]; rfl
theorem Vc.later_n0 (v : Vc) (h : v.ok) (k : Nat) : ((v.ticks k).n = 0) ↔ (v.n = 0) := by
  rw [← Vc.later_ticks v h]
  show swsN v.n _ = 0 ↔ _
  constructor
  · intro e
    by_cases h0 : v.n = 0
    · exact h0
    · exact absurd e (swsN_ne v.n h.n h0 _)
  · intro e; rw [e]; exact swsN_zero _
/-! ### sounds -/
structure Sd where
  a : Vc
  b : Vc
  c : Vc
  w : Int
structure Sd.ok (s : Sd) : Prop where
  a : s.a.ok
  b : s.b.ok
  c : s.c.ok
structure Sd.fit (s : Sd) : Prop extends s.ok where
  w : 0 ≤ s.w ∧ s.w ≤ 15
def Sd.tick (s : Sd) : Sd := ⟨s.a.tick, s.b.tick, s.c.tick, if s.w = 0 then 15 else s.w - 1⟩
def Sd.ticks (s : Sd) : Nat → Sd
  | 0 => s
  | k + 1 => (s.ticks k).tick
def ld (v : Vc) : Int := if v.h then v.l % 16 else 0
def smI (s : Sd) : Int := ld s.a + ld s.b + ld s.c
def sm (s : Sd) : UInt8 := UInt8.ofNat (smI s).toNat
def one (s : Sd) : List UInt8 := if s.w = 0 then [sm s] else []
def sms (s : Sd) : Nat → List UInt8
  | 0 => []
  | k + 1 => sms s k ++ one (s.ticks k)
theorem ld_bd (v : Vc) : 0 ≤ ld v ∧ ld v ≤ 15 := by unfold ld; split <;> omega
theorem smI_bd (s : Sd) : 0 ≤ smI s ∧ smI s ≤ 45 := by
  have := ld_bd s.a; have := ld_bd s.b; have := ld_bd s.c
  unfold smI; omega
theorem sm_nat (s : Sd) : ((sm s).toNat : Int) = smI s := by
  have := smI_bd s
  unfold sm
  rw [UInt8.toNat_ofNat']
  omega
theorem Sd.tick_fit {s : Sd} (h : s.fit) : s.tick.fit := by
  refine ⟨⟨Vc.tick_ok h.a, Vc.tick_ok h.b, Vc.tick_ok h.c⟩, ?_⟩
  have := h.w
  unfold Sd.tick
  simp only
  split <;> omega
theorem Sd.ticks_fit {s : Sd} (h : s.fit) (k : Nat) : (s.ticks k).fit := by
  induction k with
  | zero => exact h
  | succ k ih => exact Sd.tick_fit ih
theorem Sd.ticks_add (s : Sd) (a b : Nat) : (s.ticks a).ticks b = s.ticks (a + b) := by
  induction b with
  | zero => rfl
  | succ b ih => rw [Sd.ticks, ih]; rfl
theorem sms_add (s : Sd) (a b : Nat) : sms s (a + b) = sms s a ++ sms (s.ticks a) b := by
  induction b with
  | zero => simp [sms]
  | succ b ih =>
    show sms s (a + b) ++ one (s.ticks (a + b)) = _
    rw [ih, ← Sd.ticks_add, List.append_assoc]
    rfl
theorem sms_len (s : Sd) (k : Nat) : (sms s k).length ≤ k := by
  induction k with
  | zero => simp [sms]
  | succ k ih =>
    simp only [sms, List.length_append]
    have : (one (s.ticks k)).length ≤ 1 := by unfold one; split <;> simp
    omega
theorem Sd.ticks_parts (s : Sd) (k : Nat) : (s.ticks k).a = s.a.ticks k ∧ (s.ticks k).b = s.b.ticks k ∧ (s.ticks k).c = s.c.ticks k := by
  induction k with
  | zero => exact ⟨rfl, rfl, rfl⟩
  | succ k ih => exact ⟨by show (s.ticks k).a.tick = _; rw [ih.1]; rfl, by show (s.ticks k).b.tick = _; rw [ih.2.1]; rfl, by show (s.ticks k).c.tick = _; rw [ih.2.2]; rfl⟩
def wt (s : Sd) : Int := if s.w = 0 then 16 else s.w
/-- Up to the next sample. -/
theorem Sd.near {s : Sd} (h : s.fit) (m : Nat) (h1 : 1 ≤ m) (hm : (m : Int) ≤ wt s) : (s.ticks m).w = wt s - m ∧ sms s m = one s := by
  have hw := h.w
  induction m with
  | zero => omega
  | succ m ih =>
    by_cases h0 : m = 0
    · subst h0
      refine ⟨?_, by simp [sms, Sd.ticks]⟩
      unfold wt
      simp only [Sd.ticks, Sd.tick]
      by_cases hz : s.w = 0 <;> simp [hz]
    · obtain ⟨e1, e2⟩ := ih (by omega) (by omega)
      have e3 : (s.ticks m).w ≠ 0 := by rw [e1]; omega
      refine ⟨?_, ?_⟩
      · simp only [Sd.ticks, Sd.tick]
        rw [if_neg e3, e1]; omega
      · rw [sms, e2]; unfold one; rw [if_neg e3]; simp
def Sd.go (s : Sd) (m : Int) : Sd := ⟨s.a.later m, s.b.later m, s.c.later m, wt s - m⟩
theorem Sd.go_ticks {s : Sd} (h : s.fit) (m : Nat) (h1 : 1 ≤ m) (hm : (m : Int) ≤ wt s) : s.go m = s.ticks m := by
  obtain ⟨e1, e2, e3⟩ := Sd.ticks_parts s m
  unfold Sd.go
  rw [Vc.later_ticks _ h.a, Vc.later_ticks _ h.b, Vc.later_ticks _ h.c, ← (Sd.near h m h1 hm).1, ← e1, ← e2, ← e3]
theorem wt_bd {s : Sd} (h : s.fit) : 1 ≤ wt s ∧ wt s ≤ 16 := by have := h.w; unfold wt; split <;> omega
/-- How many samples there are. -/
theorem sms_count {s : Sd} (h : s.fit) (n : Nat) : ((sms s n).length : Int) = (if s.w < n then (n - s.w - 1) / 16 + 1 else 0) ∧ (s.ticks n).w = (if (n : Int) ≤ s.w then s.w - n else 15 - (n - s.w - 1) % 16) := by
  have hw := h.w
  induction n with
  | zero => simp [sms, Sd.ticks]; omega
  | succ n ih =>
    obtain ⟨i1, i2⟩ := ih
    have hf := (Sd.ticks_fit h n).w
    simp only [sms, List.length_append, Sd.ticks, Sd.tick]
    by_cases hz : (s.ticks n).w = 0
    · have : (one (s.ticks n)).length = 1 := by unfold one; rw [if_pos hz]; rfl
      rw [this, if_pos hz]
      rw [hz] at i2
      constructor
      · split at i2 <;> split at i1 <;> split <;> omega
      · split at i2 <;> split <;> omega
    · have : (one (s.ticks n)).length = 0 := by unfold one; rw [if_neg hz]; rfl
      rw [this, if_neg hz]
      constructor
      · split at i2 <;> split at i1 <;> split <;> omega
      · split at i2 <;> split <;> omega
theorem Vc.ticks_l (v : Vc) (k : Nat) : (v.ticks k).l = v.l := by
  induction k with
  | zero => rfl
  | succ k ih =>
    simp only [Vc.ticks, Vc.tick]
    split <;> exact ih
theorem sms_still {s : Sd} (ha : s.a.l % 16 = 0) (hb : s.b.l % 16 = 0) (hc : s.c.l % 16 = 0) (n : Nat) : ∀ x ∈ sms s n, x = 0 := by
  induction n with
  | zero => intro x hx; simp [sms] at hx
  | succ n ih =>
    intro x hx
    simp only [sms, List.mem_append] at hx
    rcases hx with hx | hx
    · exact ih x hx
    · have e : smI (s.ticks n) = 0 := by
        obtain ⟨e1, e2, e3⟩ := Sd.ticks_parts s n
        unfold smI ld
        rw [e1, e2, e3, Vc.ticks_l, Vc.ticks_l, Vc.ticks_l, ha, hb, hc]
        simp
      unfold one at hx
      split at hx
      · simp only [List.mem_singleton] at hx
        rw [hx]; unfold sm; rw [e]; rfl
      · simp at hx
end Go.Proofs.Ythooknikfachnaa
