/-
  Package timer: what Set, Tick, Run, Next answer, as plain numbers; nothing old is written.
-/
import Derived.Test.YthooknikfachnaaPlain
import Derived.Laws.EntriesVeiled
namespace Go.Proofs.Ythooknikfachnaa
open Go.ChangeShapes Go.WideShapes Go.ChangeAt Go.RowKit
set_option linter.unusedVariables false
set_option maxRecDepth 100000

/-- A result's box is read. -/
theorem Pl.res {P : Program} {b o : Nat} {t : TypeId} {Y : World} {v : Value} (h : (loadVar t ⟨b, o, none⟩).run P Y = .ok v Y) :
    ((Sem.run P (asAddr (Value.pointer (some ⟨b, o, none⟩))) Y).andThen fun a w' => Sem.run P (loadVar t a) w') = .ok v Y := h
/-! ### plain numbers -/
structure TM where
  r : Int
  c : Int
  on : Bool
  g : Bool
def TM.tick (t : TM) : TM := if t.on then (if t.c = 0 then ⟨t.r, t.r, true, true⟩ else ⟨t.r, t.c - 1, true, t.g⟩) else t
def TM.ticks (t : TM) : Nat → TM
  | 0 => t
  | n + 1 => (t.ticks n).tick
def tkC (r c : Int) (on : Bool) : Int := if on then (if c = 0 then r else c - 1) else c
def tkG (c : Int) (on g : Bool) : Bool := if on then (if c = 0 then true else g) else g
def rnC (r c : Int) (on : Bool) (n : Int) : Int := if on then (if n < c + 1 then c - n else r - (n - (c + 1)) % (r + 1)) else c
def rnG (c : Int) (on g : Bool) (n : Int) : Bool := if on then (if n < c + 1 then g else true) else g
def TM.run (t : TM) (n : Int) : TM := ⟨t.r, rnC t.r t.c t.on n, t.on, rnG t.c t.on t.g n⟩
theorem TM.tick_eq (t : TM) : t.tick = ⟨t.r, tkC t.r t.c t.on, t.on, tkG t.c t.on t.g⟩ := by
  obtain ⟨r, c, on, g⟩ := t
  unfold TM.tick tkC tkG
  cases on
  · rfl
  · by_cases h : c = 0 <;> simp [h]
theorem Tm.mod_step (m k : Int) (hm : 0 ≤ m) (hk : 0 < k) : (m + 1) % k = if m % k = k - 1 then 0 else m % k + 1 := by
  have h1 := Int.emod_nonneg m (show k ≠ 0 by omega)
  have h2 := Int.emod_lt_of_pos m hk
  have e : m + 1 = (m % k + 1) + k * (m / k) := by have := Int.emod_add_mul_ediv m k; omega
  rw [e, Int.add_mul_emod_self_left]
  split
  · rename_i h; rw [h]; simp
  · exact Int.emod_eq_of_lt (by omega) (by omega)
theorem TM.run_tick (t : TM) (hr : 0 ≤ t.r) (hc : 0 ≤ t.c) (n : Int) (hn : 0 ≤ n) : (t.run n).tick = t.run (n + 1) := by
  obtain ⟨r, c, on, g⟩ := t
  rw [TM.tick_eq]
  unfold TM.run tkC tkG rnC rnG
  cases on
  · rfl
  · simp only [if_true] at *
    by_cases h1 : n + 1 < c + 1
    · have h2 : n < c + 1 := by omega
      have h3 : ¬ (c - n = 0) := by omega
      simp [h1, h2, h3]; omega
    · by_cases h2 : n < c + 1
      · have h3 : c - n = 0 := by omega
        have h4 : n + 1 - (c + 1) = 0 := by omega
        simp [h1, h2, h3, h4]
      · have e : n + 1 - (c + 1) = (n - (c + 1)) + 1 := by omega
        have h5 := Tm.mod_step (n - (c + 1)) (r + 1) (by omega) (by omega)
        have b1 := Int.emod_nonneg (n - (c + 1)) (show r + 1 ≠ 0 by omega)
        have b2 := Int.emod_lt_of_pos (n - (c + 1)) (show 0 < r + 1 by omega)
        simp only [h1, h2, if_false, e, h5]
        by_cases h6 : (n - (c + 1)) % (r + 1) = r
        · simp [h6]
        · have h7 : ¬ (r - (n - (c + 1)) % (r + 1) = 0) := by omega
          simp [h6, h7]; omega
theorem TM.run_zero (t : TM) (hc : 0 ≤ t.c) : t.run 0 = t := by
  obtain ⟨r, c, on, g⟩ := t
  have h : (0 : Int) < c + 1 := by simp at hc; omega
  unfold TM.run rnC rnG
  cases on <;> simp [h]
theorem TM.run_ticks (t : TM) (hr : 0 ≤ t.r) (hc : 0 ≤ t.c) (n : Nat) : t.run n = t.ticks n := by
  induction n with
  | zero => exact t.run_zero hc
  | succ n ih => rw [TM.ticks, ← ih, TM.run_tick t hr hc n (by omega)]; simp
theorem TM.ticks_add (t : TM) (a b : Nat) : (t.ticks a).ticks b = t.ticks (a + b) := by
  induction b with
  | zero => rfl
  | succ b ih => rw [TM.ticks, ih]; rfl
theorem rn_bd (r c : Int) (on : Bool) (n : Int) (hr : 0 ≤ r ∧ r ≤ 65535) (hc : 0 ≤ c ∧ c ≤ 65535) (hn : 0 ≤ n) : 0 ≤ rnC r c on n ∧ rnC r c on n ≤ 65535 := by
  unfold rnC
  have b1 := Int.emod_nonneg (n - (c + 1)) (show r + 1 ≠ 0 by omega)
  have b2 := Int.emod_lt_of_pos (n - (c + 1)) (show 0 < r + 1 by omega)
  split
  · split <;> omega
  · omega
theorem TM.run_add (t : TM) (hr : 0 ≤ t.r ∧ t.r ≤ 65535) (hc : 0 ≤ t.c ∧ t.c ≤ 65535) (a b : Int) (ha : 0 ≤ a) (hb : 0 ≤ b) : (t.run a).run b = t.run (a + b) := by
  obtain ⟨A, rfl⟩ := Int.eq_ofNat_of_zero_le ha
  obtain ⟨B, rfl⟩ := Int.eq_ofNat_of_zero_le hb
  have h := rn_bd t.r t.c t.on A hr hc (by omega)
  rw [TM.run_ticks (t.run A) hr.1 h.1, TM.run_ticks t hr.1 hc.1, TM.ticks_add, ← TM.run_ticks t hr.1 hc.1]
  simp
theorem rnC_add (r c : Int) (on g : Bool) (a b : Int) (hr : 0 ≤ r ∧ r ≤ 65535) (hc : 0 ≤ c ∧ c ≤ 65535) (ha : 0 ≤ a) (hb : 0 ≤ b) : rnC r (rnC r c on a) on b = rnC r c on (a + b) ∧ rnG (rnC r c on a) on (rnG c on g a) b = rnG c on g (a + b) := by
  have h := TM.run_add ⟨r, c, on, g⟩ hr hc a b ha hb
  unfold TM.run at h
  simp only [TM.mk.injEq, true_and] at h
  exact h
theorem rn_step (r c : Int) (on g : Bool) (n : Int) (hr : 0 ≤ r ∧ r ≤ 65535) (hc : 0 ≤ c ∧ c ≤ 65535) (hn : 0 ≤ n) : tkC r (rnC r c on n) on = rnC r c on (n + 1) ∧ tkG (rnC r c on n) on (rnG c on g n) = rnG c on g (n + 1) := by
  have h := TM.run_tick ⟨r, c, on, g⟩ hr.1 hc.1 n hn
  rw [TM.tick_eq] at h
  unfold TM.run at h
  simp only [TM.mk.injEq, true_and] at h
  exact h
theorem rn_zero (r c : Int) (on g : Bool) (hc : 0 ≤ c ∧ c ≤ 65535) : rnC r c on 0 = c ∧ rnG c on g 0 = g := by
  have h := TM.run_zero ⟨r, c, on, g⟩ hc.1
  unfold TM.run at h
  simp only [TM.mk.injEq, true_and] at h
  exact h
/-! ### the package -/
theorem info_timer : (Try.prog.info? 31).map (·.size) = some 4 := by kernel_rfl
theorem load_timer (W : World) (q : Nat) (r c : Int) (on g : Bool) (h : W.rangeAt q 0 [.int .u16 r, .int .u16 c, .bool on, .bool g]) : (loadVar 31 ⟨q, 0, none⟩).run Try.prog W = .ok (.agg #[.int .u16 r, .int .u16 c, .bool on, .bool g]) W :=
  run_loadVar_mid W q 0 31 _ _ h Try.underlying31 rfl info_timer
end Go.Proofs.Ythooknikfachnaa
