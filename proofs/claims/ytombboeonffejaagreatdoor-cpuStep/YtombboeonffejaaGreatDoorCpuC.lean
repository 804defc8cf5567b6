/-
  What Sign of package cpu answers.
-/
import Derived.Test.YtombboeonffejaaGreatDoorCpuB
namespace Go.Proofs.YtombboeonffejaaGreatDoor
open Go.ChangeShapes Go.WideShapes Go.ChangeAt Go.RowKit
set_option linter.unusedVariables false

def signTo (b : Nat → Bool) : Nat → Int
  | 0 => 0
  | k + 1 => signTo b k + (if b k then 2 ^ k else 0)
theorem signTo_bd (b : Nat → Bool) : ∀ k, 0 ≤ signTo b k ∧ signTo b k < 2 ^ k
  | 0 => by simp [signTo]
  | k + 1 => by
    have := signTo_bd b k
    have e : (2 : Int) ^ (k + 1) = 2 * 2 ^ k := by rw [Int.pow_succ]; omega
    simp only [signTo]
    rw [e]
    split <;> omega
theorem or_bit : ∀ k : Nat, k < 5 → ∀ s : Nat, s < 32 → s < 2 ^ k → bits .or .u16 (s : Int) ((2 ^ k : Nat) : Int) = ((s + 2 ^ k : Nat) : Int) := by decide +kernel
theorem or_bit' (b : Nat → Bool) (k : Nat) (hk : k < 5) (x : Int) (hx : x = ((2 ^ k : Nat) : Int)) : bits .or .u16 (signTo b k) x = signTo b k + 2 ^ k := by
  obtain ⟨h0, h1⟩ := signTo_bd b k
  obtain ⟨s, hs⟩ := Int.eq_ofNat_of_zero_le h0
  have h2 : s < 2 ^ k := by
    have : ((s : Nat) : Int) < ((2 ^ k : Nat) : Int) := by rw [← hs]; simpa using h1
    omega
  have h3 : 2 ^ k ≤ 16 := by
    have : k = 0 ∨ k = 1 ∨ k = 2 ∨ k = 3 ∨ k = 4 := by omega
    rcases this with rfl | rfl | rfl | rfl | rfl <;> decide
  rw [hs, hx, or_bit k hk s (by omega) h2]
  simp
def cbit (c : C.Cpu) : Nat → Bool
  | 0 => c.Z | 1 => c.N | 2 => c.C | 3 => c.V | _ => c.May
theorem sign_to (c : C.Cpu) : signTo (cbit c) 5 = C.sign c := by
  simp only [signTo, cbit, C.sign]
  simp
theorem b5_at0 (x0 x1 x2 x3 x4 : Value) (w : World) : (Instr.index 56 (.agg #[x0, x1, x2, x3, x4]) (.int .i64 0)).run Tryz.prog w = .ok x0 w := by kernel_rfl
theorem b5_at1 (x0 x1 x2 x3 x4 : Value) (w : World) : (Instr.index 56 (.agg #[x0, x1, x2, x3, x4]) (.int .i64 1)).run Tryz.prog w = .ok x1 w := by kernel_rfl
theorem b5_at2 (x0 x1 x2 x3 x4 : Value) (w : World) : (Instr.index 56 (.agg #[x0, x1, x2, x3, x4]) (.int .i64 2)).run Tryz.prog w = .ok x2 w := by kernel_rfl
theorem b5_at3 (x0 x1 x2 x3 x4 : Value) (w : World) : (Instr.index 56 (.agg #[x0, x1, x2, x3, x4]) (.int .i64 3)).run Tryz.prog w = .ok x3 w := by kernel_rfl
theorem b5_at4 (x0 x1 x2 x3 x4 : Value) (w : World) : (Instr.index 56 (.agg #[x0, x1, x2, x3, x4]) (.int .i64 4)).run Tryz.prog w = .ok x4 w := by kernel_rfl
theorem signTo_yes {b : Nat → Bool} {k : Nat} (h : b k = true) : signTo b (k + 1) = signTo b k + 2 ^ k := by simp [signTo, h]
theorem signTo_no {b : Nat → Bool} {k : Nat} (h : b k = false) : signTo b (k + 1) = signTo b k := by simp [signTo, h]
theorem ret_u {k : IntKind} {a b : Int} (h : a = b) : Value.int k a = .int k b := by rw [h]
set_option maxRecDepth 100000 in
set_option maxHeartbeats 1600000 in
theorem sign_any' (c : C.Cpu) (w : World) : Calls Tryz.prog 10 #[cpuV c] w fun e w' => e = .returned (.int .u16 (signTo (cbit c) 5)) ∧ Below w.heap.size w w' := by
  go_enter Tryz.func10, Tryz.ntmps10
  go_wp2
  go_loop [3, 17] (fun s i => ∃ k : Nat, k ≤ 5 ∧ i = .int .i64 k ∧ s = .int .u16 (signTo (cbit c) k)) (fun _ i => 5 - (intOf i).toNat)
  case atStart => exact ⟨0, by omega, rfl, rfl⟩
  case round =>
    obtain ⟨k, hk, rfl, rfl⟩ := hrel
    have hc : k = 0 ∨ k = 1 ∨ k = 2 ∨ k = 3 ∨ k = 4 ∨ k = 5 := by omega
    rcases hc with rfl | rfl | rfl | rfl | rfl | rfl
    · have i0 := b5_at0
      by_cases hz : c.Z = true
      · have hy := hid (signTo_yes (b := cbit c) (k := 0) hz)
        go_wp2
        go_round
        case rel => exact ⟨_, _, _, _, ⟨1, by omega, by go_num, ret_u ((or_bit' (cbit c) 0 (by omega) _ (by decide)).trans hy.out.symm)⟩, rfl, rfl, rfl, rfl⟩
        case measure => simp [intOf]
      · have hz' : c.Z = false := by simpa using hz
        have hy := hid (signTo_no (b := cbit c) (k := 0) hz')
        clear hz
        go_wp2
        go_round
        case rel => exact ⟨_, _, _, _, ⟨1, by omega, by go_num, ret_u hy.out.symm⟩, rfl, rfl, rfl, rfl⟩
        case measure => simp [intOf]
    · have i0 := b5_at1
      by_cases hz : c.N = true
      · have hy := hid (signTo_yes (b := cbit c) (k := 1) hz)
        go_wp2
        go_round
        case rel => exact ⟨_, _, _, _, ⟨2, by omega, by go_num, ret_u ((or_bit' (cbit c) 1 (by omega) _ (by decide)).trans hy.out.symm)⟩, rfl, rfl, rfl, rfl⟩
        case measure => simp [intOf]
      · have hz' : c.N = false := by simpa using hz
        have hy := hid (signTo_no (b := cbit c) (k := 1) hz')
        clear hz
        go_wp2
        go_round
        case rel => exact ⟨_, _, _, _, ⟨2, by omega, by go_num, ret_u hy.out.symm⟩, rfl, rfl, rfl, rfl⟩
        case measure => simp [intOf]
    · have i0 := b5_at2
      by_cases hz : c.C = true
      · have hy := hid (signTo_yes (b := cbit c) (k := 2) hz)
        go_wp2
        go_round
        case rel => exact ⟨_, _, _, _, ⟨3, by omega, by go_num, ret_u ((or_bit' (cbit c) 2 (by omega) _ (by decide)).trans hy.out.symm)⟩, rfl, rfl, rfl, rfl⟩
        case measure => simp [intOf]
      · have hz' : c.C = false := by simpa using hz
        have hy := hid (signTo_no (b := cbit c) (k := 2) hz')
        clear hz
        go_wp2
        go_round
        case rel => exact ⟨_, _, _, _, ⟨3, by omega, by go_num, ret_u hy.out.symm⟩, rfl, rfl, rfl, rfl⟩
        case measure => simp [intOf]
    · have i0 := b5_at3
      by_cases hz : c.V = true
      · have hy := hid (signTo_yes (b := cbit c) (k := 3) hz)
        go_wp2
        go_round
        case rel => exact ⟨_, _, _, _, ⟨4, by omega, by go_num, ret_u ((or_bit' (cbit c) 3 (by omega) _ (by decide)).trans hy.out.symm)⟩, rfl, rfl, rfl, rfl⟩
        case measure => simp [intOf]
      · have hz' : c.V = false := by simpa using hz
        have hy := hid (signTo_no (b := cbit c) (k := 3) hz')
        clear hz
        go_wp2
        go_round
        case rel => exact ⟨_, _, _, _, ⟨4, by omega, by go_num, ret_u hy.out.symm⟩, rfl, rfl, rfl, rfl⟩
        case measure => simp [intOf]
    · have i0 := b5_at4
      by_cases hz : c.May = true
      · have hy := hid (signTo_yes (b := cbit c) (k := 4) hz)
        go_wp2
        go_round
        case rel => exact ⟨_, _, _, _, ⟨5, by omega, by go_num, ret_u ((or_bit' (cbit c) 4 (by omega) _ (by decide)).trans hy.out.symm)⟩, rfl, rfl, rfl, rfl⟩
        case measure => simp [intOf]
      · have hz' : c.May = false := by simpa using hz
        have hy := hid (signTo_no (b := cbit c) (k := 4) hz')
        clear hz
        go_wp2
        go_round
        case rel => exact ⟨_, _, _, _, ⟨5, by omega, by go_num, ret_u hy.out.symm⟩, rfl, rfl, rfl, rfl⟩
        case measure => simp [intOf]
    · go_wp2
      go_ret
      exact ⟨rfl, stA (st0 _) _⟩
theorem sign_any (c : C.Cpu) (w : World) : Calls Tryz.prog 10 #[cpuV c] w fun e w' => e = .returned (.int .u16 (C.sign c)) ∧ Below w.heap.size w w' := by
  rw [← sign_to]; exact sign_any' c w
end Go.Proofs.YtombboeonffejaaGreatDoor
