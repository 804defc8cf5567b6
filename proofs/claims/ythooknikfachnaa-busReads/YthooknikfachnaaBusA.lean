/-
  Package bus: bytes of memories at a place, for either processor.
-/
import Derived.Test.YthooknikfachnaaBusW
namespace Go.Proofs.Ythooknikfachnaa
open Go.ChangeShapes Go.WideShapes Go.ChangeAt Go.RowKit
set_option linter.unusedVariables false
set_option maxRecDepth 100000

theorem Bu.cell_any (k n cap : Nat) (a : Int) (w : World) (hn : 0 < n) (hN : n ≤ 1000) (ha : 0 ≤ a ∧ a ≤ 65535) :
    Calls Try.prog 56 #[.slice (some ⟨k, 0, none⟩) n cap, .int .u16 a] w fun e w' => e = .returned (pt k (a % n).toNat) ∧ w = w' := by
  have hm : Int.tmod a n = a % n := Int.tmod_eq_emod_of_nonneg ha.1
  have h0 : 0 ≤ a % n := Int.emod_nonneg _ (by omega)
  have h1 : a % n < n := Int.emod_lt_of_pos _ (by omega)
  have hz : ((n : Int) == 0) = false := by simp; omega
  go_enter Try.func56, Try.ntmps56
  go_wp2
  go_ret
  exact ⟨rfl, rfl⟩
theorem Bu.isPort_any (a : Int) (w : World) (ha : 0 ≤ a ∧ a ≤ 65535) :
    Calls Try.prog 77 #[.int .u16 a] w fun e w' => e = .returned (.bool (isPort a)) ∧ w = w' := by
  unfold isPort
  by_cases h : 53248 ≤ a
  · by_cases h2 : a ≤ 57343
    · rw [decide_eq_true ⟨h, h2⟩]
      go_enter Try.func77, Try.ntmps77
      go_wp2
      go_ret
      exact ⟨rfl, rfl⟩
    · rw [decide_eq_false (fun x => h2 x.2)]
      go_enter Try.func77, Try.ntmps77
      go_wp2
      go_ret
      exact ⟨rfl, rfl⟩
  · rw [decide_eq_false (fun x => h x.1)]
    go_enter Try.func77, Try.ntmps77
    go_wp2
    go_ret
    exact ⟨rfl, rfl⟩
theorem Bu.within_any (n m : Int) (w : World) :
    Calls Try.prog 27 #[.int .i64 n, .int .i64 m] w fun e w' => e = .returned (.bool (decide (0 ≤ n ∧ n ≤ m))) ∧ w = w' := by
  by_cases h : 0 ≤ n
  · by_cases h2 : n ≤ m
    · rw [decide_eq_true ⟨h, h2⟩]
      go_enter Try.func27, Try.ntmps27
      go_wp2
      go_ret
      exact ⟨rfl, rfl⟩
    · rw [decide_eq_false (fun x => h2 x.2)]
      go_enter Try.func27, Try.ntmps27
      go_wp2
      go_ret
      exact ⟨rfl, rfl⟩
  · rw [decide_eq_false (fun x => h x.1)]
    go_enter Try.func27, Try.ntmps27
    go_wp2
    go_ret
    exact ⟨rfl, rfl⟩
theorem Bu.bits_any (b : Bool) (n : Int) (w : World) :
    Calls Try.prog 87 #[.bool b, .int .u8 n] w fun e w' => e = .returned (.int .u8 (sel b n 0)) ∧ w = w' := by
  cases b
  all_goals
    go_enter Try.func87, Try.ntmps87
    go_wp2
    go_ret
    exact ⟨rfl, rfl⟩
theorem Bu.roms_any (a1 a2 : Option Addr) (n1 c1 n2 c2 : Nat) (w : World) (h1 : n1 ≤ 1000000000000000) (h2 : n2 ≤ 1000000000000000) :
    Calls Try.prog 24 #[.slice a1 n1 c1, .slice a2 n2 c2] w fun e w' => e = .returned (.int .i64 (if n1 ≤ 1024 ∧ n2 ≤ 1024 then 0 else 2)) ∧ w = w' := by
  by_cases h : n1 ≤ 1024
  · have h' : ¬ (1024 : Int) < n1 := by omega
    by_cases k : n2 ≤ 1024
    · have k' : ¬ (1024 : Int) < n2 := by omega
      rw [if_pos ⟨h, k⟩]
      clear h k
      go_enter Try.func24, Try.ntmps24
      go_wp2
      go_ret
      exact ⟨rfl, rfl⟩
    · have k' : (1024 : Int) < n2 := by omega
      rw [if_neg (fun x => k x.2)]
      clear h k
      go_enter Try.func24, Try.ntmps24
      go_wp2
      go_ret
      exact ⟨rfl, rfl⟩
  · have h' : (1024 : Int) < n1 := by omega
    rw [if_neg (fun x => h x.1)]
    clear h
    go_enter Try.func24, Try.ntmps24
    go_wp2
    go_ret
    exact ⟨rfl, rfl⟩
end Go.Proofs.Ythooknikfachnaa
