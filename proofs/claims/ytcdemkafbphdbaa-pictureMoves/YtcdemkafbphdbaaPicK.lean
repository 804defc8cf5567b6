/-
  slices.Contains over four bytes.
-/
import Derived.Test.YtcdemkafbphdbaaPicJ
namespace Go.Proofs.Ytcdemkafbphdbaa
open Go.ChangeShapes Go.WideShapes Go.ChangeAt Go.RowKit
set_option linter.unusedVariables false

theorem index_has (b o c : Nat) (f : Nat → Nat) (d : Nat) (w : World) (hc : ∀ j, j < 4 → w.cell? ⟨b, o + j, none⟩ = some (.int .u8 (f j))) (hd : d < 4) :
    Calls Try.prog 20 #[.slice (some ⟨b, o, none⟩) 4 c, .int .u8 (f d)] w fun e w' => (∃ i : Nat, e = .returned (.int .i64 i)) ∧ w = w' := by
  have HC := hid hc
  clear hc
  go_enter Try.func20, Try.ntmps20
  go_wp2
  go_loop [8] (fun i => ∃ j : Nat, j ≤ d ∧ i = .int .i64 j) (fun i => 4 - (intOf i).toNat)
  case atStart => exact ⟨0, Nat.zero_le _, rfl⟩
  case round =>
    obtain ⟨j, hj, rfl⟩ := hrel
    have h4 : j < 4 := by omega
    have h4' : (j : Int) < 4 := by omega
    have hcj := HC.out j h4
    by_cases e : f d = f j
    · have e' : ((f d : Int) == (f j : Int)) = true := by rw [e]; simp
      clear e
      go_wp2
      go_ret
      exact ⟨⟨j, rfl⟩, rfl⟩
    · have e' : ((f d : Int) == (f j : Int)) = false := by simp; omega
      have hne : j ≠ d := fun h => e (by rw [h])
      have hlt : j + 1 ≤ d := by omega
      clear e hne
      go_wp2
      go_round
      case rel => exact ⟨j + 1, hlt, by go_num⟩
      case measure => simp [intOf]; omega
theorem contains_has (b o c : Nat) (f : Nat → Nat) (d : Nat) (w : World) (hc : ∀ j, j < 4 → w.cell? ⟨b, o + j, none⟩ = some (.int .u8 (f j))) (hd : d < 4) :
    Calls Try.prog 13 #[.slice (some ⟨b, o, none⟩) 4 c, .int .u8 (f d)] w fun e w' => e = .returned (.bool true) ∧ w' = w := by
  have HC := hid hc
  clear hc
  go_enter Try.func13, Try.ntmps13
  go_wp2_with (go_at_call 20; refine (index_has b o c f d _ HC.out hd).mono ?_; rintro e w1 ⟨⟨i, rfl⟩, rfl⟩; have hi : (0 : Int) ≤ i := Int.natCast_nonneg i)
  go_ret
  exact ⟨rfl, rfl⟩
end Go.Proofs.Ytcdemkafbphdbaa
