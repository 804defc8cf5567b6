/-
  The Go text of the law WordSigned returns true for any word, any number and any two bytes.
-/
import Derived.Test.YtlajhoffgjepmaaWordB
namespace Go.Proofs.Ytlajhoffgjepmaa
open Go.ChangeShapes Go.WideShapes Go.ChangeAt Go.RowKit
set_option linter.unusedVariables false

theorem M.pow_bd (n : Int) (hn : 1 ≤ n) (hn' : n ≤ 16) : (2 : Int) ≤ 2 ^ n.toNat ∧ (2 : Int) ^ n.toNat ≤ 65536 := by
  have hc : n = 1 ∨ n = 2 ∨ n = 3 ∨ n = 4 ∨ n = 5 ∨ n = 6 ∨ n = 7 ∨ n = 8 ∨ n = 9 ∨ n = 10 ∨ n = 11 ∨ n = 12 ∨ n = 13 ∨ n = 14 ∨ n = 15 ∨ n = 16 := by omega
  rcases hc with rfl | rfl | rfl | rfl | rfl | rfl | rfl | rfl | rfl | rfl | rfl | rfl | rfl | rfl | rfl | rfl <;> decide
theorem M.wrap64_pow (n : Int) (hn : 1 ≤ n) (hn' : n ≤ 16) : wrap64 (2 ^ n.toNat) = 2 ^ n.toNat := by
  have h := M.pow_bd n hn hn'
  unfold wrap64; omega
theorem lowest_any (a n : Int) (w : World) (ha : 0 ≤ a) (ha' : a ≤ 65535) (hn : 1 ≤ n) (hn' : n ≤ 16) :
    Calls Try.prog 21 #[.int .u16 a, .int .i64 n] w fun e w' => e = .returned (.int .i64 (M.low a n)) ∧ w' = w := by
  have hw := M.wrap64_pow n hn hn'
  obtain ⟨h2, h2'⟩ := M.pow_bd n hn hn'
  have hl : M.low a n = if (2 : Int) ^ n.toNat ≤ 2 * (a % 2 ^ n.toNat) then a % 2 ^ n.toNat - 2 ^ n.toNat else a % 2 ^ n.toNat := rfl
  have h3 : 0 ≤ a % 2 ^ n.toNat := Int.emod_nonneg _ (by omega)
  have h4 : a % 2 ^ n.toNat < 2 ^ n.toNat := Int.emod_lt_of_pos _ (by omega)
  rw [hl]
  clear hl
  generalize hpe : (2 : Int) ^ n.toNat = p at *
  have hw1 : wrap64 (2 ^ n.toNat) = p := by rw [hpe]; exact hw
  clear hpe hw
  by_cases hc : p ≤ 2 * (a % p)
  · rw [if_pos hc]
    go_enter Try.func21, Try.ntmps21
    go_wp2
    go_ret
    exact ⟨rfl, rfl⟩
  · rw [if_neg hc]
    go_enter Try.func21, Try.ntmps21
    go_wp2
    go_ret
    exact ⟨rfl, rfl⟩
theorem signed_bad (a n h l : Int) (w : World) (ha : 0 ≤ a) (ha' : a ≤ 65535) (hh : 0 ≤ h) (hh' : h ≤ 255) (hl : 0 ≤ l) (hl' : l ≤ 255) (hn : n < 1 ∨ 16 < n) :
    Calls Try.prog 4 #[.int .u16 a, .int .i64 n, .int .u8 h, .int .u8 l] w fun e w' => e = .returned (.bool true) ∧ Grown w w' := by
  have H : Hid (n < 1 ∨ 16 < n) := hn
  have e1 : (a / 256 * 256 + a % 256 != a) = false := by rw [bne_eq_false_iff_eq]; omega
  by_cases hn1 : n < 1
  · clear hn
    go_enter Try.func4, Try.ntmps4
    go_wp2_with (first
      | (go_at_call 18; refine (signed_no _ _ _ H.out).mono ?_; rintro e w' ⟨rfl, rfl⟩)
      | (go_at_call 19; refine (bytes_any _ _ (by omega) (by omega)).mono ?_; rintro e w' ⟨rfl, rfl⟩)
      | (go_at_call 20; refine (of_any _ _ _ (by omega) (by omega) (by omega) (by omega)).mono ?_; rintro e w' ⟨rfl, rfl⟩)
      | (go_at_call 13; refine (reckoned_any _).mono ?_; rintro e w' ⟨rfl, rfl⟩))
    go_ret
    exact ⟨rfl, Grown.refl _⟩
  · have hn2 : 16 < n := by omega
    clear hn
    go_enter Try.func4, Try.ntmps4
    go_wp2_with (first
      | (go_at_call 18; refine (signed_no _ _ _ H.out).mono ?_; rintro e w' ⟨rfl, rfl⟩)
      | (go_at_call 19; refine (bytes_any _ _ (by omega) (by omega)).mono ?_; rintro e w' ⟨rfl, rfl⟩)
      | (go_at_call 20; refine (of_any _ _ _ (by omega) (by omega) (by omega) (by omega)).mono ?_; rintro e w' ⟨rfl, rfl⟩)
      | (go_at_call 13; refine (reckoned_any _).mono ?_; rintro e w' ⟨rfl, rfl⟩))
    go_ret
    exact ⟨rfl, Grown.refl _⟩
theorem signed_good (a n h l : Int) (w : World) (ha : 0 ≤ a) (ha' : a ≤ 65535) (hh : 0 ≤ h) (hh' : h ≤ 255) (hl : 0 ≤ l) (hl' : l ≤ 255) (hn : 1 ≤ n) (hn' : n ≤ 16) :
    Calls Try.prog 4 #[.int .u16 a, .int .i64 n, .int .u8 h, .int .u8 l] w fun e w' => e = .returned (.bool true) ∧ Grown w w' := by
  have e1 : (a / 256 * 256 + a % 256 != a) = false := by rw [bne_eq_false_iff_eq]; omega
  go_enter Try.func4, Try.ntmps4
  go_wp2_with (first
    | (go_at_call 18; refine (signed_yes _ _ _ (by omega) (by omega) (by omega) (by omega)).mono ?_; rintro e w' ⟨rfl, rfl⟩)
    | (go_at_call 19; refine (bytes_any _ _ (by omega) (by omega)).mono ?_; rintro e w' ⟨rfl, rfl⟩)
    | (go_at_call 20; refine (of_any _ _ _ (by omega) (by omega) (by omega) (by omega)).mono ?_; rintro e w' ⟨rfl, rfl⟩)
    | (go_at_call 21; refine (lowest_any _ _ _ (by omega) (by omega) (by omega) (by omega)).mono ?_; rintro e w' ⟨rfl, rfl⟩)
    | (go_at_call 13; refine (reckoned_any _).mono ?_; rintro e w' ⟨rfl, rfl⟩))
  go_ret
  exact ⟨rfl, Grown.refl _⟩
theorem signed_walk (a n h l : Int) (w : World) (ha : 0 ≤ a ∧ a ≤ 65535) (hh : 0 ≤ h ∧ h ≤ 255) (hl : 0 ≤ l ∧ l ≤ 255) :
    Calls Try.prog 4 #[.int .u16 a, .int .i64 n, .int .u8 h, .int .u8 l] w fun e w' => e = .returned (.bool true) ∧ Grown w w' := by
  by_cases hn : 1 ≤ n ∧ n ≤ 16
  · exact signed_good a n h l w ha.1 ha.2 hh.1 hh.2 hl.1 hl.2 hn.1 hn.2
  · exact signed_bad a n h l w ha.1 ha.2 hh.1 hh.2 hl.1 hl.2 (by omega)
end Go.Proofs.Ytlajhoffgjepmaa
