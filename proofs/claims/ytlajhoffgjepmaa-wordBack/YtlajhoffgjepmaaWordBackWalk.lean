/-
  The Go text of the law WordBack returns true for any two words and any number.
-/
import Derived.Test.YtlajhoffgjepmaaWordB
namespace Go.Proofs.Ytlajhoffgjepmaa
open Go.ChangeShapes Go.WideShapes Go.ChangeAt Go.RowKit
set_option linter.unusedVariables false

theorem M.sub_add (a b : Int) (ha : 0 ≤ a) (ha' : a ≤ 65535) : M.subN (M.addN a b) b = a := by unfold M.subN M.addN; omega
theorem M.low_word (a : Int) (ha : 0 ≤ a) (ha' : a ≤ 65535) : IntKind.u16.wrap (M.low a 16) = a := by
  rw [IntKind.wrap_u16]; unfold M.low; simp only [Int.reduceToNat, Int.reducePow]; split <;> omega

theorem back_no (a b n : Int) (w : World) (ha : 0 ≤ a) (ha' : a ≤ 65535) (hb : 0 ≤ b) (hb' : b ≤ 65535) (h : n < 0 ∨ 15 < n) :
    Calls Try.prog 6 #[.int .u16 a, .int .u16 b, .int .i64 n] w fun e w' => e = .returned (.bool true) ∧ Grown w w' := by
  obtain ⟨hs, hs'⟩ := M.addN_bd a b
  have H : Hid (n < 0 ∨ 15 < n) := h
  clear h
  have e1 : (M.subN (M.addN a b) b != a) = false := by rw [M.sub_add a b ha ha']; simp
  have e2 : (a / 256 * 256 + a % 256 != a) = false := by rw [bne_eq_false_iff_eq]; omega
  have e3 : (IntKind.u16.wrap (M.low a 16) != a) = false := by rw [M.low_word a ha ha']; simp
  go_enter Try.func6, Try.ntmps6
  go_wp2_with (first
    | (go_at_call 7; refine (add_any _ _ _ (by omega) (by omega) (by omega) (by omega)).mono ?_; rintro e w' ⟨rfl, rfl⟩)
    | (go_at_call 8; refine (sub_any _ _ _ (by omega) (by omega) (by omega) (by omega)).mono ?_; rintro e w' ⟨rfl, rfl⟩)
    | (go_at_call 19; refine (bytes_any _ _ (by omega) (by omega)).mono ?_; rintro e w' ⟨rfl, rfl⟩)
    | (go_at_call 20; refine (of_any _ _ _ (by omega) (by omega) (by omega) (by omega)).mono ?_; rintro e w' ⟨rfl, rfl⟩)
    | (go_at_call 18; refine (signed_yes _ _ _ (by omega) (by omega) (by omega) (by omega)).mono ?_; rintro e w' ⟨rfl, rfl⟩)
    | (go_at_call 14; refine (shl_no _ _ _ H.out).mono ?_; rintro e w' ⟨rfl, k, rfl⟩)
    | (go_at_call 15; refine (shr_no _ _ _ H.out).mono ?_; rintro e w' ⟨rfl, k, rfl⟩)
    | (go_at_call 13; refine (reckoned_any _).mono ?_; rintro e w' ⟨rfl, rfl⟩))
  go_ret
  exact ⟨rfl, Grown.refl _⟩
theorem back_yes (a b n : Int) (w : World) (ha : 0 ≤ a) (ha' : a ≤ 65535) (hb : 0 ≤ b) (hb' : b ≤ 65535) (hn : 0 ≤ n) (hn' : n ≤ 15) :
    Calls Try.prog 6 #[.int .u16 a, .int .u16 b, .int .i64 n] w fun e w' => e = .returned (.bool true) ∧ Grown w w' := by
  obtain ⟨hs, hs'⟩ := M.addN_bd a b
  obtain ⟨hy, hy'⟩ := M.shlN_bd a n
  have e1 : (M.subN (M.addN a b) b != a) = false := by rw [M.sub_add a b ha ha']; simp
  have e2 : (a / 256 * 256 + a % 256 != a) = false := by rw [bne_eq_false_iff_eq]; omega
  have e3 : (IntKind.u16.wrap (M.low a 16) != a) = false := by rw [M.low_word a ha ha']; simp
  have e4 : (M.shrN (M.shlN a n) n == bits .and .u16 a (65535 / 2 ^ n.toNat)) = true := by rw [M.back_of a n ha ha' hn hn']; simp
  go_enter Try.func6, Try.ntmps6
  go_wp2_with (first
    | (go_at_call 7; refine (add_any _ _ _ (by omega) (by omega) (by omega) (by omega)).mono ?_; rintro e w' ⟨rfl, rfl⟩)
    | (go_at_call 8; refine (sub_any _ _ _ (by omega) (by omega) (by omega) (by omega)).mono ?_; rintro e w' ⟨rfl, rfl⟩)
    | (go_at_call 19; refine (bytes_any _ _ (by omega) (by omega)).mono ?_; rintro e w' ⟨rfl, rfl⟩)
    | (go_at_call 20; refine (of_any _ _ _ (by omega) (by omega) (by omega) (by omega)).mono ?_; rintro e w' ⟨rfl, rfl⟩)
    | (go_at_call 18; refine (signed_yes _ _ _ (by omega) (by omega) (by omega) (by omega)).mono ?_; rintro e w' ⟨rfl, rfl⟩)
    | (go_at_call 14; refine (shl_yes _ _ _ (by omega) (by omega) (by omega) (by omega)).mono ?_; rintro e w' ⟨rfl, k, rfl⟩)
    | (go_at_call 15; refine (shr_yes _ _ _ (by omega) (by omega) (by omega) (by omega)).mono ?_; rintro e w' ⟨rfl, k, rfl⟩)
    | (go_at_call 13; refine (reckoned_any _).mono ?_; rintro e w' ⟨rfl, rfl⟩))
  go_ret
  exact ⟨rfl, Grown.refl _⟩
theorem back_walk (a b n : Int) (w : World) (ha : 0 ≤ a ∧ a ≤ 65535) (hb : 0 ≤ b ∧ b ≤ 65535) :
    Calls Try.prog 6 #[.int .u16 a, .int .u16 b, .int .i64 n] w fun e w' => e = .returned (.bool true) ∧ Grown w w' := by
  by_cases h : 0 ≤ n ∧ n ≤ 15
  · exact back_yes a b n w ha.1 ha.2 hb.1 hb.2 h.1 h.2
  · exact back_no a b n w ha.1 ha.2 hb.1 hb.2 (by omega)
end Go.Proofs.Ytlajhoffgjepmaa
