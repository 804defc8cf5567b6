/-
  What the reference's Sum, Less, Up, Down answer, for any words: the sums of the text Math; nothing is written.
-/
import Derived.Test.YtlajhoffgjepmaaWordA
import Derived.Outline
namespace Go.Proofs.Ytlajhoffgjepmaa
open Go.ChangeShapes Go.WideShapes Go.ChangeAt Go.RowKit
set_option linter.unusedVariables false

theorem sign_any (a : Int) (w : World) (ha : 0 ≤ a) (ha' : a ≤ 65535) :
    Calls Try.prog 23 #[.int .u16 a] w fun e w' => e = .returned (.int .i64 (M.sg a)) ∧ w' = w := by
  by_cases h : 32768 ≤ a
  all_goals
    go_enter Try.func23, Try.ntmps23
    go_wp2
    go_ret
    exact ⟨ret_i (by unfold M.sg; first | rw [if_pos h] | rw [if_neg (by omega)]), rfl⟩
theorem sum_any (a b : Int) (w : World) (ha : 0 ≤ a) (ha' : a ≤ 65535) (hb : 0 ≤ b) (hb' : b ≤ 65535) :
    Calls Try.prog 10 #[.int .u16 a, .int .u16 b] w fun e w' => e = .returned (.tuple #[.int .u16 (M.addN a b), .bool (M.addC a b), .bool (M.addV a b)]) ∧ w' = w := by
  obtain ⟨s1, s1'⟩ := M.sg_bd a ha ha'
  obtain ⟨s2, s2'⟩ := M.sg_bd b hb hb'
  by_cases hv : 32767 < M.sg a + M.sg b
  all_goals
    go_enter Try.func10, Try.ntmps10
    go_wp2_with (go_at_call 23; refine (sign_any _ _ (by omega) (by omega)).mono ?_; rintro e w' ⟨rfl, rfl⟩)
    go_ret3
    exact ⟨ret_ibb rfl rfl (by simp [M.addV]; try omega), rfl⟩
theorem less_any (a b : Int) (w : World) (ha : 0 ≤ a) (ha' : a ≤ 65535) (hb : 0 ≤ b) (hb' : b ≤ 65535) :
    Calls Try.prog 11 #[.int .u16 a, .int .u16 b] w fun e w' => e = .returned (.tuple #[.int .u16 (M.subN a b), .bool (M.subC a b), .bool (M.subV a b)]) ∧ w' = w := by
  obtain ⟨s1, s1'⟩ := M.sg_bd a ha ha'
  obtain ⟨s2, s2'⟩ := M.sg_bd b hb hb'
  by_cases hv : 32767 < M.sg a - M.sg b
  all_goals
    go_enter Try.func11, Try.ntmps11
    go_wp2_with (go_at_call 23; refine (sign_any _ _ (by omega) (by omega)).mono ?_; rintro e w' ⟨rfl, rfl⟩)
    go_ret3
    exact ⟨ret_ibb (by unfold M.subN; omega) (by unfold M.subC; simp; try omega) (by simp [M.subV]; try omega), rfl⟩
theorem up_any (a n : Int) (w : World) (ha : 0 ≤ a) (ha' : a ≤ 65535) (hn : 0 ≤ n) (hn' : n ≤ 15) :
    Calls Try.prog 16 #[.int .u16 a, .int .i64 n] w fun e w' => e = .returned (.tuple #[.int .u16 (M.shlN a n), .bool (M.shlC a n)]) ∧ w' = w := by
  obtain ⟨N, rfl⟩ := Int.eq_ofNat_of_zero_le hn
  obtain ⟨hu, hv⟩ := M.up_shl a N ha ha' hn hn'
  rw [← hu, ← hv, Int.toNat_natCast]
  clear hu hv
  go_enter Try.func16, Try.ntmps16
  go_wp2
  go_loop [0, 6, 8] (fun x o i => ∃ k : Nat, k ≤ N ∧ i = .int .i64 k ∧ x = .int .u16 (M.upTo a k) ∧ o = .bool (M.upOut a k)) (fun _ _ i => N - (intOf i).toNat)
  case atStart => exact ⟨0, Nat.zero_le _, rfl, rfl, rfl⟩
  case round =>
    obtain ⟨k, hk, rfl, rfl, rfl⟩ := hrel
    obtain ⟨h1, h2⟩ := M.upTo_bd a ha ha' k
    by_cases hlt : k < N
    · go_wp2
      go_round
      case rel => exact ⟨k + 1, by omega, by go_num, rfl, rfl⟩
      case measure => simp [intOf]; omega
    · go_wp2
      go_ret2
      have : k = N := by omega
      subst this
      exact ⟨rfl, rfl⟩
theorem down_any (a n : Int) (w : World) (ha : 0 ≤ a) (ha' : a ≤ 65535) (hn : 0 ≤ n) (hn' : n ≤ 15) :
    Calls Try.prog 17 #[.int .u16 a, .int .i64 n] w fun e w' => e = .returned (.tuple #[.int .u16 (M.shrN a n), .bool (M.shrC a n)]) ∧ w' = w := by
  obtain ⟨N, rfl⟩ := Int.eq_ofNat_of_zero_le hn
  obtain ⟨hu, hv⟩ := M.down_shr a N hn hn'
  rw [← hu, ← hv, Int.toNat_natCast]
  clear hu hv
  go_enter Try.func17, Try.ntmps17
  go_wp2
  go_loop [0, 6, 8] (fun x o i => ∃ k : Nat, k ≤ N ∧ i = .int .i64 k ∧ x = .int .u16 (M.downTo a k) ∧ o = .bool (M.downOut a k)) (fun _ _ i => N - (intOf i).toNat)
  case atStart => exact ⟨0, Nat.zero_le _, rfl, rfl, rfl⟩
  case round =>
    obtain ⟨k, hk, rfl, rfl, rfl⟩ := hrel
    obtain ⟨h1, h2⟩ := M.downTo_bd a ha ha' k
    by_cases hlt : k < N
    · go_wp2
      go_round
      case rel => exact ⟨k + 1, by omega, by go_num, congrArg _ (by rw [IntKind.wrap_u16, Int.tdiv_eq_ediv_of_nonneg h1]; simp only [M.downTo]; omega), rfl⟩
      case measure => simp [intOf]; omega
    · go_wp2
      go_ret2
      have : k = N := by omega
      subst this
      exact ⟨rfl, rfl⟩
end Go.Proofs.Ytlajhoffgjepmaa
