/-
  What Shl, Shr, Signed, Bytes, Of of package word answer, for any words and any numbers: the sums of the text Math; nothing is written.
-/
import Derived.Test.YtombboeonffejaaGreatDoorWordA
import Derived.Deep.QuietTactic
import Derived.BigQuiet
import Derived.Outline
namespace Go.Proofs.YtombboeonffejaaGreatDoor
open Go.ChangeShapes Go.WideShapes Go.ChangeAt Go.RowKit
set_option linter.unusedVariables false

theorem bytes_any (a : Int) (w : World) (ha : 0 ≤ a) (ha' : a ≤ 65535) :
    Calls Tryz.prog 116 #[.int .u16 a] w fun e w' => e = .returned (.tuple #[.int .u8 (a / 256), .int .u8 (a % 256)]) ∧ w' = w := by
  go_enter Tryz.func116, Tryz.ntmps116
  go_wp2
  go_ret2
  exact ⟨rfl, rfl⟩
theorem of_any (a b : Int) (w : World) (ha : 0 ≤ a) (ha' : a ≤ 255) (hb : 0 ≤ b) (hb' : b ≤ 255) :
    Calls Tryz.prog 66 #[.int .u8 a, .int .u8 b] w fun e w' => e = .returned (.int .u16 (a * 256 + b)) ∧ w' = w := by
  go_enter Tryz.func66, Tryz.ntmps66
  go_wp2
  go_ret
  exact ⟨ret_i (M.joined a b ha ha' hb hb'), rfl⟩
theorem hasBit_any (a n : Int) (w : World) (ha : 0 ≤ a) (ha' : a ≤ 65535) (hn : 0 ≤ n) (hn' : n ≤ 15) :
    Calls Tryz.prog 119 #[.int .u16 a, .int .i64 n] w fun e w' => e = .returned (.bool (M.hasB a n)) ∧ w' = w := by
  go_enter Tryz.func119, Tryz.ntmps119
  go_wp2
  go_ret
  exact ⟨ret_b (M.has_of a n ha ha'), rfl⟩
theorem may_yes (n : Int) (w : World) (h : 0 ≤ n) (h' : n ≤ 15) :
    Calls Tryz.prog 118 #[.int .i64 n] w fun e w' => e = .returned (.bool true) ∧ w' = w := by
  go_enter Tryz.func118, Tryz.ntmps118
  go_wp2
  go_ret
  exact ⟨ret_b (by simp; omega), rfl⟩
theorem may_no (n : Int) (w : World) (h : n < 0 ∨ 15 < n) :
    Calls Tryz.prog 118 #[.int .i64 n] w fun e w' => e = .returned (.bool false) ∧ w' = w := by
  by_cases h0 : 0 ≤ n
  all_goals
    go_enter Tryz.func118, Tryz.ntmps118
    go_wp2
    go_ret
    exact ⟨ret_b (by simp; try omega), rfl⟩
theorem shl_no (a n : Int) (w : World) (h : n < 0 ∨ 15 < n) :
    Calls Tryz.prog 84 #[.int .u16 a, .int .i64 n] w fun e w' => e = .returned (.tuple #[.int .u16 0, .bool false, .int .i64 3]) ∧ ∃ k, w' = w.drewN k := by
  have H : Hid (n < 0 ∨ 15 < n) := h
  clear h
  go_enter Tryz.func84, Tryz.ntmps84
  go_wp2_with (go_at_call 118; refine (may_no _ _ H.out).mono ?_; rintro e w' ⟨rfl, rfl⟩)
  go_ret3
  exact ⟨rfl, 0, rfl⟩
theorem shl_nil (a : Int) (w : World) :
    Calls Tryz.prog 84 #[.int .u16 a, .int .i64 0] w fun e w' => e = .returned (.tuple #[.int .u16 a, .bool false, .int .i64 0]) ∧ ∃ k, w' = w.drewN k := by
  go_enter Tryz.func84, Tryz.ntmps84
  go_wp2_with (go_at_call 118; refine (may_yes _ _ (by omega) (by omega)).mono ?_; rintro e w' ⟨rfl, rfl⟩)
  go_ret3
  exact ⟨rfl, 0, rfl⟩
theorem shl_some (a n : Int) (w : World) (ha : 0 ≤ a) (ha' : a ≤ 65535) (hn : 1 ≤ n) (hn' : n ≤ 15) :
    Calls Tryz.prog 84 #[.int .u16 a, .int .i64 n] w fun e w' => e = .returned (.tuple #[.int .u16 (M.shlN a n), .bool (M.hasB a (16 - n)), .int .i64 0]) ∧ ∃ k, w' = w.drewN k := by
  have h0 : (n == 0) = false := by simp; omega
  go_enter Tryz.func84, Tryz.ntmps84
  go_wp2_with (go_at_call 118; refine (may_yes _ _ (by omega) (by omega)).mono ?_; rintro e w' ⟨rfl, rfl⟩)
  go_quiet ((go_at_call 119; exact Calls.quiet_of_same (hasBit_any _ _ _ (by omega) (by omega) (by omega) (by omega))))
  go_wp2
  go_ret3
  exact ⟨ret_ibi rfl rfl rfl, _, rfl⟩
theorem M.shlN_nil (a : Int) (ha : 0 ≤ a) (ha' : a ≤ 65535) : M.shlN a 0 = a := by unfold M.shlN; simp; omega
theorem M.shlC_some (a n : Int) (hn : 1 ≤ n) : M.shlC a n = M.hasB a (16 - n) := by unfold M.shlC M.hasB; simp [hn]
theorem M.shrN_nil (a : Int) : M.shrN a 0 = a := by unfold M.shrN; simp
theorem M.shrC_some (a n : Int) (hn : 1 ≤ n) : M.shrC a n = M.hasB a (n - 1) := by unfold M.shrC M.hasB; simp [hn]
theorem shl_yes (a n : Int) (w : World) (ha : 0 ≤ a) (ha' : a ≤ 65535) (hn : 0 ≤ n) (hn' : n ≤ 15) :
    Calls Tryz.prog 84 #[.int .u16 a, .int .i64 n] w fun e w' => e = .returned (.tuple #[.int .u16 (M.shlN a n), .bool (M.shlC a n), .int .i64 0]) ∧ ∃ k, w' = w.drewN k := by
  by_cases h : n = 0
  · subst h
    exact (shl_nil a w).mono fun _ _ h => ⟨h.1.trans (ret_ibi (M.shlN_nil a ha ha').symm (by simp [M.shlC]) rfl), h.2⟩
  · exact (shl_some a n w ha ha' (by omega) hn').mono fun _ _ h => ⟨h.1.trans (ret_ibi rfl (M.shlC_some a n (by omega)).symm rfl), h.2⟩
theorem shr_no (a n : Int) (w : World) (h : n < 0 ∨ 15 < n) :
    Calls Tryz.prog 85 #[.int .u16 a, .int .i64 n] w fun e w' => e = .returned (.tuple #[.int .u16 0, .bool false, .int .i64 3]) ∧ ∃ k, w' = w.drewN k := by
  have H : Hid (n < 0 ∨ 15 < n) := h
  clear h
  go_enter Tryz.func85, Tryz.ntmps85
  go_wp2_with (go_at_call 118; refine (may_no _ _ H.out).mono ?_; rintro e w' ⟨rfl, rfl⟩)
  go_ret3
  exact ⟨rfl, 0, rfl⟩
theorem shr_nil (a : Int) (w : World) :
    Calls Tryz.prog 85 #[.int .u16 a, .int .i64 0] w fun e w' => e = .returned (.tuple #[.int .u16 a, .bool false, .int .i64 0]) ∧ ∃ k, w' = w.drewN k := by
  go_enter Tryz.func85, Tryz.ntmps85
  go_wp2_with (go_at_call 118; refine (may_yes _ _ (by omega) (by omega)).mono ?_; rintro e w' ⟨rfl, rfl⟩)
  go_ret3
  exact ⟨rfl, 0, rfl⟩
theorem shr_some (a n : Int) (w : World) (ha : 0 ≤ a) (ha' : a ≤ 65535) (hn : 1 ≤ n) (hn' : n ≤ 15) :
    Calls Tryz.prog 85 #[.int .u16 a, .int .i64 n] w fun e w' => e = .returned (.tuple #[.int .u16 (M.shrN a n), .bool (M.hasB a (n - 1)), .int .i64 0]) ∧ ∃ k, w' = w.drewN k := by
  have h0 : (n == 0) = false := by simp; omega
  go_enter Tryz.func85, Tryz.ntmps85
  go_wp2_with (go_at_call 118; refine (may_yes _ _ (by omega) (by omega)).mono ?_; rintro e w' ⟨rfl, rfl⟩)
  go_quiet ((go_at_call 119; exact Calls.quiet_of_same (hasBit_any _ _ _ (by omega) (by omega) (by omega) (by omega))))
  go_wp2
  go_ret3
  exact ⟨ret_ibi rfl rfl rfl, _, rfl⟩
theorem shr_yes (a n : Int) (w : World) (ha : 0 ≤ a) (ha' : a ≤ 65535) (hn : 0 ≤ n) (hn' : n ≤ 15) :
    Calls Tryz.prog 85 #[.int .u16 a, .int .i64 n] w fun e w' => e = .returned (.tuple #[.int .u16 (M.shrN a n), .bool (M.shrC a n), .int .i64 0]) ∧ ∃ k, w' = w.drewN k := by
  by_cases h : n = 0
  · subst h
    exact (shr_nil a w).mono fun _ _ h => ⟨h.1.trans (ret_ibi (M.shrN_nil a).symm (by simp [M.shrC]) rfl), h.2⟩
  · exact (shr_some a n w ha ha' (by omega) hn').mono fun _ _ h => ⟨h.1.trans (ret_ibi rfl (M.shrC_some a n (by omega)).symm rfl), h.2⟩
theorem signed_no (a n : Int) (w : World) (h : n < 1 ∨ 16 < n) :
    Calls Tryz.prog 115 #[.int .u16 a, .int .i64 n] w fun e w' => e = .returned (.tuple #[.int .i64 0, .int .i64 3]) ∧ w' = w := by
  by_cases h0 : n < 1
  all_goals
    go_enter Tryz.func115, Tryz.ntmps115
    go_wp2
    go_ret2
    exact ⟨rfl, rfl⟩
theorem signed_yes (a n : Int) (w : World) (ha : 0 ≤ a) (ha' : a ≤ 65535) (hn : 1 ≤ n) (hn' : n ≤ 16) :
    Calls Tryz.prog 115 #[.int .u16 a, .int .i64 n] w fun e w' => e = .returned (.tuple #[.int .i64 (M.low a n), .int .i64 0]) ∧ w' = w := by
  go_enter Tryz.func115, Tryz.ntmps115
  go_wp2
  go_ret2
  exact ⟨ret_ii (M.low_of a n hn hn') rfl, rfl⟩
end Go.Proofs.YtombboeonffejaaGreatDoor
