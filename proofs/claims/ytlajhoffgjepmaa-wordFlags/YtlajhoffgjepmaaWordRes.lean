/-
  What the reference's Result answers, for any order and any words: the sums of the text Math; nothing old is written.
-/
import Derived.Test.YtlajhoffgjepmaaWordR
import Derived.Deep.QuietTactic
import Derived.BigQuiet
import Derived.Outline
namespace Go.Proofs.Ytlajhoffgjepmaa
open Go.ChangeShapes Go.WideShapes Go.ChangeAt Go.RowKit
set_option linter.unusedVariables false

theorem f_and (x y : Int) (w : World) : Calls Try.prog 25 #[.int .u16 x, .int .u16 y] w fun e w' => e = .returned (.bool (M.fAnd x y)) ∧ w' = w := by
  go_enter Try.func25, Try.ntmps25
  go_wp2
  go_ret
  exact ⟨rfl, rfl⟩
theorem f_or (x y : Int) (w : World) : Calls Try.prog 26 #[.int .u16 x, .int .u16 y] w fun e w' => e = .returned (.bool (M.fOr x y)) ∧ w' = w := by
  go_enter Try.func26, Try.ntmps26
  go_wp2
  go_ret
  exact ⟨rfl, rfl⟩
theorem f_xor (x y : Int) (w : World) : Calls Try.prog 27 #[.int .u16 x, .int .u16 y] w fun e w' => e = .returned (.bool (M.fXor x y)) ∧ w' = w := by
  go_enter Try.func27, Try.ntmps27
  go_wp2
  go_ret
  exact ⟨rfl, rfl⟩
theorem quiet_at {P : Program} {f : FuncId} {args : Array Value} {w : World} {q n : Nat} {v : Value}
    (h : Calls P f args (w.drewN (q + n)) fun e w' => e = .returned v ∧ w' = w.drewN (q + n)) : Calls P f args (w.drewN (q + n)) fun e w'' => e = .returned v ∧ ∃ m, w'' = w.drewN (q + m) :=
  h.mono fun _ _ ⟨he, hm⟩ => ⟨he, n, hm⟩
theorem gather_and (a b : Int) (w : World) (x y : Nat) (ha : 0 ≤ a) (ha' : a ≤ 65535) (hb : 0 ≤ b) (hb' : b ≤ 65535)
    (hx : w.cell? ⟨x, 0, none⟩ = some (.int .u16 a)) (hy : w.cell? ⟨y, 0, none⟩ = some (.int .u16 b)) :
    Calls Try.prog 24 #[.func (.func 25) #[] #[], .pointer (some ⟨x, 0, none⟩), .pointer (some ⟨y, 0, none⟩)] w
      fun e w' => e = .returned (.int .u16 (bits .and .u16 a b)) ∧ ∃ k, w' = w.drewN k := by
  rw [← M.gather_and a b ha ha' hb hb']
  go_enter Try.func24, Try.ntmps24
  go_wp2
  go_loopw [5, 7] (fun n i wr => ∃ k q : Nat, k ≤ 16 ∧ i = .int .i64 k ∧ n = .int .u16 (M.gather M.fAnd a b k) ∧ wr = w.drewN q) (fun _ i _ => 16 - (intOf i).toNat)
  case atStart => exact ⟨0, 0, Nat.zero_le _, rfl, rfl, rfl⟩
  case round =>
    obtain ⟨k, q, hk, rfl, rfl, rfl⟩ := hrel
    obtain ⟨g1, g2⟩ := M.gather_bd M.fAnd a b k
    by_cases hlt : k < 16
    · have hp := M.pow_le (k + 1) (by omega)
      have hq : (2 : Int) ^ (k + 1) = 2 ^ k * 2 := Int.pow_succ _ _
      have hp1 : (2 : Int) ^ k ≤ 32768 := by omega
      clear hp hq
      have hstep : M.gather M.fAnd a b (k + 1) = if M.fAnd (bits .and .u16 (a / 2 ^ k) 1) (bits .and .u16 (b / 2 ^ k) 1) then M.gather M.fAnd a b k + 2 ^ k else M.gather M.fAnd a b k := rfl
      have HS := hid hstep
      clear hstep
      by_cases hc : M.fAnd (bits .and .u16 (a / 2 ^ k) 1) (bits .and .u16 (b / 2 ^ k) 1) = true
      · go_wp2
        go_quiet ((go_at_call 25; exact quiet_at (f_and _ _ _)))
        go_wp2
        all_goals first | (exact Bool.noConfusion (hc.symm.trans (by assumption) : true = false)) | skip
        go_roundw
        case rel => exact ⟨k + 1, _, by omega, by go_num, by rw [HS.out, if_pos hc], rfl⟩
        case measure => simp [intOf]; omega
      · have hc' : M.fAnd (bits .and .u16 (a / 2 ^ k) 1) (bits .and .u16 (b / 2 ^ k) 1) = false := by simpa using hc
        go_wp2
        go_quiet ((go_at_call 25; exact quiet_at (f_and _ _ _)))
        go_wp2
        all_goals first | (exact Bool.noConfusion (hc'.symm.trans (by assumption) : false = true)) | skip
        go_roundw
        case rel => exact ⟨k + 1, _, by omega, by go_num, by rw [HS.out, if_neg hc], rfl⟩
        case measure => simp [intOf]; omega
    · go_wp2
      go_ret
      have : k = 16 := by omega
      subst this
      exact ⟨rfl, _, rfl⟩
theorem gather_or (a b : Int) (w : World) (x y : Nat) (ha : 0 ≤ a) (ha' : a ≤ 65535) (hb : 0 ≤ b) (hb' : b ≤ 65535)
    (hx : w.cell? ⟨x, 0, none⟩ = some (.int .u16 a)) (hy : w.cell? ⟨y, 0, none⟩ = some (.int .u16 b)) :
    Calls Try.prog 24 #[.func (.func 26) #[] #[], .pointer (some ⟨x, 0, none⟩), .pointer (some ⟨y, 0, none⟩)] w
      fun e w' => e = .returned (.int .u16 (bits .or .u16 a b)) ∧ ∃ k, w' = w.drewN k := by
  rw [← M.gather_or a b ha ha' hb hb']
  go_enter Try.func24, Try.ntmps24
  go_wp2
  go_loopw [5, 7] (fun n i wr => ∃ k q : Nat, k ≤ 16 ∧ i = .int .i64 k ∧ n = .int .u16 (M.gather M.fOr a b k) ∧ wr = w.drewN q) (fun _ i _ => 16 - (intOf i).toNat)
  case atStart => exact ⟨0, 0, Nat.zero_le _, rfl, rfl, rfl⟩
  case round =>
    obtain ⟨k, q, hk, rfl, rfl, rfl⟩ := hrel
    obtain ⟨g1, g2⟩ := M.gather_bd M.fOr a b k
    by_cases hlt : k < 16
    · have hp := M.pow_le (k + 1) (by omega)
      have hq : (2 : Int) ^ (k + 1) = 2 ^ k * 2 := Int.pow_succ _ _
      have hp1 : (2 : Int) ^ k ≤ 32768 := by omega
      clear hp hq
      have hstep : M.gather M.fOr a b (k + 1) = if M.fOr (bits .and .u16 (a / 2 ^ k) 1) (bits .and .u16 (b / 2 ^ k) 1) then M.gather M.fOr a b k + 2 ^ k else M.gather M.fOr a b k := rfl
      have HS := hid hstep
      clear hstep
      by_cases hc : M.fOr (bits .and .u16 (a / 2 ^ k) 1) (bits .and .u16 (b / 2 ^ k) 1) = true
      · go_wp2
        go_quiet ((go_at_call 26; exact quiet_at (f_or _ _ _)))
        go_wp2
        all_goals first | (exact Bool.noConfusion (hc.symm.trans (by assumption) : true = false)) | skip
        go_roundw
        case rel => exact ⟨k + 1, _, by omega, by go_num, by rw [HS.out, if_pos hc], rfl⟩
        case measure => simp [intOf]; omega
      · have hc' : M.fOr (bits .and .u16 (a / 2 ^ k) 1) (bits .and .u16 (b / 2 ^ k) 1) = false := by simpa using hc
        go_wp2
        go_quiet ((go_at_call 26; exact quiet_at (f_or _ _ _)))
        go_wp2
        all_goals first | (exact Bool.noConfusion (hc'.symm.trans (by assumption) : false = true)) | skip
        go_roundw
        case rel => exact ⟨k + 1, _, by omega, by go_num, by rw [HS.out, if_neg hc], rfl⟩
        case measure => simp [intOf]; omega
    · go_wp2
      go_ret
      have : k = 16 := by omega
      subst this
      exact ⟨rfl, _, rfl⟩
theorem gather_xor (a b : Int) (w : World) (x y : Nat) (ha : 0 ≤ a) (ha' : a ≤ 65535) (hb : 0 ≤ b) (hb' : b ≤ 65535)
    (hx : w.cell? ⟨x, 0, none⟩ = some (.int .u16 a)) (hy : w.cell? ⟨y, 0, none⟩ = some (.int .u16 b)) :
    Calls Try.prog 24 #[.func (.func 27) #[] #[], .pointer (some ⟨x, 0, none⟩), .pointer (some ⟨y, 0, none⟩)] w
      fun e w' => e = .returned (.int .u16 (bits .xor .u16 a b)) ∧ ∃ k, w' = w.drewN k := by
  rw [← M.gather_xor a b ha ha' hb hb']
  go_enter Try.func24, Try.ntmps24
  go_wp2
  go_loopw [5, 7] (fun n i wr => ∃ k q : Nat, k ≤ 16 ∧ i = .int .i64 k ∧ n = .int .u16 (M.gather M.fXor a b k) ∧ wr = w.drewN q) (fun _ i _ => 16 - (intOf i).toNat)
  case atStart => exact ⟨0, 0, Nat.zero_le _, rfl, rfl, rfl⟩
  case round =>
    obtain ⟨k, q, hk, rfl, rfl, rfl⟩ := hrel
    obtain ⟨g1, g2⟩ := M.gather_bd M.fXor a b k
    by_cases hlt : k < 16
    · have hp := M.pow_le (k + 1) (by omega)
      have hq : (2 : Int) ^ (k + 1) = 2 ^ k * 2 := Int.pow_succ _ _
      have hp1 : (2 : Int) ^ k ≤ 32768 := by omega
      clear hp hq
      have hstep : M.gather M.fXor a b (k + 1) = if M.fXor (bits .and .u16 (a / 2 ^ k) 1) (bits .and .u16 (b / 2 ^ k) 1) then M.gather M.fXor a b k + 2 ^ k else M.gather M.fXor a b k := rfl
      have HS := hid hstep
      clear hstep
      by_cases hc : M.fXor (bits .and .u16 (a / 2 ^ k) 1) (bits .and .u16 (b / 2 ^ k) 1) = true
      · go_wp2
        go_quiet ((go_at_call 27; exact quiet_at (f_xor _ _ _)))
        go_wp2
        all_goals first | (exact Bool.noConfusion (hc.symm.trans (by assumption) : true = false)) | skip
        go_roundw
        case rel => exact ⟨k + 1, _, by omega, by go_num, by rw [HS.out, if_pos hc], rfl⟩
        case measure => simp [intOf]; omega
      · have hc' : M.fXor (bits .and .u16 (a / 2 ^ k) 1) (bits .and .u16 (b / 2 ^ k) 1) = false := by simpa using hc
        go_wp2
        go_quiet ((go_at_call 27; exact quiet_at (f_xor _ _ _)))
        go_wp2
        all_goals first | (exact Bool.noConfusion (hc'.symm.trans (by assumption) : false = true)) | skip
        go_roundw
        case rel => exact ⟨k + 1, _, by omega, by go_num, by rw [HS.out, if_neg hc], rfl⟩
        case measure => simp [intOf]; omega
    · go_wp2
      go_ret
      have : k = 16 := by omega
      subst this
      exact ⟨rfl, _, rfl⟩
end Go.Proofs.Ytlajhoffgjepmaa
