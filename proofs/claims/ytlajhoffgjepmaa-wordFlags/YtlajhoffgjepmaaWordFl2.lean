/-
  What Flags of package word answers, for any order and any words: the sums of the text Math; nothing old is written.
-/
import Derived.Test.YtlajhoffgjepmaaWordFl
namespace Go.Proofs.Ytlajhoffgjepmaa
open Go.ChangeShapes Go.WideShapes Go.ChangeAt Go.RowKit
set_option linter.unusedVariables false

theorem b_and (a b : Int) (w : World) : Calls Try.prog 32 #[.int .u16 a, .int .u16 b] w fun e w' => e = .returned (.int .u16 (bits .and .u16 a b)) ∧ w' = w := by
  go_enter Try.func32, Try.ntmps32
  go_wp2
  go_ret
  exact ⟨rfl, rfl⟩
theorem b_or (a b : Int) (w : World) : Calls Try.prog 33 #[.int .u16 a, .int .u16 b] w fun e w' => e = .returned (.int .u16 (bits .or .u16 a b)) ∧ w' = w := by
  go_enter Try.func33, Try.ntmps33
  go_wp2
  go_ret
  exact ⟨rfl, rfl⟩
theorem b_xor (a b : Int) (w : World) : Calls Try.prog 34 #[.int .u16 a, .int .u16 b] w fun e w' => e = .returned (.int .u16 (bits .xor .u16 a b)) ∧ w' = w := by
  go_enter Try.func34, Try.ntmps34
  go_wp2
  go_ret
  exact ⟨rfl, rfl⟩
theorem clo_and (a b : Int) (c : Nat) (w : World) (hc : w.cell? ⟨c, 0, none⟩ = some (fnV 32)) :
    Calls Try.prog 36 #[.int .u16 a, .int .u16 b, .pointer (some ⟨c, 0, none⟩)] w fun e w' => e = .returned (.tuple #[.int .u16 (bits .and .u16 a b), .bool false, .bool false]) ∧ w' = w := by
  unfold fnV at hc
  go_enter Try.func36, Try.ntmps36
  go_wp2_with (go_at_call 32; refine (b_and _ _ _).mono ?_; rintro e w' ⟨rfl, rfl⟩)
  go_ret3
  exact ⟨rfl, rfl⟩
theorem clo_or (a b : Int) (c : Nat) (w : World) (hc : w.cell? ⟨c, 0, none⟩ = some (fnV 33)) :
    Calls Try.prog 36 #[.int .u16 a, .int .u16 b, .pointer (some ⟨c, 0, none⟩)] w fun e w' => e = .returned (.tuple #[.int .u16 (bits .or .u16 a b), .bool false, .bool false]) ∧ w' = w := by
  unfold fnV at hc
  go_enter Try.func36, Try.ntmps36
  go_wp2_with (go_at_call 33; refine (b_or _ _ _).mono ?_; rintro e w' ⟨rfl, rfl⟩)
  go_ret3
  exact ⟨rfl, rfl⟩
theorem clo_xor (a b : Int) (c : Nat) (w : World) (hc : w.cell? ⟨c, 0, none⟩ = some (fnV 34)) :
    Calls Try.prog 36 #[.int .u16 a, .int .u16 b, .pointer (some ⟨c, 0, none⟩)] w fun e w' => e = .returned (.tuple #[.int .u16 (bits .xor .u16 a b), .bool false, .bool false]) ∧ w' = w := by
  unfold fnV at hc
  go_enter Try.func36, Try.ntmps36
  go_wp2_with (go_at_call 34; refine (b_xor _ _ _).mono ?_; rintro e w' ⟨rfl, rfl⟩)
  go_ret3
  exact ⟨rfl, rfl⟩
theorem clo_mul (a b : Int) (w : World) (ha : 0 ≤ a) (ha' : a ≤ 65535) (hb : 0 ≤ b) (hb' : b ≤ 65535) :
    Calls Try.prog 35 #[.int .u16 a, .int .u16 b] w fun e w' => e = .returned (.tuple #[.int .u16 (M.mulN a b), .bool (M.mulC a b), .bool false]) ∧ w' = w := by
  go_enter Try.func35, Try.ntmps35
  go_wp2_with (go_at_call 9; refine (mul_any _ _ _ ha ha' hb hb').mono ?_; rintro e w' ⟨rfl, rfl⟩)
  go_ret3
  exact ⟨rfl, rfl⟩
theorem zero_fn (w : World) : (zeroValue 53).run Try.prog w = .ok .nilFunc w := by kernel_rfl

theorem flags_none (op a b : Int) (w : World) (h7 : (op == 7) = false) (h15 : (op == 15) = false) (h8 : (op == 8) = false) (h14 : (op == 14) = false)
    (h9 : (op == 9) = false) (h10 : (op == 10) = false) (h11 : (op == 11) = false) (h28 : (op == 28) = false) :
    Calls Try.prog 22 #[.int .i64 op, .int .u16 a, .int .u16 b] w fun e w' => e = .returned (.tuple #[.int .u16 0, .bool false, .bool false, .bool false, .bool false, .int .i64 5]) ∧ Grown w w' := by
  have hfind : ∀ c9 c10 c11, (table c9 c10 c11).find? (fun p => p.1 == op) = none := by
    intro c9 c10 c11
    simp only [beq_eq_false_iff_ne] at *
    simp only [table, List.find?_eq_none, List.mem_cons, List.not_mem_nil, or_false, beq_iff_eq]
    rintro p (rfl | rfl | rfl | rfl | rfl | rfl | rfl | rfl) <;> simp <;> omega
  have HF := hid hfind
  clear hfind h7 h15 h8 h14 h9 h10 h11 h28
  go_enter Try.func22, Try.ntmps22
  go_wp2_with (go_at_call 30; refine (reckoners_any _).mono ?_; rintro e w1 ⟨bb, c9, c10, c11, rfl, hm, h9, h10, h11, hg⟩; have hl := lookup_run under_map Try.underlying3 hm op _ (zero_fn w1); rw [HF.out] at hl; simp only [Option.map_none, Option.getD_none, Option.isSome_none] at hl)
  exact bodyPost_ret (v := .tuple #[.int .u16 0, .bool false, .bool false, .bool false, .bool false, .int .i64 5]) (by simp [results, Try.results22, go_sem]) rfl ⟨rfl, hg⟩
end Go.Proofs.Ytlajhoffgjepmaa
