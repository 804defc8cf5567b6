/-
  The Go text of the law WordFlags returns true for any number and any two words.
-/
import Derived.Test.YtlajhoffgjepmaaWordFl3
namespace Go.Proofs.Ytlajhoffgjepmaa
open Go.ChangeShapes Go.WideShapes Go.ChangeAt Go.RowKit
set_option linter.unusedVariables false

set_option maxRecDepth 100000 in
theorem law_7 (a b : Int) (w : World) (ha : 0 ≤ a) (ha' : a ≤ 65535) (hb : 0 ≤ b) (hb' : b ≤ 65535) :
    Calls Try.prog 5 #[.int .i64 7, .int .u16 a, .int .u16 b] w fun e w' => e = .returned (.bool true) ∧ Grown w w' := by
  go_enter Try.func5, Try.ntmps5
  go_wp2_with (first
    | (go_at_call 22; refine (flags_7 _ _ _ ha ha' hb hb').mono ?_; rintro e w1 ⟨rfl, hg1⟩)
    | (go_at_call 12; refine (res_add 7 _ _ _ ha ha' hb hb' (Or.inl rfl)).mono ?_; rintro e w2 ⟨rfl, hg2⟩)
    | (go_at_call 13; refine (reckoned_any _).mono ?_; rintro e w' ⟨rfl, rfl⟩))
  go_ret
  exact ⟨rfl, grown_trans hg1 hg2⟩
set_option maxRecDepth 100000 in
theorem law_15 (a b : Int) (w : World) (ha : 0 ≤ a) (ha' : a ≤ 65535) (hb : 0 ≤ b) (hb' : b ≤ 65535) :
    Calls Try.prog 5 #[.int .i64 15, .int .u16 a, .int .u16 b] w fun e w' => e = .returned (.bool true) ∧ Grown w w' := by
  go_enter Try.func5, Try.ntmps5
  go_wp2_with (first
    | (go_at_call 22; refine (flags_15 _ _ _ ha ha' hb hb').mono ?_; rintro e w1 ⟨rfl, hg1⟩)
    | (go_at_call 12; refine (res_add 15 _ _ _ ha ha' hb hb' (Or.inr rfl)).mono ?_; rintro e w2 ⟨rfl, hg2⟩)
    | (go_at_call 13; refine (reckoned_any _).mono ?_; rintro e w' ⟨rfl, rfl⟩))
  go_ret
  exact ⟨rfl, grown_trans hg1 hg2⟩
set_option maxRecDepth 100000 in
theorem law_8 (a b : Int) (w : World) (ha : 0 ≤ a) (ha' : a ≤ 65535) (hb : 0 ≤ b) (hb' : b ≤ 65535) :
    Calls Try.prog 5 #[.int .i64 8, .int .u16 a, .int .u16 b] w fun e w' => e = .returned (.bool true) ∧ Grown w w' := by
  go_enter Try.func5, Try.ntmps5
  go_wp2_with (first
    | (go_at_call 22; refine (flags_8 _ _ _ ha ha' hb hb').mono ?_; rintro e w1 ⟨rfl, hg1⟩)
    | (go_at_call 12; refine (res_sub 8 _ _ _ ha ha' hb hb' (Or.inl rfl)).mono ?_; rintro e w2 ⟨rfl, hg2⟩)
    | (go_at_call 13; refine (reckoned_any _).mono ?_; rintro e w' ⟨rfl, rfl⟩))
  go_ret
  exact ⟨rfl, grown_trans hg1 hg2⟩
set_option maxRecDepth 100000 in
theorem law_14 (a b : Int) (w : World) (ha : 0 ≤ a) (ha' : a ≤ 65535) (hb : 0 ≤ b) (hb' : b ≤ 65535) :
    Calls Try.prog 5 #[.int .i64 14, .int .u16 a, .int .u16 b] w fun e w' => e = .returned (.bool true) ∧ Grown w w' := by
  go_enter Try.func5, Try.ntmps5
  go_wp2_with (first
    | (go_at_call 22; refine (flags_14 _ _ _ ha ha' hb hb').mono ?_; rintro e w1 ⟨rfl, hg1⟩)
    | (go_at_call 12; refine (res_sub 14 _ _ _ ha ha' hb hb' (Or.inr rfl)).mono ?_; rintro e w2 ⟨rfl, hg2⟩)
    | (go_at_call 13; refine (reckoned_any _).mono ?_; rintro e w' ⟨rfl, rfl⟩))
  go_ret
  exact ⟨rfl, grown_trans hg1 hg2⟩
set_option maxRecDepth 100000 in
theorem law_9 (a b : Int) (w : World) (ha : 0 ≤ a) (ha' : a ≤ 65535) (hb : 0 ≤ b) (hb' : b ≤ 65535) :
    Calls Try.prog 5 #[.int .i64 9, .int .u16 a, .int .u16 b] w fun e w' => e = .returned (.bool true) ∧ Grown w w' := by
  go_enter Try.func5, Try.ntmps5
  go_wp2_with (first
    | (go_at_call 22; refine (flags_9 _ _ _ ha ha' hb hb').mono ?_; rintro e w1 ⟨rfl, hg1⟩)
    | (go_at_call 12; refine (res_and _ _ _ ha ha' hb hb').mono ?_; rintro e w2 ⟨rfl, hg2⟩)
    | (go_at_call 13; refine (reckoned_any _).mono ?_; rintro e w' ⟨rfl, rfl⟩))
  go_ret
  exact ⟨rfl, grown_trans hg1 hg2⟩
set_option maxRecDepth 100000 in
theorem law_10 (a b : Int) (w : World) (ha : 0 ≤ a) (ha' : a ≤ 65535) (hb : 0 ≤ b) (hb' : b ≤ 65535) :
    Calls Try.prog 5 #[.int .i64 10, .int .u16 a, .int .u16 b] w fun e w' => e = .returned (.bool true) ∧ Grown w w' := by
  go_enter Try.func5, Try.ntmps5
  go_wp2_with (first
    | (go_at_call 22; refine (flags_10 _ _ _ ha ha' hb hb').mono ?_; rintro e w1 ⟨rfl, hg1⟩)
    | (go_at_call 12; refine (res_or _ _ _ ha ha' hb hb').mono ?_; rintro e w2 ⟨rfl, hg2⟩)
    | (go_at_call 13; refine (reckoned_any _).mono ?_; rintro e w' ⟨rfl, rfl⟩))
  go_ret
  exact ⟨rfl, grown_trans hg1 hg2⟩
set_option maxRecDepth 100000 in
theorem law_11 (a b : Int) (w : World) (ha : 0 ≤ a) (ha' : a ≤ 65535) (hb : 0 ≤ b) (hb' : b ≤ 65535) :
    Calls Try.prog 5 #[.int .i64 11, .int .u16 a, .int .u16 b] w fun e w' => e = .returned (.bool true) ∧ Grown w w' := by
  go_enter Try.func5, Try.ntmps5
  go_wp2_with (first
    | (go_at_call 22; refine (flags_11 _ _ _ ha ha' hb hb').mono ?_; rintro e w1 ⟨rfl, hg1⟩)
    | (go_at_call 12; refine (res_xor _ _ _ ha ha' hb hb').mono ?_; rintro e w2 ⟨rfl, hg2⟩)
    | (go_at_call 13; refine (reckoned_any _).mono ?_; rintro e w' ⟨rfl, rfl⟩))
  go_ret
  exact ⟨rfl, grown_trans hg1 hg2⟩
set_option maxRecDepth 100000 in
theorem law_28 (a b : Int) (w : World) (ha : 0 ≤ a) (ha' : a ≤ 65535) (hb : 0 ≤ b) (hb' : b ≤ 65535) :
    Calls Try.prog 5 #[.int .i64 28, .int .u16 a, .int .u16 b] w fun e w' => e = .returned (.bool true) ∧ Grown w w' := by
  go_enter Try.func5, Try.ntmps5
  go_wp2_with (first
    | (go_at_call 22; refine (flags_28 _ _ _ ha ha' hb hb').mono ?_; rintro e w1 ⟨rfl, hg1⟩)
    | (go_at_call 12; refine (res_mul _ _ _ ha ha' hb hb').mono ?_; rintro e w2 ⟨rfl, hg2⟩)
    | (go_at_call 13; refine (reckoned_any _).mono ?_; rintro e w' ⟨rfl, rfl⟩))
  go_ret
  exact ⟨rfl, grown_trans hg1 hg2⟩
set_option maxRecDepth 100000 in
theorem law_none (op a b : Int) (w : World) (h7 : (op == 7) = false) (h15 : (op == 15) = false) (h8 : (op == 8) = false) (h14 : (op == 14) = false)
    (h9 : (op == 9) = false) (h10 : (op == 10) = false) (h11 : (op == 11) = false) (h28 : (op == 28) = false) :
    Calls Try.prog 5 #[.int .i64 op, .int .u16 a, .int .u16 b] w fun e w' => e = .returned (.bool true) ∧ Grown w w' := by
  have F := hid (fun w => flags_none op a b w h7 h15 h8 h14 h9 h10 h11 h28)
  have R := hid (fun w => res_none op a b w h7 h15 h8 h14 h9 h10 h11 h28)
  clear h7 h15 h8 h14 h9 h10 h11 h28
  go_enter Try.func5, Try.ntmps5
  go_wp2_with (first
    | (go_at_call 22; refine (F.out _).mono ?_; rintro e w1 ⟨rfl, hg1⟩)
    | (go_at_call 12; refine (R.out _).mono ?_; rintro e w2 ⟨rfl, hg2⟩)
    | (go_at_call 13; refine (reckoned_any _).mono ?_; rintro e w' ⟨rfl, rfl⟩))
  go_ret
  exact ⟨rfl, grown_trans hg1 hg2⟩
theorem flags_walk (op a b : Int) (w : World) (ha : 0 ≤ a ∧ a ≤ 65535) (hb : 0 ≤ b ∧ b ≤ 65535) :
    Calls Try.prog 5 #[.int .i64 op, .int .u16 a, .int .u16 b] w fun e w' => e = .returned (.bool true) ∧ Grown w w' := by
  obtain ⟨ha, ha'⟩ := ha
  obtain ⟨hb, hb'⟩ := hb
  by_cases h : op = 7 ∨ op = 15 ∨ op = 8 ∨ op = 14 ∨ op = 9 ∨ op = 10 ∨ op = 11 ∨ op = 28
  · rcases h with rfl | rfl | rfl | rfl | rfl | rfl | rfl | rfl
    · exact law_7 a b w ha ha' hb hb'
    · exact law_15 a b w ha ha' hb hb'
    · exact law_8 a b w ha ha' hb hb'
    · exact law_14 a b w ha ha' hb hb'
    · exact law_9 a b w ha ha' hb hb'
    · exact law_10 a b w ha ha' hb hb'
    · exact law_11 a b w ha ha' hb hb'
    · exact law_28 a b w ha ha' hb hb'
  · have hh : ∀ x : Int, op ≠ x → (op == x) = false := fun x hx => by simpa using hx
    exact law_none op a b w (hh _ (by omega)) (hh _ (by omega)) (hh _ (by omega)) (hh _ (by omega)) (hh _ (by omega)) (hh _ (by omega)) (hh _ (by omega)) (hh _ (by omega))
end Go.Proofs.Ytlajhoffgjepmaa
