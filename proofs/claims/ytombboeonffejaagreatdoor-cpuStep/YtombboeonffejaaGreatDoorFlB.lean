/-
  What Flags of package word answers, for any order and any words: the sums of the text Math; nothing old is written.
-/
import Derived.Test.YtombboeonffejaaGreatDoorFlA
namespace Go.Proofs.YtombboeonffejaaGreatDoor
open Go.ChangeShapes Go.WideShapes Go.ChangeAt Go.RowKit
set_option linter.unusedVariables false

theorem b_and (a b : Int) (w : World) : Calls Tryz.prog 143 #[.int .u16 a, .int .u16 b] w fun e w' => e = .returned (.int .u16 (bits .and .u16 a b)) ∧ w' = w := by
  go_enter Tryz.func143, Tryz.ntmps143
  go_wp2
  go_ret
  exact ⟨rfl, rfl⟩
theorem b_or (a b : Int) (w : World) : Calls Tryz.prog 144 #[.int .u16 a, .int .u16 b] w fun e w' => e = .returned (.int .u16 (bits .or .u16 a b)) ∧ w' = w := by
  go_enter Tryz.func144, Tryz.ntmps144
  go_wp2
  go_ret
  exact ⟨rfl, rfl⟩
theorem b_xor (a b : Int) (w : World) : Calls Tryz.prog 145 #[.int .u16 a, .int .u16 b] w fun e w' => e = .returned (.int .u16 (bits .xor .u16 a b)) ∧ w' = w := by
  go_enter Tryz.func145, Tryz.ntmps145
  go_wp2
  go_ret
  exact ⟨rfl, rfl⟩
theorem clo_and (a b : Int) (c : Nat) (w : World) (hc : w.cell? ⟨c, 0, none⟩ = some (fnV 143)) :
    Calls Tryz.prog 151 #[.int .u16 a, .int .u16 b, .pointer (some ⟨c, 0, none⟩)] w fun e w' => e = .returned (.tuple #[.int .u16 (bits .and .u16 a b), .bool false, .bool false]) ∧ w' = w := by
  unfold fnV at hc
  go_enter Tryz.func151, Tryz.ntmps151
  go_wp2_with (go_at_call 143; refine (b_and _ _ _).mono ?_; rintro e w' ⟨rfl, rfl⟩)
  go_ret3
  exact ⟨rfl, rfl⟩
theorem clo_or (a b : Int) (c : Nat) (w : World) (hc : w.cell? ⟨c, 0, none⟩ = some (fnV 144)) :
    Calls Tryz.prog 151 #[.int .u16 a, .int .u16 b, .pointer (some ⟨c, 0, none⟩)] w fun e w' => e = .returned (.tuple #[.int .u16 (bits .or .u16 a b), .bool false, .bool false]) ∧ w' = w := by
  unfold fnV at hc
  go_enter Tryz.func151, Tryz.ntmps151
  go_wp2_with (go_at_call 144; refine (b_or _ _ _).mono ?_; rintro e w' ⟨rfl, rfl⟩)
  go_ret3
  exact ⟨rfl, rfl⟩
theorem clo_xor (a b : Int) (c : Nat) (w : World) (hc : w.cell? ⟨c, 0, none⟩ = some (fnV 145)) :
    Calls Tryz.prog 151 #[.int .u16 a, .int .u16 b, .pointer (some ⟨c, 0, none⟩)] w fun e w' => e = .returned (.tuple #[.int .u16 (bits .xor .u16 a b), .bool false, .bool false]) ∧ w' = w := by
  unfold fnV at hc
  go_enter Tryz.func151, Tryz.ntmps151
  go_wp2_with (go_at_call 145; refine (b_xor _ _ _).mono ?_; rintro e w' ⟨rfl, rfl⟩)
  go_ret3
  exact ⟨rfl, rfl⟩
theorem clo_mul (a b : Int) (w : World) (ha : 0 ≤ a) (ha' : a ≤ 65535) (hb : 0 ≤ b) (hb' : b ≤ 65535) :
    Calls Tryz.prog 146 #[.int .u16 a, .int .u16 b] w fun e w' => e = .returned (.tuple #[.int .u16 (M.mulN a b), .bool (M.mulC a b), .bool false]) ∧ w' = w := by
  go_enter Tryz.func146, Tryz.ntmps146
  go_wp2_with (go_at_call 147; refine (mul_any _ _ _ ha ha' hb hb').mono ?_; rintro e w' ⟨rfl, rfl⟩)
  go_ret3
  exact ⟨rfl, rfl⟩
theorem zero_fn (w : World) : (zeroValue 172).run Tryz.prog w = .ok .nilFunc w := by kernel_rfl

theorem flags_none (op a b : Int) (w : World) (h7 : (op == 7) = false) (h15 : (op == 15) = false) (h8 : (op == 8) = false) (h14 : (op == 14) = false)
    (h9 : (op == 9) = false) (h10 : (op == 10) = false) (h11 : (op == 11) = false) (h28 : (op == 28) = false) :
    Calls Tryz.prog 120 #[.int .i64 op, .int .u16 a, .int .u16 b] w fun e w' => e = .returned (.tuple #[.int .u16 0, .bool false, .bool false, .bool false, .bool false, .int .i64 5]) ∧ Below w.heap.size w w' := by
  have hfind : ∀ c9 c10 c11, (table c9 c10 c11).find? (fun p => p.1 == op) = none := by
    intro c9 c10 c11
    simp only [beq_eq_false_iff_ne] at *
    simp only [table, List.find?_eq_none, List.mem_cons, List.not_mem_nil, or_false, beq_iff_eq]
    rintro p (rfl | rfl | rfl | rfl | rfl | rfl | rfl | rfl) <;> simp <;> omega
  have HF := hid hfind
  clear hfind h7 h15 h8 h14 h9 h10 h11 h28
  go_enter Tryz.func120, Tryz.ntmps120
  go_wp2_with (go_at_call 133; refine (reckoners_any _).mono ?_; rintro e w1 ⟨bb, c9, c10, c11, rfl, hm, h9, h10, h11, hg⟩; have hl := lookup_run under_map Tryz.underlying3 hm op _ (zero_fn w1); rw [HF.out] at hl; simp only [Option.map_none, Option.getD_none, Option.isSome_none] at hl)
  exact bodyPost_ret (v := .tuple #[.int .u16 0, .bool false, .bool false, .bool false, .bool false, .int .i64 5]) (by simp [results, Tryz.results120, go_sem]) rfl ⟨rfl, hg⟩
end Go.Proofs.YtombboeonffejaaGreatDoor
