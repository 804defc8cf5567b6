/-
  What Flags of package word answers at each order that reckons: the sums of the text Math; nothing old is written.
-/
import Derived.Test.YtombboeonffejaaGreatDoorFlB
namespace Go.Proofs.YtombboeonffejaaGreatDoor
open Go.ChangeShapes Go.WideShapes Go.ChangeAt Go.RowKit
set_option linter.unusedVariables false

set_option maxRecDepth 100000 in
theorem flags_7 (a b : Int) (w : World) (ha : 0 ≤ a) (ha' : a ≤ 65535) (hb : 0 ≤ b) (hb' : b ≤ 65535) :
    Calls Tryz.prog 120 #[.int .i64 7, .int .u16 a, .int .u16 b] w fun e w' => e = .returned (.tuple #[.int .u16 (M.addN a b), .bool (M.addN a b == 0), .bool (decide (32768 ≤ M.addN a b)), .bool (M.addC a b), .bool (M.addV a b), .int .i64 0]) ∧ Below w.heap.size w w' := by
  have ht := M.top_of (M.addN a b) (M.addN_bd a b).1 (M.addN_bd a b).2
  rw [← ht]
  clear ht
  go_enter Tryz.func120, Tryz.ntmps120
  go_wp2_with (first
    | (go_at_call 133; refine (reckoners_any _).mono ?_; rintro e w1 ⟨bb, c9, c10, c11, rfl, hm, h9, h10, h11, hg⟩; have hl := lookup_run under_map Tryz.underlying3 hm 7 _ (zero_fn w1); simp [table, fnV, cloV] at hl)
    | (go_at_call 140; refine (add_any _ _ _ ha ha' hb hb').mono ?_; rintro e w' ⟨rfl, rfl⟩))
  exact bodyPost_ret (v := .tuple #[.int .u16 (M.addN a b), .bool (M.addN a b == 0), .bool (bits .and .u16 (M.addN a b) 32768 != 0), .bool (M.addC a b), .bool (M.addV a b), .int .i64 0]) (by simp [results, Tryz.results120, go_sem]) rfl ⟨rfl, hg⟩
set_option maxRecDepth 100000 in
theorem flags_15 (a b : Int) (w : World) (ha : 0 ≤ a) (ha' : a ≤ 65535) (hb : 0 ≤ b) (hb' : b ≤ 65535) :
    Calls Tryz.prog 120 #[.int .i64 15, .int .u16 a, .int .u16 b] w fun e w' => e = .returned (.tuple #[.int .u16 (M.addN a b), .bool (M.addN a b == 0), .bool (decide (32768 ≤ M.addN a b)), .bool (M.addC a b), .bool (M.addV a b), .int .i64 0]) ∧ Below w.heap.size w w' := by
  have ht := M.top_of (M.addN a b) (M.addN_bd a b).1 (M.addN_bd a b).2
  rw [← ht]
  clear ht
  go_enter Tryz.func120, Tryz.ntmps120
  go_wp2_with (first
    | (go_at_call 133; refine (reckoners_any _).mono ?_; rintro e w1 ⟨bb, c9, c10, c11, rfl, hm, h9, h10, h11, hg⟩; have hl := lookup_run under_map Tryz.underlying3 hm 15 _ (zero_fn w1); simp [table, fnV, cloV] at hl)
    | (go_at_call 140; refine (add_any _ _ _ ha ha' hb hb').mono ?_; rintro e w' ⟨rfl, rfl⟩))
  exact bodyPost_ret (v := .tuple #[.int .u16 (M.addN a b), .bool (M.addN a b == 0), .bool (bits .and .u16 (M.addN a b) 32768 != 0), .bool (M.addC a b), .bool (M.addV a b), .int .i64 0]) (by simp [results, Tryz.results120, go_sem]) rfl ⟨rfl, hg⟩
set_option maxRecDepth 100000 in
theorem flags_8 (a b : Int) (w : World) (ha : 0 ≤ a) (ha' : a ≤ 65535) (hb : 0 ≤ b) (hb' : b ≤ 65535) :
    Calls Tryz.prog 120 #[.int .i64 8, .int .u16 a, .int .u16 b] w fun e w' => e = .returned (.tuple #[.int .u16 (M.subN a b), .bool (M.subN a b == 0), .bool (decide (32768 ≤ M.subN a b)), .bool (M.subC a b), .bool (M.subV a b), .int .i64 0]) ∧ Below w.heap.size w w' := by
  have ht := M.top_of (M.subN a b) (M.subN_bd a b).1 (M.subN_bd a b).2
  rw [← ht]
  clear ht
  go_enter Tryz.func120, Tryz.ntmps120
  go_wp2_with (first
    | (go_at_call 133; refine (reckoners_any _).mono ?_; rintro e w1 ⟨bb, c9, c10, c11, rfl, hm, h9, h10, h11, hg⟩; have hl := lookup_run under_map Tryz.underlying3 hm 8 _ (zero_fn w1); simp [table, fnV, cloV] at hl)
    | (go_at_call 141; refine (sub_any _ _ _ ha ha' hb hb').mono ?_; rintro e w' ⟨rfl, rfl⟩))
  exact bodyPost_ret (v := .tuple #[.int .u16 (M.subN a b), .bool (M.subN a b == 0), .bool (bits .and .u16 (M.subN a b) 32768 != 0), .bool (M.subC a b), .bool (M.subV a b), .int .i64 0]) (by simp [results, Tryz.results120, go_sem]) rfl ⟨rfl, hg⟩
set_option maxRecDepth 100000 in
theorem flags_14 (a b : Int) (w : World) (ha : 0 ≤ a) (ha' : a ≤ 65535) (hb : 0 ≤ b) (hb' : b ≤ 65535) :
    Calls Tryz.prog 120 #[.int .i64 14, .int .u16 a, .int .u16 b] w fun e w' => e = .returned (.tuple #[.int .u16 (M.subN a b), .bool (M.subN a b == 0), .bool (decide (32768 ≤ M.subN a b)), .bool (M.subC a b), .bool (M.subV a b), .int .i64 0]) ∧ Below w.heap.size w w' := by
  have ht := M.top_of (M.subN a b) (M.subN_bd a b).1 (M.subN_bd a b).2
  rw [← ht]
  clear ht
  go_enter Tryz.func120, Tryz.ntmps120
  go_wp2_with (first
    | (go_at_call 133; refine (reckoners_any _).mono ?_; rintro e w1 ⟨bb, c9, c10, c11, rfl, hm, h9, h10, h11, hg⟩; have hl := lookup_run under_map Tryz.underlying3 hm 14 _ (zero_fn w1); simp [table, fnV, cloV] at hl)
    | (go_at_call 141; refine (sub_any _ _ _ ha ha' hb hb').mono ?_; rintro e w' ⟨rfl, rfl⟩))
  exact bodyPost_ret (v := .tuple #[.int .u16 (M.subN a b), .bool (M.subN a b == 0), .bool (bits .and .u16 (M.subN a b) 32768 != 0), .bool (M.subC a b), .bool (M.subV a b), .int .i64 0]) (by simp [results, Tryz.results120, go_sem]) rfl ⟨rfl, hg⟩
set_option maxRecDepth 100000 in
theorem flags_9 (a b : Int) (w : World) (ha : 0 ≤ a) (ha' : a ≤ 65535) (hb : 0 ≤ b) (hb' : b ≤ 65535) :
    Calls Tryz.prog 120 #[.int .i64 9, .int .u16 a, .int .u16 b] w fun e w' => e = .returned (.tuple #[.int .u16 (bits .and .u16 a b), .bool (bits .and .u16 a b == 0), .bool (decide (32768 ≤ bits .and .u16 a b)), .bool false, .bool false, .int .i64 0]) ∧ Below w.heap.size w w' := by
  have ht := M.top_of (bits .and .u16 a b) (M.and_bd a b ha ha' hb hb').1 (M.and_bd a b ha ha' hb hb').2
  rw [← ht]
  clear ht
  go_enter Tryz.func120, Tryz.ntmps120
  go_wp2_with (first
    | (go_at_call 133; refine (reckoners_any _).mono ?_; rintro e w1 ⟨bb, c9, c10, c11, rfl, hm, h9, h10, h11, hg⟩; have hl := lookup_run under_map Tryz.underlying3 hm 9 _ (zero_fn w1); simp [table, fnV, cloV] at hl)
    | (go_at_call 151; refine (clo_and _ _ _ _ h9).mono ?_; rintro e w' ⟨rfl, rfl⟩))
  exact bodyPost_ret (v := .tuple #[.int .u16 (bits .and .u16 a b), .bool (bits .and .u16 a b == 0), .bool (bits .and .u16 (bits .and .u16 a b) 32768 != 0), .bool false, .bool false, .int .i64 0]) (by simp [results, Tryz.results120, go_sem]) rfl ⟨rfl, hg⟩
set_option maxRecDepth 100000 in
theorem flags_10 (a b : Int) (w : World) (ha : 0 ≤ a) (ha' : a ≤ 65535) (hb : 0 ≤ b) (hb' : b ≤ 65535) :
    Calls Tryz.prog 120 #[.int .i64 10, .int .u16 a, .int .u16 b] w fun e w' => e = .returned (.tuple #[.int .u16 (bits .or .u16 a b), .bool (bits .or .u16 a b == 0), .bool (decide (32768 ≤ bits .or .u16 a b)), .bool false, .bool false, .int .i64 0]) ∧ Below w.heap.size w w' := by
  have ht := M.top_of (bits .or .u16 a b) (M.or_bd a b ha ha' hb hb').1 (M.or_bd a b ha ha' hb hb').2
  rw [← ht]
  clear ht
  go_enter Tryz.func120, Tryz.ntmps120
  go_wp2_with (first
    | (go_at_call 133; refine (reckoners_any _).mono ?_; rintro e w1 ⟨bb, c9, c10, c11, rfl, hm, h9, h10, h11, hg⟩; have hl := lookup_run under_map Tryz.underlying3 hm 10 _ (zero_fn w1); simp [table, fnV, cloV] at hl)
    | (go_at_call 151; refine (clo_or _ _ _ _ h10).mono ?_; rintro e w' ⟨rfl, rfl⟩))
  exact bodyPost_ret (v := .tuple #[.int .u16 (bits .or .u16 a b), .bool (bits .or .u16 a b == 0), .bool (bits .and .u16 (bits .or .u16 a b) 32768 != 0), .bool false, .bool false, .int .i64 0]) (by simp [results, Tryz.results120, go_sem]) rfl ⟨rfl, hg⟩
set_option maxRecDepth 100000 in
theorem flags_11 (a b : Int) (w : World) (ha : 0 ≤ a) (ha' : a ≤ 65535) (hb : 0 ≤ b) (hb' : b ≤ 65535) :
    Calls Tryz.prog 120 #[.int .i64 11, .int .u16 a, .int .u16 b] w fun e w' => e = .returned (.tuple #[.int .u16 (bits .xor .u16 a b), .bool (bits .xor .u16 a b == 0), .bool (decide (32768 ≤ bits .xor .u16 a b)), .bool false, .bool false, .int .i64 0]) ∧ Below w.heap.size w w' := by
  have ht := M.top_of (bits .xor .u16 a b) (M.xor_bd a b ha ha' hb hb').1 (M.xor_bd a b ha ha' hb hb').2
  rw [← ht]
  clear ht
  go_enter Tryz.func120, Tryz.ntmps120
  go_wp2_with (first
    | (go_at_call 133; refine (reckoners_any _).mono ?_; rintro e w1 ⟨bb, c9, c10, c11, rfl, hm, h9, h10, h11, hg⟩; have hl := lookup_run under_map Tryz.underlying3 hm 11 _ (zero_fn w1); simp [table, fnV, cloV] at hl)
    | (go_at_call 151; refine (clo_xor _ _ _ _ h11).mono ?_; rintro e w' ⟨rfl, rfl⟩))
  exact bodyPost_ret (v := .tuple #[.int .u16 (bits .xor .u16 a b), .bool (bits .xor .u16 a b == 0), .bool (bits .and .u16 (bits .xor .u16 a b) 32768 != 0), .bool false, .bool false, .int .i64 0]) (by simp [results, Tryz.results120, go_sem]) rfl ⟨rfl, hg⟩
set_option maxRecDepth 100000 in
theorem flags_28 (a b : Int) (w : World) (ha : 0 ≤ a) (ha' : a ≤ 65535) (hb : 0 ≤ b) (hb' : b ≤ 65535) :
    Calls Tryz.prog 120 #[.int .i64 28, .int .u16 a, .int .u16 b] w fun e w' => e = .returned (.tuple #[.int .u16 (M.mulN a b), .bool (M.mulN a b == 0), .bool (decide (32768 ≤ M.mulN a b)), .bool (M.mulC a b), .bool false, .int .i64 0]) ∧ Below w.heap.size w w' := by
  have ht := M.top_of (M.mulN a b) (M.mulN_bd a b).1 (M.mulN_bd a b).2
  rw [← ht]
  clear ht
  go_enter Tryz.func120, Tryz.ntmps120
  go_wp2_with (first
    | (go_at_call 133; refine (reckoners_any _).mono ?_; rintro e w1 ⟨bb, c9, c10, c11, rfl, hm, h9, h10, h11, hg⟩; have hl := lookup_run under_map Tryz.underlying3 hm 28 _ (zero_fn w1); simp [table, fnV, cloV] at hl)
    | (go_at_call 146; refine (clo_mul _ _ _ ha ha' hb hb').mono ?_; rintro e w' ⟨rfl, rfl⟩))
  exact bodyPost_ret (v := .tuple #[.int .u16 (M.mulN a b), .bool (M.mulN a b == 0), .bool (bits .and .u16 (M.mulN a b) 32768 != 0), .bool (M.mulC a b), .bool false, .int .i64 0]) (by simp [results, Tryz.results120, go_sem]) rfl ⟨rfl, hg⟩
end Go.Proofs.YtombboeonffejaaGreatDoor
