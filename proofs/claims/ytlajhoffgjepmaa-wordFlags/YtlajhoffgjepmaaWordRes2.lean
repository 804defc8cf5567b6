/-
  What the reference's Result answers at each order, and at what is none: the sums of the text Math; nothing old is written.
-/
import Derived.Test.YtlajhoffgjepmaaWordRes
namespace Go.Proofs.Ytlajhoffgjepmaa
open Go.ChangeShapes Go.WideShapes Go.ChangeAt Go.RowKit
set_option linter.unusedVariables false

theorem grown_trans {a b c : World} (h : Grown a b) (h' : Grown b c) : Grown a c :=
  ⟨World.keptBut_trans h.1 h'.1, fun x => (h'.2.1 x).trans (h.2.1 x), Nat.le_trans h.2.2 h'.2.2⟩
theorem grown_drewN (w : World) (n : Nat) : Grown w (w.drewN n) := Grown.refl w
theorem ret_ibbb {k : IntKind} {a a' : Int} {b b' c c' d d' : Bool} (h : a = a') (h1 : b = b') (h2 : c = c') (h3 : d = d') : Ending.returned (.tuple #[.int k a, .bool b, .bool c, .bool d]) = .returned (.tuple #[.int k a', .bool b', .bool c', .bool d']) := by rw [h, h1, h2, h3]

theorem res_mul (a b : Int) (w : World) (ha : 0 ≤ a) (ha' : a ≤ 65535) (hb : 0 ≤ b) (hb' : b ≤ 65535) :
    Calls Try.prog 12 #[.int .i64 28, .int .u16 a, .int .u16 b] w fun e w' => e = .returned (.tuple #[.int .u16 (M.mulN a b), .bool (M.mulC a b), .bool false, .bool true]) ∧ Grown w w' := by
  have hm := M.mul_bd a b ha ha' hb hb'
  go_enter Try.func12, Try.ntmps12
  go_wp2
  refine bodyPost_ret (v := .tuple #[.int .u16 (a * b % 65536), .bool (decide (65536 ≤ a * b)), .bool false, .bool true]) (by simp [results, Try.results12, go_sem]) rfl ⟨ret_ibbb rfl ?_ rfl rfl, ((Grown.refl _).alloc _ _).alloc _ _⟩
  unfold M.mulC; rw [decide_eq_decide]; omega
theorem res_add (op a b : Int) (w : World) (ha : 0 ≤ a) (ha' : a ≤ 65535) (hb : 0 ≤ b) (hb' : b ≤ 65535) (ho : op = 7 ∨ op = 15) :
    Calls Try.prog 12 #[.int .i64 op, .int .u16 a, .int .u16 b] w fun e w' => e = .returned (.tuple #[.int .u16 (M.addN a b), .bool (M.addC a b), .bool (M.addV a b), .bool true]) ∧ Grown w w' := by
  rcases ho with rfl | rfl
  all_goals
    go_enter Try.func12, Try.ntmps12
    go_wp2_with (go_at_call 10; refine (sum_any _ _ _ (by omega) (by omega) (by omega) (by omega)).mono ?_; rintro e w' ⟨rfl, rfl⟩)
    exact bodyPost_ret (v := .tuple #[.int .u16 (M.addN a b), .bool (M.addC a b), .bool (M.addV a b), .bool true]) (by simp [results, Try.results12, go_sem]) rfl ⟨rfl, ((Grown.refl _).alloc _ _).alloc _ _⟩
theorem res_sub (op a b : Int) (w : World) (ha : 0 ≤ a) (ha' : a ≤ 65535) (hb : 0 ≤ b) (hb' : b ≤ 65535) (ho : op = 8 ∨ op = 14) :
    Calls Try.prog 12 #[.int .i64 op, .int .u16 a, .int .u16 b] w fun e w' => e = .returned (.tuple #[.int .u16 (M.subN a b), .bool (M.subC a b), .bool (M.subV a b), .bool true]) ∧ Grown w w' := by
  rcases ho with rfl | rfl
  all_goals
    go_enter Try.func12, Try.ntmps12
    go_wp2_with (go_at_call 11; refine (less_any _ _ _ (by omega) (by omega) (by omega) (by omega)).mono ?_; rintro e w' ⟨rfl, rfl⟩)
    exact bodyPost_ret (v := .tuple #[.int .u16 (M.subN a b), .bool (M.subC a b), .bool (M.subV a b), .bool true]) (by simp [results, Try.results12, go_sem]) rfl ⟨rfl, ((Grown.refl _).alloc _ _).alloc _ _⟩
theorem res_and (a b : Int) (w : World) (ha : 0 ≤ a) (ha' : a ≤ 65535) (hb : 0 ≤ b) (hb' : b ≤ 65535) :
    Calls Try.prog 12 #[.int .i64 9, .int .u16 a, .int .u16 b] w fun e w' => e = .returned (.tuple #[.int .u16 (bits .and .u16 a b), .bool false, .bool false, .bool true]) ∧ Grown w w' := by
  go_enter Try.func12, Try.ntmps12
  go_wp2_with (go_at_call 24; refine (gather_and _ _ _ _ _ ha ha' hb hb' (by simp) (by simp)).mono ?_; rintro e w' ⟨rfl, k, rfl⟩)
  exact bodyPost_ret (v := .tuple #[.int .u16 (bits .and .u16 a b), .bool false, .bool false, .bool true]) (by simp [results, Try.results12, go_sem]) rfl ⟨rfl, grown_trans (((Grown.refl _).alloc _ _).alloc _ _) (grown_drewN _ _)⟩
theorem res_or (a b : Int) (w : World) (ha : 0 ≤ a) (ha' : a ≤ 65535) (hb : 0 ≤ b) (hb' : b ≤ 65535) :
    Calls Try.prog 12 #[.int .i64 10, .int .u16 a, .int .u16 b] w fun e w' => e = .returned (.tuple #[.int .u16 (bits .or .u16 a b), .bool false, .bool false, .bool true]) ∧ Grown w w' := by
  go_enter Try.func12, Try.ntmps12
  go_wp2_with (go_at_call 24; refine (gather_or _ _ _ _ _ ha ha' hb hb' (by simp) (by simp)).mono ?_; rintro e w' ⟨rfl, k, rfl⟩)
  exact bodyPost_ret (v := .tuple #[.int .u16 (bits .or .u16 a b), .bool false, .bool false, .bool true]) (by simp [results, Try.results12, go_sem]) rfl ⟨rfl, grown_trans (((Grown.refl _).alloc _ _).alloc _ _) (grown_drewN _ _)⟩
theorem res_xor (a b : Int) (w : World) (ha : 0 ≤ a) (ha' : a ≤ 65535) (hb : 0 ≤ b) (hb' : b ≤ 65535) :
    Calls Try.prog 12 #[.int .i64 11, .int .u16 a, .int .u16 b] w fun e w' => e = .returned (.tuple #[.int .u16 (bits .xor .u16 a b), .bool false, .bool false, .bool true]) ∧ Grown w w' := by
  go_enter Try.func12, Try.ntmps12
  go_wp2_with (go_at_call 24; refine (gather_xor _ _ _ _ _ ha ha' hb hb' (by simp) (by simp)).mono ?_; rintro e w' ⟨rfl, k, rfl⟩)
  exact bodyPost_ret (v := .tuple #[.int .u16 (bits .xor .u16 a b), .bool false, .bool false, .bool true]) (by simp [results, Try.results12, go_sem]) rfl ⟨rfl, grown_trans (((Grown.refl _).alloc _ _).alloc _ _) (grown_drewN _ _)⟩
theorem res_none (op a b : Int) (w : World) (h7 : (op == 7) = false) (h15 : (op == 15) = false) (h8 : (op == 8) = false) (h14 : (op == 14) = false)
    (h9 : (op == 9) = false) (h10 : (op == 10) = false) (h11 : (op == 11) = false) (h28 : (op == 28) = false) :
    Calls Try.prog 12 #[.int .i64 op, .int .u16 a, .int .u16 b] w fun e w' => e = .returned (.tuple #[.int .u16 0, .bool false, .bool false, .bool false]) ∧ Grown w w' := by
  go_enter Try.func12, Try.ntmps12
  go_wp2
  exact bodyPost_ret (v := .tuple #[.int .u16 0, .bool false, .bool false, .bool false]) (by simp [results, Try.results12, go_sem]) rfl ⟨rfl, ((Grown.refl _).alloc _ _).alloc _ _⟩
end Go.Proofs.Ytlajhoffgjepmaa
