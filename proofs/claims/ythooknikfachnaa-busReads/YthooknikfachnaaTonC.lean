/-
  Package tone: Tick, Run, Check, sample.
-/
import Derived.Test.YthooknikfachnaaTonB
namespace Go.Proofs.Ythooknikfachnaa
open Go.ChangeShapes Go.WideShapes Go.ChangeAt Go.RowKit
set_option linter.unusedVariables false
set_option maxRecDepth 100000

abbrev vcs (v : Vc) : List Value := [.int .u16 v.p, .int .u16 v.c, .int .u8 v.l, .bool v.h, .int .u16 v.n]
theorem tick_eq (v : Vc) (h : v.ok) : v.later 1 = v.tick := by
  have := Vc.later_ticks v h 1
  exact this
theorem resV {w w1 : World} {o : Obj} (hb1 : Below ((w.alloc o).alloc (.cells #[.int .u16 0, .int .u16 0, .int .u8 0, .bool false, .int .u16 0] 33)).heap.size ((w.alloc o).alloc (.cells #[.int .u16 0, .int .u16 0, .int .u8 0, .bool false, .int .u16 0] 33)) w1) : Bx w1 (w.heap.size + 1) (vL 0 0 0 false 0) :=
  (Bx.new (w.alloc o) (vL 0 0 0 false 0) _ (by simp)).kept hb1
theorem check_ok (s : Sd) (w : World) (h : 0 ≤ s.w ∧ s.w ≤ 15) :
    Calls Try.prog 25 #[(.agg #[.int .u16 s.a.p, .int .u16 s.a.c, .int .u8 s.a.l, .bool s.a.h, .int .u16 s.a.n, .int .u16 s.b.p, .int .u16 s.b.c, .int .u8 s.b.l, .bool s.b.h, .int .u16 s.b.n, .int .u16 s.c.p, .int .u16 s.c.c, .int .u8 s.c.l, .bool s.c.h, .int .u16 s.c.n, .int .i64 s.w])] w fun e w' => e = .returned (.int .i64 0) ∧ Below w.heap.size w w' := by
  go_enter Try.func25, Try.ntmps25
  go_wp2
  go_ret
  exact ⟨rfl, stA (st0 _) _⟩
theorem check_bad (s : Sd) (w : World) (h : s.w < 0 ∨ 15 < s.w) :
    Calls Try.prog 25 #[(.agg #[.int .u16 s.a.p, .int .u16 s.a.c, .int .u8 s.a.l, .bool s.a.h, .int .u16 s.a.n, .int .u16 s.b.p, .int .u16 s.b.c, .int .u8 s.b.l, .bool s.b.h, .int .u16 s.b.n, .int .u16 s.c.p, .int .u16 s.c.c, .int .u8 s.c.l, .bool s.c.h, .int .u16 s.c.n, .int .i64 s.w])] w fun e w' => e = .returned (.int .i64 3) ∧ Below w.heap.size w w' := by
  rcases h with h | h
  · go_enter Try.func25, Try.ntmps25
    go_wp2
    go_ret
    exact ⟨rfl, stA (st0 _) _⟩
  · have h' : ¬ s.w < 0 := by omega
    go_enter Try.func25, Try.ntmps25
    go_wp2
    go_ret
    exact ⟨rfl, stA (st0 _) _⟩
theorem v3_0 (x0 x1 x2 x3 x4 x5 x6 x7 x8 x9 y0 y1 y2 y3 y4 : Value) (w : World) : (Instr.index 34 (.agg #[x0, x1, x2, x3, x4, x5, x6, x7, x8, x9, y0, y1, y2, y3, y4]) (.int .i64 0)).run Try.prog w = .ok (.agg #[x0, x1, x2, x3, x4]) w := by kernel_rfl
theorem v3_1 (x0 x1 x2 x3 x4 x5 x6 x7 x8 x9 y0 y1 y2 y3 y4 : Value) (w : World) : (Instr.index 34 (.agg #[x0, x1, x2, x3, x4, x5, x6, x7, x8, x9, y0, y1, y2, y3, y4]) (.int .i64 1)).run Try.prog w = .ok (.agg #[x5, x6, x7, x8, x9]) w := by kernel_rfl
theorem v3_2 (x0 x1 x2 x3 x4 x5 x6 x7 x8 x9 y0 y1 y2 y3 y4 : Value) (w : World) : (Instr.index 34 (.agg #[x0, x1, x2, x3, x4, x5, x6, x7, x8, x9, y0, y1, y2, y3, y4]) (.int .i64 2)).run Try.prog w = .ok (.agg #[y0, y1, y2, y3, y4]) w := by kernel_rfl
theorem and15 (l : Int) (h : 0 ≤ l ∧ l ≤ 255) : bits .and .u8 l 15 = l % 16 := by
  obtain ⟨X, hX⟩ := Int.eq_ofNat_of_zero_le h.1
  subst hX
  rw [show (15 : Int) = ((15 : Nat) : Int) from rfl, u8_and_nat _ _ (by omega) (by omega)]
  have := Nat.and_two_pow_sub_one_eq_mod X 4
  simp only [Nat.reducePow, Nat.reduceSub] at this
  rw [this]; omega
theorem ld_t {v : Vc} (h : v.h = true) : ld v = v.l % 16 := by unfold ld; rw [h]; rfl
theorem ld_f {v : Vc} (h : v.h = false) : ld v = 0 := by unfold ld; rw [h]; rfl
end Go.Proofs.Ythooknikfachnaa
