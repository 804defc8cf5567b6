/-
  The Go text of the law ToneParts returns true where numbers or the sound are wrong.
-/
import Derived.Test.YtjmmbbehjklhgaaTonU
namespace Go.Proofs.Ytjmmbbehjklhgaa
open Go.ChangeShapes Go.WideShapes Go.ChangeAt Go.RowKit
set_option linter.unusedVariables false

set_option maxRecDepth 100000 in
set_option maxHeartbeats 3200000 in
theorem parts_num (s : Sd) (a b : Int) (w : World) (hn : a < 0 ∨ (0 ≤ a ∧ b < 0) ∨ (0 ≤ a ∧ 0 ≤ b ∧ 20000 < a) ∨ (0 ≤ a ∧ 0 ≤ b ∧ a ≤ 20000 ∧ 20000 - a < b)) :
    Calls Try.prog 5 #[(.agg #[.int .u16 s.a.p, .int .u16 s.a.c, .int .u8 s.a.l, .bool s.a.h, .int .u16 s.a.n, .int .u16 s.b.p, .int .u16 s.b.c, .int .u8 s.b.l, .bool s.b.h, .int .u16 s.b.n, .int .u16 s.c.p, .int .u16 s.c.c, .int .u8 s.c.l, .bool s.c.h, .int .u16 s.c.n, .int .i64 s.w]), .int .i64 a, .int .i64 b] w fun e w' => e = .returned (.bool true) ∧ Below w.heap.size w w' := by
  rcases hn with h | ⟨h1, h2⟩ | ⟨h1, h2, h3⟩ | ⟨h1, h2, h3, h4⟩
  · have g1 : decide (a < 0) = true := decide_eq_true h
    go_enter Try.func5, Try.ntmps5
    go_wp2_with (go_at_call 9; refine (sounded_any _).mono ?_; rintro e w2 ⟨rfl, hb2⟩)
    go_ret
    exact ⟨rfl, stp (stA (st0 w) _) hb2⟩
  · have g1 : decide (a < 0) = false := decide_eq_false (by omega)
    have g2 : decide (b < 0) = true := decide_eq_true h2
    go_enter Try.func5, Try.ntmps5
    go_wp2_with (go_at_call 9; refine (sounded_any _).mono ?_; rintro e w2 ⟨rfl, hb2⟩)
    go_ret
    exact ⟨rfl, stp (stA (st0 w) _) hb2⟩
  · have g1 : decide (a < 0) = false := decide_eq_false (by omega)
    have g2 : decide (b < 0) = false := decide_eq_false (by omega)
    have g3 : decide ((20000 : Int) < a) = true := decide_eq_true h3
    go_enter Try.func5, Try.ntmps5
    go_wp2_with (go_at_call 9; refine (sounded_any _).mono ?_; rintro e w2 ⟨rfl, hb2⟩)
    go_ret
    exact ⟨rfl, stp (stA (st0 w) _) hb2⟩
  · have g1 : decide (a < 0) = false := decide_eq_false (by omega)
    have g2 : decide (b < 0) = false := decide_eq_false (by omega)
    have g3 : decide ((20000 : Int) < a) = false := decide_eq_false (by omega)
    have g4 : decide ((20000 : Int) - a < b) = true := decide_eq_true h4
    go_enter Try.func5, Try.ntmps5
    go_wp2_with (go_at_call 9; refine (sounded_any _).mono ?_; rintro e w2 ⟨rfl, hb2⟩)
    go_ret
    exact ⟨rfl, stp (stA (st0 w) _) hb2⟩
set_option maxRecDepth 100000 in
set_option maxHeartbeats 3200000 in
theorem parts_wait (s : Sd) (A B : Nat) (w : World) (h : s.w < 0 ∨ 15 < s.w) (hab : A + B ≤ 20000) :
    Calls Try.prog 5 #[(.agg #[.int .u16 s.a.p, .int .u16 s.a.c, .int .u8 s.a.l, .bool s.a.h, .int .u16 s.a.n, .int .u16 s.b.p, .int .u16 s.b.c, .int .u8 s.b.l, .bool s.b.h, .int .u16 s.b.n, .int .u16 s.c.p, .int .u16 s.c.c, .int .u8 s.c.l, .bool s.c.h, .int .u16 s.c.n, .int .i64 s.w]), .int .i64 A, .int .i64 B] w fun e w' => e = .returned (.bool true) ∧ Below w.heap.size w w' := by
  have HH := hid h
  clear h
  have g1 : decide ((A : Int) < 0) = false := decide_eq_false (by omega)
  have g2 : decide ((B : Int) < 0) = false := decide_eq_false (by omega)
  have g3 : decide ((20000 : Int) < A) = false := decide_eq_false (by omega)
  have g4 : decide ((20000 : Int) - A < B) = false := decide_eq_false (by omega)
  go_enter Try.func5, Try.ntmps5
  go_wp2_with (first
    | (go_at_call 12; refine (check_bad s _ HH.out).mono ?_; rintro e w0 ⟨rfl, hb0⟩)
    | (go_at_call 9; refine (sounded_any _).mono ?_; rintro e w2 ⟨rfl, hb2⟩))
  go_ret
  exact ⟨rfl, stp (stp (stA (st0 w) _) hb0) hb2⟩
end Go.Proofs.Ytjmmbbehjklhgaa
