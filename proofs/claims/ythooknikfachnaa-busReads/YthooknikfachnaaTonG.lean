/-
  Package tone: what is put to a port.
-/
import Derived.Test.YthooknikfachnaaTonD
namespace Go.Proofs.Ythooknikfachnaa
open Go.ChangeShapes Go.WideShapes Go.ChangeAt Go.RowKit
set_option linter.unusedVariables false
set_option maxRecDepth 100000

theorem bytes_any (a : Int) (w : World) (h : 0 ≤ a ∧ a ≤ 65535) :
    Calls Try.prog 85 #[.int .u16 a] w fun e w' => e = .returned (.tuple #[.int .u8 (a / 256), .int .u8 (a % 256)]) ∧ w = w' := by
  go_enter Try.func85, Try.ntmps85
  go_wp2
  go_ret2
  exact ⟨rfl, rfl⟩
theorem of_any (a b : Int) (w : World) (ha : 0 ≤ a ∧ a ≤ 255) (hb : 0 ≤ b ∧ b ≤ 255) :
    Calls Try.prog 76 #[.int .u8 a, .int .u8 b] w fun e w' => e = .returned (.int .u16 (a * 256 + b)) ∧ w = w' := by
  have e := M.joined a b ha.1 ha.2 hb.1 hb.2
  go_enter Try.func76, Try.ntmps76
  go_wp2
  go_ret
  exact ⟨by first | rfl | (simp [e]; done) | (rw [e]), rfl⟩
theorem high_any (a b : Int) (w : World) (ha : 0 ≤ a ∧ a ≤ 65535) (hb : 0 ≤ b ∧ b ≤ 255) :
    Calls Try.prog 97 #[.int .u16 a, .int .u8 b] w fun e w' => e = .returned (.int .u16 (b * 256 + a % 256)) ∧ w = w' := by
  go_enter Try.func97, Try.ntmps97
  go_wp2_with (first
    | (go_at_call 85; refine (bytes_any a _ ha).mono ?_; rintro e w1 ⟨rfl, rfl⟩)
    | (go_at_call 76; refine (of_any b (a % 256) _ hb ⟨by omega, by omega⟩).mono ?_; rintro e w1 ⟨rfl, rfl⟩))
  go_ret
  exact ⟨rfl, rfl⟩
theorem low_any (a b : Int) (w : World) (ha : 0 ≤ a ∧ a ≤ 65535) (hb : 0 ≤ b ∧ b ≤ 255) :
    Calls Try.prog 99 #[.int .u16 a, .int .u8 b] w fun e w' => e = .returned (.int .u16 (a / 256 * 256 + b)) ∧ w = w' := by
  go_enter Try.func99, Try.ntmps99
  go_wp2_with (first
    | (go_at_call 85; refine (bytes_any a _ ha).mono ?_; rintro e w1 ⟨rfl, rfl⟩)
    | (go_at_call 76; refine (of_any (a / 256) b _ ⟨by omega, by omega⟩ hb).mono ?_; rintro e w1 ⟨rfl, rfl⟩))
  go_ret
  exact ⟨rfl, rfl⟩
/-- A voice to whose port a byte was put. -/
def Vc.put (v : Vc) (k : Nat) (b : Int) : Vc :=
  if k = 0 then ⟨b * 256 + v.p % 256, v.c, v.l, v.h, v.n⟩ else if k = 1 then ⟨v.p / 256 * 256 + b, v.c, v.l, v.h, v.n⟩ else if k = 2 then ⟨v.p, v.c, b % 16, v.h, v.n⟩
  else if k = 3 then ⟨v.p, v.c, v.l, v.h, b * 256 + v.n % 256⟩ else if k = 4 then ⟨v.p, v.c, v.l, v.h, v.n / 256 * 256 + b⟩ else v
/-- A sound to whose port a byte was put. -/
def Sd.put (s : Sd) (k : Nat) (b : Int) : Sd := if k < 8 then ⟨s.a.put (k % 8) b, s.b, s.c, s.w⟩ else if k < 16 then ⟨s.a, s.b.put (k % 8) b, s.c, s.w⟩ else ⟨s.a, s.b, s.c.put (k % 8) b, s.w⟩
theorem port_idle (v : Vc) (b : Int) (w : World) :
    Calls Try.prog 95 #[(.agg #[.int .u16 v.p, .int .u16 v.c, .int .u8 v.l, .bool v.h, .int .u16 v.n]), .int .u8 b] w fun e w' => e = .returned (.agg #[.int .u16 v.p, .int .u16 v.c, .int .u8 v.l, .bool v.h, .int .u16 v.n]) ∧ Below w.heap.size w w' := by
  go_enter Try.func95, Try.ntmps95
  go_wp2
  refine bodyPost_ret (v := .agg _) (by simp [results, Try.results95, go_sem]) rfl ⟨rfl, ?_⟩
  exact (stA (stA (st0 _) _) _)
theorem port_0 (v : Vc) (b : Int) (w : World) (h : v.ok) (hb : 0 ≤ b ∧ b ≤ 255) :
    Calls Try.prog 96 #[(.agg #[.int .u16 v.p, .int .u16 v.c, .int .u8 v.l, .bool v.h, .int .u16 v.n]), .int .u8 b] w fun e w' => e = .returned (.agg #[.int .u16 (v.put 0 b).p, .int .u16 (v.put 0 b).c, .int .u8 (v.put 0 b).l, .bool (v.put 0 b).h, .int .u16 (v.put 0 b).n]) ∧ Below w.heap.size w w' := by
  go_enter Try.func96, Try.ntmps96
  go_wp2_with (go_at_call 97; refine (high_any v.p b _ h.p hb).mono ?_; rintro e w1 ⟨rfl, rfl⟩)
  refine bodyPost_ret (v := .agg _) (by simp [results, Try.results96, go_sem]; exact ⟨rfl, rfl, rfl, rfl, rfl⟩) rfl ⟨rfl, ?_⟩
  exact (stA (stA (st0 _) _) _)
theorem port_1 (v : Vc) (b : Int) (w : World) (h : v.ok) (hb : 0 ≤ b ∧ b ≤ 255) :
    Calls Try.prog 98 #[(.agg #[.int .u16 v.p, .int .u16 v.c, .int .u8 v.l, .bool v.h, .int .u16 v.n]), .int .u8 b] w fun e w' => e = .returned (.agg #[.int .u16 (v.put 1 b).p, .int .u16 (v.put 1 b).c, .int .u8 (v.put 1 b).l, .bool (v.put 1 b).h, .int .u16 (v.put 1 b).n]) ∧ Below w.heap.size w w' := by
  go_enter Try.func98, Try.ntmps98
  go_wp2_with (go_at_call 99; refine (low_any v.p b _ h.p hb).mono ?_; rintro e w1 ⟨rfl, rfl⟩)
  refine bodyPost_ret (v := .agg _) (by simp [results, Try.results98, go_sem]; exact ⟨rfl, rfl, rfl, rfl, rfl⟩) rfl ⟨rfl, ?_⟩
  exact (stA (stA (st0 _) _) _)
theorem port_2 (v : Vc) (b : Int) (w : World) (h : v.ok) (hb : 0 ≤ b ∧ b ≤ 255) :
    Calls Try.prog 100 #[(.agg #[.int .u16 v.p, .int .u16 v.c, .int .u8 v.l, .bool v.h, .int .u16 v.n]), .int .u8 b] w fun e w' => e = .returned (.agg #[.int .u16 (v.put 2 b).p, .int .u16 (v.put 2 b).c, .int .u8 (v.put 2 b).l, .bool (v.put 2 b).h, .int .u16 (v.put 2 b).n]) ∧ Below w.heap.size w w' := by
  have e := and15 b hb
  go_enter Try.func100, Try.ntmps100
  go_wp2
  refine bodyPost_ret (v := .agg _) (by simp [results, Try.results100, go_sem]; exact ⟨rfl, rfl, rfl, rfl, rfl⟩) rfl ⟨rfl, ?_⟩
  exact (stA (stA (st0 _) _) _)
theorem port_3 (v : Vc) (b : Int) (w : World) (h : v.ok) (hb : 0 ≤ b ∧ b ≤ 255) :
    Calls Try.prog 101 #[(.agg #[.int .u16 v.p, .int .u16 v.c, .int .u8 v.l, .bool v.h, .int .u16 v.n]), .int .u8 b] w fun e w' => e = .returned (.agg #[.int .u16 (v.put 3 b).p, .int .u16 (v.put 3 b).c, .int .u8 (v.put 3 b).l, .bool (v.put 3 b).h, .int .u16 (v.put 3 b).n]) ∧ Below w.heap.size w w' := by
  go_enter Try.func101, Try.ntmps101
  go_wp2_with (go_at_call 97; refine (high_any v.n b _ h.n hb).mono ?_; rintro e w1 ⟨rfl, rfl⟩)
  refine bodyPost_ret (v := .agg _) (by simp [results, Try.results101, go_sem]; exact ⟨rfl, rfl, rfl, rfl, rfl⟩) rfl ⟨rfl, ?_⟩
  exact (stA (stA (st0 _) _) _)
theorem port_4 (v : Vc) (b : Int) (w : World) (h : v.ok) (hb : 0 ≤ b ∧ b ≤ 255) :
    Calls Try.prog 102 #[(.agg #[.int .u16 v.p, .int .u16 v.c, .int .u8 v.l, .bool v.h, .int .u16 v.n]), .int .u8 b] w fun e w' => e = .returned (.agg #[.int .u16 (v.put 4 b).p, .int .u16 (v.put 4 b).c, .int .u8 (v.put 4 b).l, .bool (v.put 4 b).h, .int .u16 (v.put 4 b).n]) ∧ Below w.heap.size w w' := by
  go_enter Try.func102, Try.ntmps102
  go_wp2_with (go_at_call 99; refine (low_any v.n b _ h.n hb).mono ?_; rintro e w1 ⟨rfl, rfl⟩)
  refine bodyPost_ret (v := .agg _) (by simp [results, Try.results102, go_sem]; exact ⟨rfl, rfl, rfl, rfl, rfl⟩) rfl ⟨rfl, ?_⟩
  exact (stA (stA (st0 _) _) _)
theorem ports_any (w : World) : Calls Try.prog 94 #[] w fun e w' => e = .returned (.agg #[.func (.func 96) #[] #[], .func (.func 98) #[] #[], .func (.func 100) #[] #[], .func (.func 101) #[] #[], .func (.func 102) #[] #[], .func (.func 95) #[] #[], .func (.func 95) #[] #[], .func (.func 95) #[] #[]]) ∧ Below w.heap.size w w' := by
  go_enter Try.func94, Try.ntmps94
  go_wp2
  refine bodyPost_ret (v := .agg _) (by simp [results, Try.results94, go_sem]) rfl ⟨rfl, ?_⟩
  exact (stA (st0 _) _)
end Go.Proofs.Ythooknikfachnaa
