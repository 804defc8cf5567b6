/-
  The equality of voices and sounds; voices and sounds that came in.
-/
import Derived.Test.YthooknikfachnaaTonD
import Derived.ChangeKeysEq
namespace Go.Proofs.Ythooknikfachnaa
open Go.ChangeShapes Go.WideShapes Go.ChangeAt Go.RowKit
set_option linter.unusedVariables false
set_option maxRecDepth 100000

set_option maxRecDepth 100000 in
theorem eq_voice (v : Vc) (w : World) : (binOp .eql 33 (.agg #[.int .u16 v.p, .int .u16 v.c, .int .u8 v.l, .bool v.h, .int .u16 v.n]) (.agg #[.int .u16 v.p, .int .u16 v.c, .int .u8 v.l, .bool v.h, .int .u16 v.n])).run Try.prog w = .ok (.bool true) w := by
  have u3 := Try.underlying23
  have a3 := Try.isAgg23
  have z3 := Try.sizeOf23
  have u4 := Try.underlying4
  have a4 := Try.isAgg4
  have z4 := Try.sizeOf4
  have u5 := Try.underlying5
  have a5 := Try.isAgg5
  have z5 := Try.sizeOf5
  have hS : Try.prog.underlying 33 = some (.struct (Try.prog.fieldsOf 33)) := by kernel_rfl
  have hp : Try.prog.stoodInHeld 33 = false := by kernel_rfl
  rw [run_eql_struct, show (10000 : Nat) = 9999 + 1 from rfl, run_equalIn_agg w 9999 33 _ _ hS hp]
  simp only [Program.fieldsOf, Try.underlying33]
  go_simp
theorem neq_voice (v : Vc) (w : World) : (binOp .neq 33 (.agg #[.int .u16 v.p, .int .u16 v.c, .int .u8 v.l, .bool v.h, .int .u16 v.n]) (.agg #[.int .u16 v.p, .int .u16 v.c, .int .u8 v.l, .bool v.h, .int .u16 v.n])).run Try.prog w = .ok (.bool false) w := by
  have h := eq_voice v w
  rw [run_eql_struct] at h
  rw [run_neq_struct]
  revert h
  generalize Sem.run Try.prog (Op.equalIn 10000 33 _ _) w = r
  intro h
  cases r with
  | ok b w' =>
    have e : Result.ok (Value.bool b) w' = .ok (.bool true) w := h
    injection e with e1 e2
    injection e1 with e3
    subst e3 e2
    rfl
  | _ => cases h
set_option maxRecDepth 100000 in
theorem eqv (v : Vc) (d : Nat) (w : World) : (Op.equalIn (d + 2) 33 (.agg #[.int .u16 v.p, .int .u16 v.c, .int .u8 v.l, .bool v.h, .int .u16 v.n]) (.agg #[.int .u16 v.p, .int .u16 v.c, .int .u8 v.l, .bool v.h, .int .u16 v.n])).run Try.prog w = .ok true w := by
  have u3 := Try.underlying23
  have a3 := Try.isAgg23
  have z3 := Try.sizeOf23
  have u4 := Try.underlying4
  have a4 := Try.isAgg4
  have z4 := Try.sizeOf4
  have u5 := Try.underlying5
  have a5 := Try.isAgg5
  have z5 := Try.sizeOf5
  have hS : Try.prog.underlying 33 = some (.struct (Try.prog.fieldsOf 33)) := by kernel_rfl
  have hp : Try.prog.stoodInHeld 33 = false := by kernel_rfl
  rw [run_equalIn_agg w (d + 1) 33 _ _ hS hp]
  simp only [Program.fieldsOf, Try.underlying33]
  go_simp
set_option maxRecDepth 100000 in
theorem eq_three (s : Sd) (d : Nat) (w : World) : (Op.equalIn (d + 3) 34 (.agg #[.int .u16 s.a.p, .int .u16 s.a.c, .int .u8 s.a.l, .bool s.a.h, .int .u16 s.a.n, .int .u16 s.b.p, .int .u16 s.b.c, .int .u8 s.b.l, .bool s.b.h, .int .u16 s.b.n, .int .u16 s.c.p, .int .u16 s.c.c, .int .u8 s.c.l, .bool s.c.h, .int .u16 s.c.n]) (.agg #[.int .u16 s.a.p, .int .u16 s.a.c, .int .u8 s.a.l, .bool s.a.h, .int .u16 s.a.n, .int .u16 s.b.p, .int .u16 s.b.c, .int .u8 s.b.l, .bool s.b.h, .int .u16 s.b.n, .int .u16 s.c.p, .int .u16 s.c.c, .int .u8 s.c.l, .bool s.c.h, .int .u16 s.c.n])).run Try.prog w = .ok true w := by
  have h0 := eqv s.a d
  have h1 := eqv s.b d
  have h2 := eqv s.c d
  have a3 := Try.isAgg33
  have z3 := Try.sizeOf33
  have hU : Try.prog.cellsOf 33 = 5 := by kernel_rfl
  have hs : (Try.prog.info? 33).isSome = true := by kernel_rfl
  obtain ⟨i, hi⟩ := Option.isSome_iff_exists.1 hs
  rw [run_equalIn_array w (d + 2) _ _ under_three hi, hU]
  simp only [List.range, List.range.loop, Op.eqItems]
  go_simp
set_option maxRecDepth 100000 in
theorem eq_sound (s : Sd) (w : World) : (binOp .eql 36 (.agg #[.int .u16 s.a.p, .int .u16 s.a.c, .int .u8 s.a.l, .bool s.a.h, .int .u16 s.a.n, .int .u16 s.b.p, .int .u16 s.b.c, .int .u8 s.b.l, .bool s.b.h, .int .u16 s.b.n, .int .u16 s.c.p, .int .u16 s.c.c, .int .u8 s.c.l, .bool s.c.h, .int .u16 s.c.n, .int .i64 s.w]) (.agg #[.int .u16 s.a.p, .int .u16 s.a.c, .int .u8 s.a.l, .bool s.a.h, .int .u16 s.a.n, .int .u16 s.b.p, .int .u16 s.b.c, .int .u8 s.b.l, .bool s.b.h, .int .u16 s.b.n, .int .u16 s.c.p, .int .u16 s.c.c, .int .u8 s.c.l, .bool s.c.h, .int .u16 s.c.n, .int .i64 s.w])).run Try.prog w = .ok (.bool true) w := by
  have u3 := Try.underlying3
  have x3 := Try.isAgg3
  have z3 := Try.sizeOf3
  have x5 := Try.isAgg34
  have z5 := Try.sizeOf34
  have ha := eq_three s 9996
  have hS : Try.prog.underlying 36 = some (.struct (Try.prog.fieldsOf 36)) := by kernel_rfl
  have hp : Try.prog.stoodInHeld 36 = false := by kernel_rfl
  rw [run_eql_struct, show (10000 : Nat) = 9999 + 1 from rfl, run_equalIn_agg w 9999 36 _ _ hS hp]
  simp only [Program.fieldsOf, Try.underlying36]
  go_simp
theorem neq_sound (s : Sd) (w : World) : (binOp .neq 36 (.agg #[.int .u16 s.a.p, .int .u16 s.a.c, .int .u8 s.a.l, .bool s.a.h, .int .u16 s.a.n, .int .u16 s.b.p, .int .u16 s.b.c, .int .u8 s.b.l, .bool s.b.h, .int .u16 s.b.n, .int .u16 s.c.p, .int .u16 s.c.c, .int .u8 s.c.l, .bool s.c.h, .int .u16 s.c.n, .int .i64 s.w]) (.agg #[.int .u16 s.a.p, .int .u16 s.a.c, .int .u8 s.a.l, .bool s.a.h, .int .u16 s.a.n, .int .u16 s.b.p, .int .u16 s.b.c, .int .u8 s.b.l, .bool s.b.h, .int .u16 s.b.n, .int .u16 s.c.p, .int .u16 s.c.c, .int .u8 s.c.l, .bool s.c.h, .int .u16 s.c.n, .int .i64 s.w])).run Try.prog w = .ok (.bool false) w := by
  have h := eq_sound s w
  rw [run_eql_struct] at h
  rw [run_neq_struct]
  revert h
  generalize Sem.run Try.prog (Op.equalIn 10000 36 _ _) w = r
  intro h
  cases r with
  | ok b w' =>
    have e : Result.ok (Value.bool b) w' = .ok (.bool true) w := h
    injection e with e1 e2
    injection e1 with e3
    subst e3 e2
    rfl
  | _ => cases h
end Go.Proofs.Ythooknikfachnaa
