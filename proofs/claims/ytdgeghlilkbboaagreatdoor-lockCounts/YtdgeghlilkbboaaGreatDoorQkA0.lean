/-
  Parts of a proof, joined.
-/
import Derived.Test.YtdgeghlilkbboaaGreatDoorQk17
import Derived.Test.YtdgeghlilkbboaaGreatDoorQk21
import Derived.Deep.DeepCutAuto
namespace Go.Proofs.YtdgeghlilkbboaaGreatDoor
open Go.ChangeShapes Go.WideShapes Go.ChangeAt Go.RowKit
set_option linter.unusedVariables false
set_option maxRecDepth 100000
abbrev snV (s : Sd) : Value := .agg #[.int .u16 s.a.p, .int .u16 s.a.c, .int .u8 s.a.l, .bool s.a.h, .int .u16 s.a.n, .int .u16 s.b.p, .int .u16 s.b.c, .int .u8 s.b.l, .bool s.b.h, .int .u16 s.b.n, .int .u16 s.c.p, .int .u16 s.c.c, .int .u8 s.c.l, .bool s.c.h, .int .u16 s.c.n, .int .i64 s.w]
theorem Bx.w0 {W : World} {b : Nat} {x : Sd} (h : Bx W b (scs x)) : W.cell? ⟨b, 0, none⟩ = some (.int .u16 x.a.p) ∧ W.cell? ⟨b, 1, none⟩ = some (.int .u16 x.a.c) ∧ W.cell? ⟨b, 2, none⟩ = some (.int .u8 x.a.l) ∧ W.cell? ⟨b, 3, none⟩ = some (.bool x.a.h) ∧ W.cell? ⟨b, 4, none⟩ = some (.int .u16 x.a.n) ∧ b < W.heap.size ∧ ∀ o, W.frozen? ⟨b, o, none⟩ = false :=
  ⟨h.at 0 _ rfl, h.at 1 _ rfl, h.at 2 _ rfl, h.at 3 _ rfl, h.at 4 _ rfl, h.z, h.f⟩
theorem Bx.w1 {W : World} {b : Nat} {x : Sd} (h : Bx W b (scs x)) : W.cell? ⟨b, 5, none⟩ = some (.int .u16 x.b.p) ∧ W.cell? ⟨b, 6, none⟩ = some (.int .u16 x.b.c) ∧ W.cell? ⟨b, 7, none⟩ = some (.int .u8 x.b.l) ∧ W.cell? ⟨b, 8, none⟩ = some (.bool x.b.h) ∧ W.cell? ⟨b, 9, none⟩ = some (.int .u16 x.b.n) ∧ b < W.heap.size ∧ ∀ o, W.frozen? ⟨b, o, none⟩ = false :=
  ⟨h.at 5 _ rfl, h.at 6 _ rfl, h.at 7 _ rfl, h.at 8 _ rfl, h.at 9 _ rfl, h.z, h.f⟩
theorem Bx.w2 {W : World} {b : Nat} {x : Sd} (h : Bx W b (scs x)) : W.cell? ⟨b, 10, none⟩ = some (.int .u16 x.c.p) ∧ W.cell? ⟨b, 11, none⟩ = some (.int .u16 x.c.c) ∧ W.cell? ⟨b, 12, none⟩ = some (.int .u8 x.c.l) ∧ W.cell? ⟨b, 13, none⟩ = some (.bool x.c.h) ∧ W.cell? ⟨b, 14, none⟩ = some (.int .u16 x.c.n) ∧ b < W.heap.size ∧ ∀ o, W.frozen? ⟨b, o, none⟩ = false :=
  ⟨h.at 10 _ rfl, h.at 11 _ rfl, h.at 12 _ rfl, h.at 13 _ rfl, h.at 14 _ rfl, h.z, h.f⟩
theorem SmW.two (w : World) (s : Sd) : SmW w s [] (.slice none 0 0) ((w.alloc (.cells #[.int .u16 s.a.p, .int .u16 s.a.c, .int .u8 s.a.l, .bool s.a.h, .int .u16 s.a.n, .int .u16 s.b.p, .int .u16 s.b.c, .int .u8 s.b.l, .bool s.b.h, .int .u16 s.b.n, .int .u16 s.c.p, .int .u16 s.c.c, .int .u8 s.c.l, .bool s.c.h, .int .u16 s.c.n, .int .i64 s.w] 36)).alloc (.cells #[.int .u16 0, .int .u16 0, .int .u8 0, .bool false, .int .u16 0, .int .u16 0, .int .u16 0, .int .u8 0, .bool false, .int .u16 0, .int .u16 0, .int .u16 0, .int .u8 0, .bool false, .int .u16 0, .int .i64 0] 36)) := ⟨stA (stA (st0 w) _) _, (Bx.new w (scs s) _ rfl).over _, Bx.new _ zs _ (by simp), ⟨rfl, Or.inl ⟨rfl, rfl⟩⟩⟩
theorem port_at0 (x0 x1 x2 x3 x4 x5 x6 x7 : Value) (w : World) : (Instr.index 276 (.agg #[x0, x1, x2, x3, x4, x5, x6, x7]) (.int .i64 0)).run Tryz.prog w = .ok x0 w := by kernel_rfl
theorem port_at1 (x0 x1 x2 x3 x4 x5 x6 x7 : Value) (w : World) : (Instr.index 276 (.agg #[x0, x1, x2, x3, x4, x5, x6, x7]) (.int .i64 1)).run Tryz.prog w = .ok x1 w := by kernel_rfl
theorem port_at2 (x0 x1 x2 x3 x4 x5 x6 x7 : Value) (w : World) : (Instr.index 276 (.agg #[x0, x1, x2, x3, x4, x5, x6, x7]) (.int .i64 2)).run Tryz.prog w = .ok x2 w := by kernel_rfl
theorem port_at3 (x0 x1 x2 x3 x4 x5 x6 x7 : Value) (w : World) : (Instr.index 276 (.agg #[x0, x1, x2, x3, x4, x5, x6, x7]) (.int .i64 3)).run Tryz.prog w = .ok x3 w := by kernel_rfl
theorem port_at4 (x0 x1 x2 x3 x4 x5 x6 x7 : Value) (w : World) : (Instr.index 276 (.agg #[x0, x1, x2, x3, x4, x5, x6, x7]) (.int .i64 4)).run Tryz.prog w = .ok x4 w := by kernel_rfl
theorem port_at5 (x0 x1 x2 x3 x4 x5 x6 x7 : Value) (w : World) : (Instr.index 276 (.agg #[x0, x1, x2, x3, x4, x5, x6, x7]) (.int .i64 5)).run Tryz.prog w = .ok x5 w := by kernel_rfl
theorem port_at6 (x0 x1 x2 x3 x4 x5 x6 x7 : Value) (w : World) : (Instr.index 276 (.agg #[x0, x1, x2, x3, x4, x5, x6, x7]) (.int .i64 6)).run Tryz.prog w = .ok x6 w := by kernel_rfl
theorem port_at7 (x0 x1 x2 x3 x4 x5 x6 x7 : Value) (w : World) : (Instr.index 276 (.agg #[x0, x1, x2, x3, x4, x5, x6, x7]) (.int .i64 7)).run Tryz.prog w = .ok x7 w := by kernel_rfl
theorem port_id5 (v : Vc) (b : Int) (w : World) : Calls Tryz.prog 264 #[(.agg #[.int .u16 v.p, .int .u16 v.c, .int .u8 v.l, .bool v.h, .int .u16 v.n]), .int .u8 b] w fun e w' => e = .returned (.agg #[.int .u16 (v.put 5 b).p, .int .u16 (v.put 5 b).c, .int .u8 (v.put 5 b).l, .bool (v.put 5 b).h, .int .u16 (v.put 5 b).n]) ∧ Below w.heap.size w w' := port_idle v b w
theorem port_id6 (v : Vc) (b : Int) (w : World) : Calls Tryz.prog 264 #[(.agg #[.int .u16 v.p, .int .u16 v.c, .int .u8 v.l, .bool v.h, .int .u16 v.n]), .int .u8 b] w fun e w' => e = .returned (.agg #[.int .u16 (v.put 6 b).p, .int .u16 (v.put 6 b).c, .int .u8 (v.put 6 b).l, .bool (v.put 6 b).h, .int .u16 (v.put 6 b).n]) ∧ Below w.heap.size w w' := port_idle v b w
theorem port_id7 (v : Vc) (b : Int) (w : World) : Calls Tryz.prog 264 #[(.agg #[.int .u16 v.p, .int .u16 v.c, .int .u8 v.l, .bool v.h, .int .u16 v.n]), .int .u8 b] w fun e w' => e = .returned (.agg #[.int .u16 (v.put 7 b).p, .int .u16 (v.put 7 b).c, .int .u8 (v.put 7 b).l, .bool (v.put 7 b).h, .int .u16 (v.put 7 b).n]) ∧ Below w.heap.size w w' := port_idle v b w
end Go.Proofs.YtdgeghlilkbboaaGreatDoor
