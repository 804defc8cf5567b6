/-
  The reference on voices and sounds.
-/
import Derived.Test.YthooknikfachnaaTonD
namespace Go.Proofs.Ythooknikfachnaa
open Go.ChangeShapes Go.WideShapes Go.ChangeAt Go.RowKit
set_option linter.unusedVariables false
set_option maxRecDepth 100000

theorem Bx.six {W : World} {b : Nat} {x : Sd} (h : Bx W b (scs x)) : W.cell? ⟨b, 0, none⟩ = some (.int .u16 x.a.p) ∧ W.cell? ⟨b, 1, none⟩ = some (.int .u16 x.a.c) ∧ W.cell? ⟨b, 2, none⟩ = some (.int .u8 x.a.l) ∧ W.cell? ⟨b, 3, none⟩ = some (.bool x.a.h) ∧ W.cell? ⟨b, 4, none⟩ = some (.int .u16 x.a.n) ∧ W.cell? ⟨b, 5, none⟩ = some (.int .u16 x.b.p) ∧ W.cell? ⟨b, 6, none⟩ = some (.int .u16 x.b.c) ∧ W.cell? ⟨b, 7, none⟩ = some (.int .u8 x.b.l) ∧ W.cell? ⟨b, 8, none⟩ = some (.bool x.b.h) ∧ W.cell? ⟨b, 9, none⟩ = some (.int .u16 x.b.n) ∧ W.cell? ⟨b, 10, none⟩ = some (.int .u16 x.c.p) ∧ W.cell? ⟨b, 11, none⟩ = some (.int .u16 x.c.c) ∧ W.cell? ⟨b, 12, none⟩ = some (.int .u8 x.c.l) ∧ W.cell? ⟨b, 13, none⟩ = some (.bool x.c.h) ∧ W.cell? ⟨b, 14, none⟩ = some (.int .u16 x.c.n) ∧ W.cell? ⟨b, 15, none⟩ = some (.int .i64 x.w) :=
  ⟨h.at 0 _ rfl, h.at 1 _ rfl, h.at 2 _ rfl, h.at 3 _ rfl, h.at 4 _ rfl, h.at 5 _ rfl, h.at 6 _ rfl, h.at 7 _ rfl, h.at 8 _ rfl, h.at 9 _ rfl, h.at 10 _ rfl, h.at 11 _ rfl, h.at 12 _ rfl, h.at 13 _ rfl, h.at 14 _ rfl, h.at 15 _ rfl⟩
theorem loadSat {W : World} {b : Nat} {x : Sd} (h : Bx W b (scs x)) : (Instr.loadAt 36 (.pointer (some ⟨b, 0, none⟩))).run Try.prog W = .ok (.agg #[.int .u16 x.a.p, .int .u16 x.a.c, .int .u8 x.a.l, .bool x.a.h, .int .u16 x.a.n, .int .u16 x.b.p, .int .u16 x.b.c, .int .u8 x.b.l, .bool x.b.h, .int .u16 x.b.n, .int .u16 x.c.p, .int .u16 x.c.c, .int .u8 x.c.l, .bool x.c.h, .int .u16 x.c.n, .int .i64 x.w]) W :=
  run_loadAt_mid W b 0 36 _ _ h.c Try.underlying36 rfl info_sound
theorem there16 {W : World} {b : Nat} (h : Bx W b zs) : W.there b 0 16 := h.there 0 16 (by simp)
theorem all16 (x : Sd) : (#[.int .u16 x.a.p, .int .u16 x.a.c, .int .u8 x.a.l, .bool x.a.h, .int .u16 x.a.n, .int .u16 x.b.p, .int .u16 x.b.c, .int .u8 x.b.l, .bool x.b.h, .int .u16 x.b.n, .int .u16 x.c.p, .int .u16 x.c.c, .int .u8 x.c.l, .bool x.c.h, .int .u16 x.c.n, .int .i64 x.w] : Array Value).all (·.oneCell') = true := by simp [Value.oneCell']
end Go.Proofs.Ythooknikfachnaa
