/-
  Samples where something is wrong; the closed fact on sounds.
-/
import Derived.Test.YthooknikfachnaaTonE
import Derived.Test.YthooknikfachnaaTonK
import Derived.Test.YthooknikfachnaaTonH
namespace Go.Proofs.Ythooknikfachnaa
open Go.ChangeShapes Go.WideShapes Go.ChangeAt Go.RowKit
set_option linter.unusedVariables false
set_option maxRecDepth 100000

theorem allZ : (#[.int .u16 0, .int .u16 0, .int .u8 0, .bool false, .int .u16 0, .int .u16 0, .int .u16 0, .int .u8 0, .bool false, .int .u16 0, .int .u16 0, .int .u16 0, .int .u8 0, .bool false, .int .u16 0, .int .i64 0] : Array Value).all (·.oneCell') = true := by simp [Value.oneCell']
theorem loadZ {W : World} {b : Nat} (h : Bx W b zs) : (loadVar 36 ⟨b, 0, none⟩).run Try.prog W = .ok (.agg #[.int .u16 0, .int .u16 0, .int .u8 0, .bool false, .int .u16 0, .int .u16 0, .int .u16 0, .int .u8 0, .bool false, .int .u16 0, .int .u16 0, .int .u16 0, .int .u8 0, .bool false, .int .u16 0, .int .i64 0]) W :=
  run_loadVar_mid W b 0 36 _ _ h.c Try.underlying36 rfl info_sound
/-- The closed fact's sound. -/
def sd0 : Sd := ⟨⟨15, 15, 5, false, 0⟩, ⟨0, 0, 0, false, 0⟩, ⟨0, 0, 0, false, 0⟩, 0⟩
theorem sd0_fit : sd0.fit := ⟨⟨⟨by decide, by decide, by decide, by decide⟩, ⟨by decide, by decide, by decide, by decide⟩, ⟨by decide, by decide, by decide, by decide⟩⟩, by decide⟩
theorem sd0_sms : sms sd0 33 = [0, 5, 0] := by decide
theorem sd0_w : (sd0.ticks 33).w = 15 := by decide
theorem slice050 (w1 : World) (o : Obj) : sliceAt ((w1.alloc o).alloc (.cells #[.int .u8 0, .int .u8 5, .int .u8 0] 5)) (.slice (some ⟨w1.heap.size + 1, 0, none⟩) 3 3) [0, 5, 0] := by
  refine Or.inr ⟨w1.heap.size + 1, 0, 3, rfl, Nat.le_refl _, by simp, fun j c hj => ?_⟩
  have e := fun k => Pl.new (w1.alloc o) #[.int .u8 0, .int .u8 5, .int .u8 0] 5 (w1.heap.size + 1) (by simp) (k := k)
  rw [Nat.zero_add, e]
  match j, hj with
  | 0, hj => simp at hj; subst hj; rfl
  | 1, hj => simp at hj; subst hj; rfl
  | 2, hj => simp at hj; subst hj; rfl
end Go.Proofs.Ythooknikfachnaa
