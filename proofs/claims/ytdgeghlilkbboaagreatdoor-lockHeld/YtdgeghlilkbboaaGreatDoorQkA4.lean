/-
  Parts of a proof, joined.
-/
import Derived.Test.YtdgeghlilkbboaaGreatDoorQkA1
import Derived.Test.YtdgeghlilkbboaaGreatDoorQkA2
import Derived.Test.YtdgeghlilkbboaaGreatDoorQkA3
namespace Go.Proofs.YtdgeghlilkbboaaGreatDoor
open Go.ChangeShapes Go.WideShapes Go.ChangeAt Go.RowKit
set_option linter.unusedVariables false
set_option maxRecDepth 100000
theorem put_any (s : Sd) (k : Nat) (b : Int) (w : World) (hk : k < 24) (h : s.ok) (hb : 0 ≤ b ∧ b ≤ 255) :
    Calls Tryz.prog 176 #[(.agg #[.int .u16 s.a.p, .int .u16 s.a.c, .int .u8 s.a.l, .bool s.a.h, .int .u16 s.a.n, .int .u16 s.b.p, .int .u16 s.b.c, .int .u8 s.b.l, .bool s.b.h, .int .u16 s.b.n, .int .u16 s.c.p, .int .u16 s.c.c, .int .u8 s.c.l, .bool s.c.h, .int .u16 s.c.n, .int .i64 s.w]), .int .i64 k, .int .u8 b] w fun e w' => e = .returned (.tuple #[(.agg #[.int .u16 (s.put k b).a.p, .int .u16 (s.put k b).a.c, .int .u8 (s.put k b).a.l, .bool (s.put k b).a.h, .int .u16 (s.put k b).a.n, .int .u16 (s.put k b).b.p, .int .u16 (s.put k b).b.c, .int .u8 (s.put k b).b.l, .bool (s.put k b).b.h, .int .u16 (s.put k b).b.n, .int .u16 (s.put k b).c.p, .int .u16 (s.put k b).c.c, .int .u8 (s.put k b).c.l, .bool (s.put k b).c.h, .int .u16 (s.put k b).c.n, .int .i64 (s.put k b).w]), .int .i64 0]) ∧ Below w.heap.size w w' := by
  have hc : k = 0 ∨ k = 1 ∨ k = 2 ∨ k = 3 ∨ k = 4 ∨ k = 5 ∨ k = 6 ∨ k = 7 ∨ k = 8 ∨ k = 9 ∨ k = 10 ∨ k = 11 ∨ k = 12 ∨ k = 13 ∨ k = 14 ∨ k = 15 ∨ k = 16 ∨ k = 17 ∨ k = 18 ∨ k = 19 ∨ k = 20 ∨ k = 21 ∨ k = 22 ∨ k = 23 := by omega
  rcases hc with rfl | rfl | rfl | rfl | rfl | rfl | rfl | rfl | rfl | rfl | rfl | rfl | rfl | rfl | rfl | rfl | rfl | rfl | rfl | rfl | rfl | rfl | rfl | rfl
  · exact put_0 s b w h hb
  · exact put_1 s b w h hb
  · exact put_2 s b w h hb
  · exact put_3 s b w h hb
  · exact put_4 s b w h hb
  · exact put_5 s b w h hb
  · exact put_6 s b w h hb
  · exact put_7 s b w h hb
  · exact put_8 s b w h hb
  · exact put_9 s b w h hb
  · exact put_10 s b w h hb
  · exact put_11 s b w h hb
  · exact put_12 s b w h hb
  · exact put_13 s b w h hb
  · exact put_14 s b w h hb
  · exact put_15 s b w h hb
  · exact put_16 s b w h hb
  · exact put_17 s b w h hb
  · exact put_18 s b w h hb
  · exact put_19 s b w h hb
  · exact put_20 s b w h hb
  · exact put_21 s b w h hb
  · exact put_22 s b w h hb
  · exact put_23 s b w h hb
end Go.Proofs.YtdgeghlilkbboaaGreatDoor
