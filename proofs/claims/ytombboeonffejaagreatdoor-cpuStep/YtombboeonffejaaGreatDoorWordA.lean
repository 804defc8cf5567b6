/-
  What Add, Sub, Mul of package word, and the closed fact 'reckoned', answer, for any words: the sums of the text Math; nothing is written.
-/
import Derived.Test.YtombboeonffejaaGreatDoorRows
import Derived.Test.YtombboeonffejaaGreatDoorMath
import Derived.WalkKit
import Derived.ProofKit
import Derived.OpenShut
import Derived.WalkSpells
import Derived.Test.YtombboeonffejaaGreatDoorOrdA
namespace Go.Proofs.YtombboeonffejaaGreatDoor
open Go.ChangeShapes Go.WideShapes Go.ChangeAt Go.RowKit
set_option linter.unusedVariables false

theorem ret_i {k : IntKind} {a a' : Int} (h : a = a') : Ending.returned (.int k a) = .returned (.int k a') := by rw [h]
theorem ret_ib {k : IntKind} {a a' : Int} {b b' : Bool} (h : a = a') (h1 : b = b') : Ending.returned (.tuple #[.int k a, .bool b]) = .returned (.tuple #[.int k a', .bool b']) := by rw [h, h1]
theorem ret_ii {k l : IntKind} {a a' b b' : Int} (h : a = a') (h1 : b = b') : Ending.returned (.tuple #[.int k a, .int l b]) = .returned (.tuple #[.int k a', .int l b']) := by rw [h, h1]
theorem ret_ibb {k : IntKind} {a a' : Int} {b b' c c' : Bool} (h : a = a') (h1 : b = b') (h2 : c = c') : Ending.returned (.tuple #[.int k a, .bool b, .bool c]) = .returned (.tuple #[.int k a', .bool b', .bool c']) := by rw [h, h1, h2]
theorem ret_ibi {k l : IntKind} {a a' c c' : Int} {b b' : Bool} (h : a = a') (h1 : b = b') (h2 : c = c') : Ending.returned (.tuple #[.int k a, .bool b, .int l c]) = .returned (.tuple #[.int k a', .bool b', .int l c']) := by rw [h, h1, h2]

theorem add_any (a b : Int) (w : World) (ha : 0 ≤ a) (ha' : a ≤ 65535) (hb : 0 ≤ b) (hb' : b ≤ 65535) :
    Calls Tryz.prog 140 #[.int .u16 a, .int .u16 b] w fun e w' => e = .returned (.tuple #[.int .u16 (M.addN a b), .bool (M.addC a b), .bool (M.addV a b)]) ∧ w' = w := by
  go_enter Tryz.func140, Tryz.ntmps140
  go_wp2
  go_ret3
  exact ⟨ret_ibb (IntKind.wrap_u16 _) (M.carry_add a b ha ha' hb hb') (M.over_add a b ha ha' hb hb'), rfl⟩
theorem sub_any (a b : Int) (w : World) (ha : 0 ≤ a) (ha' : a ≤ 65535) (hb : 0 ≤ b) (hb' : b ≤ 65535) :
    Calls Tryz.prog 141 #[.int .u16 a, .int .u16 b] w fun e w' => e = .returned (.tuple #[.int .u16 (M.subN a b), .bool (M.subC a b), .bool (M.subV a b)]) ∧ w' = w := by
  go_enter Tryz.func141, Tryz.ntmps141
  go_wp2
  go_ret3
  exact ⟨ret_ibb (IntKind.wrap_u16 _) rfl (M.over_sub a b ha ha' hb hb'), rfl⟩
theorem mul_any (a b : Int) (w : World) (ha : 0 ≤ a) (ha' : a ≤ 65535) (hb : 0 ≤ b) (hb' : b ≤ 65535) :
    Calls Tryz.prog 147 #[.int .u16 a, .int .u16 b] w fun e w' => e = .returned (.tuple #[.int .u16 (M.mulN a b), .bool (M.mulC a b)]) ∧ w' = w := by
  have hm := M.mul_bd a b ha ha' hb hb'
  go_enter Tryz.func147, Tryz.ntmps147
  go_wp2
  go_ret2
  exact ⟨ret_ib (IntKind.wrap_u16 _) (M.mul_high _ hm.1), rfl⟩
end Go.Proofs.YtombboeonffejaaGreatDoor
