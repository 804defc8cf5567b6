/-
  Package bus: the pieces that ports are made of.
-/
import Derived.Test.YthooknikfachnaaBusW
namespace Go.Proofs.Ythooknikfachnaa
open Go.ChangeShapes Go.WideShapes Go.ChangeAt Go.RowKit
set_option linter.unusedVariables false
set_option maxRecDepth 100000

theorem Bu.high_n (g o : Nat) (w : World) : Calls Try.prog 59 #[pt g o] w fun e w' => e = .returned (fval 84 #[pt w.heap.size 0]) ∧ w' = w.alloc (.cells #[pt g o] 114) := by
  go_enter Try.func59, Try.ntmps59
  go_wp2
  go_ret
  exact ⟨rfl, rfl⟩
theorem Bu.low_n (g o : Nat) (w : World) : Calls Try.prog 60 #[pt g o] w fun e w' => e = .returned (fval 86 #[pt w.heap.size 0]) ∧ w' = w.alloc (.cells #[pt g o] 114) := by
  go_enter Try.func60, Try.ntmps60
  go_wp2
  go_ret
  exact ⟨rfl, rfl⟩
theorem Bu.pad_n (g : Nat) (i : Int) (w : World) : Calls Try.prog 57 #[pt g 0, .int .i64 i] w fun e w' => e = .returned (fval 81 #[pt w.heap.size 0, pt (w.heap.size + 1) 0]) ∧ w' = (w.alloc (.cells #[pt g 0] 68)).alloc (.cells #[.int .i64 i] 3) := by
  go_enter Try.func57, Try.ntmps57
  go_wp2
  go_ret
  exact ⟨rfl, rfl⟩
theorem Bu.sound_n (g : Nat) (i : Int) (w : World) : Calls Try.prog 74 #[pt g 0, .int .i64 i] w fun e w' => e = .returned (fval 89 #[pt w.heap.size 0, pt (w.heap.size + 1) 0]) ∧ w' = (w.alloc (.cells #[pt g 0] 68)).alloc (.cells #[.int .i64 i] 3) := by
  go_enter Try.func74, Try.ntmps74
  go_wp2
  go_ret
  exact ⟨rfl, rfl⟩
theorem info_ports : (Try.prog.info? 81).map (·.size) = some 64 := by kernel_rfl
end Go.Proofs.Ythooknikfachnaa
