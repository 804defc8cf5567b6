/-
  Parts of a proof, joined.
-/
import Derived.Test.YtlibaekomndmoaaSb03
namespace Go.Proofs.Ytlibaekomndmoaa
open Go.ChangeShapes Go.WideShapes Go.ChangeAt Go.RowKit
set_option linter.unusedVariables false
set_option maxRecDepth 100000
theorem Bu.high_n (g o : Nat) (w : World) : Calls Try.prog 43 #[pt g o] w fun e w' => e = .returned (fval 68 #[pt w.heap.size 0]) ∧ w' = w.alloc (.cells #[pt g o] 111) := by
  go_enter Try.func43, Try.ntmps43
  go_wp2
  go_ret
  exact ⟨rfl, rfl⟩
theorem Bu.low_n (g o : Nat) (w : World) : Calls Try.prog 44 #[pt g o] w fun e w' => e = .returned (fval 70 #[pt w.heap.size 0]) ∧ w' = w.alloc (.cells #[pt g o] 111) := by
  go_enter Try.func44, Try.ntmps44
  go_wp2
  go_ret
  exact ⟨rfl, rfl⟩
theorem Bu.pad_n (g : Nat) (i : Int) (w : World) : Calls Try.prog 41 #[pt g 0, .int .i64 i] w fun e w' => e = .returned (fval 65 #[pt w.heap.size 0, pt (w.heap.size + 1) 0]) ∧ w' = (w.alloc (.cells #[pt g 0] 78)).alloc (.cells #[.int .i64 i] 3) := by
  go_enter Try.func41, Try.ntmps41
  go_wp2
  go_ret
  exact ⟨rfl, rfl⟩
theorem Bu.sound_n (g : Nat) (i : Int) (w : World) : Calls Try.prog 58 #[pt g 0, .int .i64 i] w fun e w' => e = .returned (fval 74 #[pt w.heap.size 0, pt (w.heap.size + 1) 0]) ∧ w' = (w.alloc (.cells #[pt g 0] 78)).alloc (.cells #[.int .i64 i] 3) := by
  go_enter Try.func58, Try.ntmps58
  go_wp2
  go_ret
  exact ⟨rfl, rfl⟩
theorem info_ports : (Try.prog.info? 94).map (·.size) = some 64 := by kernel_rfl
end Go.Proofs.Ytlibaekomndmoaa
