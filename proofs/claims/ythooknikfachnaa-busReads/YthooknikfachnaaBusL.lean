/-
  Package bus: a reach, and a processor that begins by it.
-/
import Derived.Test.YthooknikfachnaaBusH
namespace Go.Proofs.Ythooknikfachnaa
open Go.ChangeShapes Go.WideShapes Go.ChangeAt Go.RowKit
set_option linter.unusedVariables false
set_option maxRecDepth 100000

section
variable {F : Fx} {W : World} {M M' : Mach} {tk : Tk}
theorem Bu.fn_r (n : Nat) (a b : Array Value) (w : World) : (binOp .eql 60 (.func (.func n) a b) .nilFunc).run Try.prog w = .ok (.bool false) w := by kernel_rfl
abbrev reachV (g o : Nat) : Value := .agg #[mval 50 g o, mval 51 g o]
theorem Bu.main_any (g : Nat) (w : World) : Calls Try.prog 23 #[pt g 0] w fun e w' => e = .returned (reachV g 77) ∧ Below w.heap.size w w' := by
  go_enter Try.func23, Try.ntmps23
  go_wp2
  go_region_with fail
  all_goals go_wp2
  all_goals
    refine bodyPost_ret (v := .agg _) (by simp [results, Try.results23, go_sem]) rfl ⟨rfl, ?_⟩
    exact (stA (st0 _) _).drew
theorem Bu.aux_any (g : Nat) (w : World) : Calls Try.prog 54 #[pt g 0] w fun e w' => e = .returned (reachV g 143) ∧ Below w.heap.size w w' := by
  go_enter Try.func54, Try.ntmps54
  go_wp2
  go_region_with fail
  all_goals go_wp2
  all_goals
    refine bodyPost_ret (v := .agg _) (by simp [results, Try.results54, go_sem]) rfl ⟨rfl, ?_⟩
    exact (stA (st0 _) _).drew
theorem Bu.reach_m (g : Nat) (w : World) : Calls Try.prog 30 #[pt g 0, .bool false] w fun e w' => e = .returned (reachV g 77) ∧ Below w.heap.size w w' := by
  go_enter Try.func30, Try.ntmps30
  go_wp2_with (go_at_call 23; refine (Bu.main_any g _).mono ?_; rintro e w1 ⟨rfl, hb1⟩; obtain ⟨k1, f1⟩ := bcell hb1; have z1 : w.heap.size < w1.heap.size := Nat.lt_of_lt_of_le (by simp) hb1.size)
  refine bodyPost_ret (v := .agg _) (by simp [results, Try.results30, go_sem, *]) rfl ⟨rfl, ?_⟩
  exact ((stp (stA (st0 _) _) hb1).setCell (Nat.le_refl _) _).setCell (Nat.le_refl _) _
theorem Bu.reach_a (g : Nat) (w : World) : Calls Try.prog 30 #[pt g 0, .bool true] w fun e w' => e = .returned (reachV g 143) ∧ Below w.heap.size w w' := by
  go_enter Try.func30, Try.ntmps30
  go_wp2_with (go_at_call 54; refine (Bu.aux_any g _).mono ?_; rintro e w1 ⟨rfl, hb1⟩; obtain ⟨k1, f1⟩ := bcell hb1; have z1 : w.heap.size < w1.heap.size := Nat.lt_of_lt_of_le (by simp) hb1.size)
  refine bodyPost_ret (v := .agg _) (by simp [results, Try.results30, go_sem, *]) rfl ⟨rfl, ?_⟩
  exact ((stp (stA (st0 _) _) hb1).setCell (Nat.le_refl _) _).setCell (Nat.le_refl _) _
/-- What a side reads at a place, the machine being as it was. -/
def ReadsAt (F : Fx) (M : Mach) (tk : Tk) (o : Nat) (a x : Int) : Prop := ∀ W, Bd F W M tk → Calls Try.prog 50 #[pt F.g o, .int .u16 a] W fun e w' => e = .returned (.int .u8 x) ∧ Bd F w' M tk ∧ Bt F W w'
theorem Bu.byte_at (h : Bd F W M tk) (o : Nat) (a x : Int) (hr : ReadsAt F M tk o a x) : Calls Try.prog 75 #[reachV F.g o, .int .u16 a] W fun e w' => e = .returned (.int .u8 x) ∧ Bd F w' M tk ∧ Bt F W w' := by
  have hn := Bu.fn_r 50 #[pt F.g o] #[]
  have H := hid h
  clear h
  go_enter Try.func75, Try.ntmps75
  go_wp2_with (go_at_call 50; refine (hr _ (H.out.over _)).mono ?_; rintro e w1 ⟨rfl, hB1, hT1⟩)
  go_ret
  exact ⟨rfl, hB1, Mv.trans (Mv.of_below H.out.big (stA (st0 _) _)) hT1⟩
end
end Go.Proofs.Ythooknikfachnaa
