/-
  What the library's Grow answers of nil: a new row of no byte, with room.
-/
import Derived.Test.YtknhnfpjghaopaaGreatDoorAsmV
import Derived.Shelf.Spec.SlicesGrow
namespace Go.Proofs.YtknhnfpjghaopaaGreatDoor
open Go.ChangeShapes Go.WideShapes Go.ChangeAt Go.RowKit
set_option linter.unusedVariables false

def growRen : Go.Shelf.Ren := ⟨fun | 4 => 35 | n => n, fun | 0 => 0 | 3 => 3 | 4 => 4 | 9 => 9 | 20 => 20 | 22 => 22 | 25 => 5 | n => n, fun | n => n⟩
theorem growLays : Go.Proofs.Lays8.n4 Tryz.prog growRen := {
  mixed := by kernel_rfl
  f4 := ⟨Tryz.f35.name, by kernel_rfl, Tryz.func35.trans (congrArg some (by kernel_rfl))⟩
  t0 := Tryz.underlying0
  a0 := Tryz.isAgg0
  z0 := Tryz.sizeOf0
  v0 := Tryz.zeroValue0
  t3 := Tryz.underlying3
  a3 := Tryz.isAgg3
  z3 := Tryz.sizeOf3
  v3 := Tryz.zeroValue3
  t4 := Tryz.underlying4
  a4 := Tryz.isAgg4
  z4 := Tryz.sizeOf4
  v4 := Tryz.zeroValue4
  t9 := Tryz.underlying9
  a9 := Tryz.isAgg9
  z9 := Tryz.sizeOf9
  v9 := Tryz.zeroValue9
  t20 := Tryz.underlying20
  a20 := Tryz.isAgg20
  z20 := Tryz.sizeOf20
  v20 := Tryz.zeroValue20
  t22 := Tryz.underlying22
  a22 := Tryz.isAgg22
  z22 := Tryz.sizeOf22
  v22 := Tryz.zeroValue22 }
theorem grow_zero (w : World) : Calls Tryz.prog 35 #[.slice none 0 0, .int .i64 0] w fun e w' => e = .returned (.slice none 0 0) ∧ w' = w :=
  Any8.slices_Grow_room growLays none 0 0 0 w (by omega) (by omega) (by omega) (by omega)
theorem grow_some (n : Nat) (h0 : 0 < n) (h1 : n ≤ 1024) (w : World) : Calls Tryz.prog 35 #[.slice none 0 0, .int .i64 n] w fun e w' => ∃ cap, e = .returned (.slice (some ⟨w.heap.size, 0, none⟩) 0 cap) ∧ w'.ownsRow w.heap.size 5 1 (.slice (some ⟨w.heap.size, 0, none⟩) 0 cap) 0 [] ∧ Below w.heap.size w w' := by
  obtain ⟨i0, hi0, hz0, hz1, hz2⟩ := info_parts info_u8
  refine (Any8.slices_Grow_grow growLays i0 (.int .u8 0) hi0 hz0 (by omega) none 0 0 n [] w (by omega) (by omega) (by rw [hz2]; omega) (by omega) (by simp) (fun _ => rfl) (fun a h => by cases h)).mono fun e w' hh => ?_
  obtain ⟨he, hw⟩ := hh
  have hge := grownCap_ge w (0 + n) 0 (growRen.t 25)
  have hle := grownCap_le_maxLen w (0 + n) 0 (growRen.t 25) (by unfold maxLen; omega)
  refine ⟨_, he, ?_, ?_⟩
  · rw [hw]
    refine ⟨rfl, Or.inr ⟨w.heap.size, _, _, rfl, Nat.le_refl _, heap_alloc_new w.drew _, by omega, hle, ?_, by simp⟩⟩
    have e1 : (Value.int .u8 0).cells.size = 1 := rfl
    simp [Builtin.zeroCells, e1]
    simp only [Nat.zero_add] at hge
    omega
  · rw [hw]; exact stA (st0 w).drew _
end Go.Proofs.YtknhnfpjghaopaaGreatDoor
