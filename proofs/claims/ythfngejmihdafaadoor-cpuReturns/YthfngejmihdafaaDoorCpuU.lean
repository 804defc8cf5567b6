/-
  What package cpu's copyOf answers: a space in memory of its own.
-/
import Derived.Test.YthfngejmihdafaaDoorCpuT
namespace Go.Proofs.YthfngejmihdafaaDoor
open Go.ChangeShapes Go.WideShapes Go.ChangeAt Go.RowKit
set_option linter.unusedVariables false

theorem cop_set {B : Nat} {rom ram : List UInt8} {w : World} {vR vM : Value} (h : Cop B rom ram w vR vM) {k : Nat} (hk : k < B) (i : Nat) (u : Value) : Cop B rom ram (w.setCell ⟨k, i, none⟩ u) vR vM :=
  ⟨own_of_block h.1 (fun j hj => Below.heap_setCell _ _ _ _ (by have := (h.1.lt j hj).1; show j ≠ k; omega)), own_of_block h.2.1 (fun j hj => Below.heap_setCell _ _ _ _ (by have := (h.2.1.lt j hj).1; show j ≠ k; omega)), h.2.2⟩
theorem cop_mono {B B' : Nat} {rom ram : List UInt8} {w : World} {vR vM : Value} (h : Cop B rom ram w vR vM) (hb : B' ≤ B) : Cop B' rom ram w vR vM := ⟨own_mono h.1 hb, own_mono h.2.1 hb, h.2.2⟩
set_option maxRecDepth 100000 in
set_option maxHeartbeats 1600000 in
theorem copyOf_any (v1 v2 : Value) (rom ram : List UInt8) (w : World) (h1 : sliceAt w v1 rom) (h2 : sliceAt w v2 ram) (hl1 : rom.length ≤ 1024) (hl2 : ram.length ≤ 256) :
    Calls Tryd.prog 11 #[.agg #[v1, v2]] w fun e w' => ∃ vR vM, e = .returned (.agg #[vR, vM]) ∧ Cop w.heap.size rom ram w' vR vM ∧ Below w.heap.size w w' := by
  have H1 := hid (fun W (hb : Below w.heap.size w W) => clone_any v1 rom W (h1.kept hb) (by omega))
  have H2 := hid (fun W (hb : Below w.heap.size w W) => clone_any v2 ram W (h2.kept hb) (by omega))
  obtain ⟨a1, k1, x1⟩ := slice_len h1
  obtain ⟨a2, k2, x2⟩ := slice_len h2
  have HB := hid (stA (stA (st0 w) (.cells #[v1, v2] 24)) (.cells #[.slice none 0 0, .slice none 0 0] 24)).drew
  clear h1 h2
  subst x1 x2
  go_enter Tryd.func11, Tryd.ntmps11
  go_wp2
  go_region_with (first
    | (go_at_call_of 17 (Value.slice a1 rom.length k1); refine (H1.out _ ?_).mono ?_; (first | exact HBa.out | exact HB.out); rintro e wa ⟨va, rfl, hoa, hba⟩; obtain ⟨aa, ca, rfl⟩ := own_slice hoa; obtain ⟨ka, fa⟩ := bcell hba; have sa : w.heap.size + 1 < wa.heap.size := Nat.lt_of_lt_of_le (by first | exact sb | simp) hba.size; have HBb : Hid (Below w.heap.size w wa) := (by first | exact stp HBa.out hba | exact stp HB.out hba); have HOA := hid hoa; clear hoa)
    | (go_at_call_of 17 (Value.slice a2 ram.length k2); refine (H2.out _ ?_).mono ?_; (first | exact HBb.out | exact HB.out); rintro e wb ⟨vb, rfl, hob, hbb⟩; obtain ⟨ab, cb, rfl⟩ := own_slice hob; obtain ⟨kb, fb⟩ := bcell hbb; have sb : w.heap.size + 1 < wb.heap.size := Nat.lt_of_lt_of_le (by first | exact sa | simp) hbb.size; have HBa : Hid (Below w.heap.size w wb) := (by first | exact stp HBb.out hbb | exact stp HB.out hbb); have HOB := hid hob; clear hob))
  all_goals go_wp2
  all_goals
    refine bodyPost_ret (v := .agg #[.slice aa rom.length ca, .slice ab ram.length cb]) (by simp [results, Tryd.results11, go_sem, *]) rfl ⟨_, _, rfl, ?_, ?_⟩
    · refine cop_mono (B := w.heap.size + 2) (cop_set (cop_set ?_ (by omega) _ _) (by omega) _ _) (by omega)
      first
        | exact cop_ab HOA.out HOB.out hbb (by simp) hba.size
        | exact cop_ba HOB.out HOA.out hba (by simp) hbb.size
    · first
        | exact (HBa.out.setCell (by simp) _).setCell (by simp) _
        | exact (HBb.out.setCell (by simp) _).setCell (by simp) _
end Go.Proofs.YthfngejmihdafaaDoor
