/-
  Package bus: a processor that begins; the other processor, held and let go.
-/
import Derived.Test.YthooknikfachnaaBusL
import Derived.Test.YthooknikfachnaaBusE
namespace Go.Proofs.Ythooknikfachnaa
open Go.ChangeShapes Go.WideShapes Go.ChangeAt Go.RowKit
set_option linter.unusedVariables false
set_option maxRecDepth 100000

section
variable {F : Fx} {W : World} {M M' : Mach} {tk : Tk}
/-- A board's blocks are there. -/
theorem Bd.fresh (h : Bd F W M tk) (ht : F.T W.heap.size) : False := by
  have h1 := h.bx.z
  obtain ⟨_, _, _, h2⟩ := h.ramV
  obtain ⟨_, _, _, h3⟩ := h.ownV
  obtain ⟨_, _, _, h4⟩ := h.viV
  have h2 := h2.z
  have h3 := h3.z
  have h4 := h4.z
  rcases ht with e | e | e | e <;> omega
theorem Bu.word_at (h : Bd F W M tk) (o : Nat) (x0 x1 : Int) (h0 : ReadsAt F M tk o 0 x0) (h1 : ReadsAt F M tk o 1 x1) (b0 : 0 ≤ x0 ∧ x0 ≤ 255) (b1 : 0 ≤ x1 ∧ x1 ≤ 255) :
    Calls Try.prog 49 #[reachV F.g o, .int .u16 0] W fun e w' => e = .returned (.int .u16 (x0 * 256 + x1)) ∧ Bd F w' M tk ∧ Bt F W w' := by
  have H := hid h
  have hB := h.big
  clear h
  go_enter Try.func49, Try.ntmps49
  go_wp2_with (first
    | (go_at_call 76; refine (of_any x0 x1 _ b0 b1).mono ?_; rintro e w3 ⟨rfl, rfl⟩)
    | (go_at_call 75; refine (Bu.byte_at HB1.out o 1 x1 h1).mono ?_; rintro e w2 ⟨rfl, hB2, hT2⟩)
    | (go_at_call 75; refine (Bu.byte_at (H.out.over _) o 0 x0 h0).mono ?_; rintro e w1 ⟨rfl, hB1, hT1⟩; have HB1 := hid hB1; have hc := fun i => hT1.cell (k := W.heap.size) (by simp) (fun ht => H.out.fresh ht) i; have z1 : W.heap.size < w1.heap.size := Nat.lt_of_lt_of_le (by simp) hT1.size))
  go_ret
  exact ⟨rfl, hB2, Mv.trans (Mv.trans (Mv.of_below hB (stA (st0 _) _)) hT1) hT2⟩
end
end Go.Proofs.Ythooknikfachnaa
