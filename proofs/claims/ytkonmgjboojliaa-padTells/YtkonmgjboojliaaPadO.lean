/-
  A pad that came in is two bytes and a bit.
-/
import Derived.Test.YtkonmgjboojliaaPadA
namespace Go.Proofs.Ytkonmgjboojliaa
open Go.ChangeShapes Go.WideShapes Go.ChangeAt Go.RowKit
set_option linter.unusedVariables false

set_option maxRecDepth 100000 in
theorem open_pad {H : Type} {enc : TypeId × Value → H} {w : World} {base : Nat} {spare : Nat → Bool} {held : Bool} {r : Reach} {b0 : Nat} {v : Value} {d : DataW H} {p : List MemPlace}
    (hv : Value.okWide Try.prog w r b0 23 v) (h : DataW.Trod enc Try.prog w base spare held 23 v d p) :
    ∃ (dn s : Int) (l : Bool), v = .agg #[.int .u8 dn, .bool l, .int .u8 s] ∧ (0 ≤ dn ∧ dn ≤ 255) ∧ (0 ≤ s ∧ s ≤ 255) := by
  obtain ⟨v0, v1, v2, y0, y1, y2, k, rfl, _, h0, h1, h2⟩ := open_agg3 Try.underlying23 (by kernel_rfl) (by kernel_rfl) hv h
  obtain ⟨a0, e0, _, w0⟩ := DataW.trod_int Try.underlying5 h0
  obtain ⟨a1, e1, _⟩ := DataW.trod_bool Try.underlying4 h1
  obtain ⟨a2, e2, _, w2⟩ := DataW.trod_int Try.underlying5 h2
  simp only [List.cons.injEq, and_true] at e0 e1 e2
  subst e0 e1 e2
  exact ⟨a0, a2, a1, rfl, bounds_u8 w0, bounds_u8 w2⟩
end Go.Proofs.Ytkonmgjboojliaa
