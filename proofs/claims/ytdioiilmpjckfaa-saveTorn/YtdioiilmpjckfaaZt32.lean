/-
  Parts of a proof, joined.
-/
import Derived.Test.YtdioiilmpjckfaaZt01
namespace Go.Proofs.Ytdioiilmpjckfaa
open Go.ChangeShapes Go.WideShapes Go.ChangeAt Go.RowKit
set_option linter.unusedVariables false
set_option maxRecDepth 100000
theorem fld {H : Type} {enc : TypeId × Value → H} {P : Program} {w : World} {base : Nat} {spare : Nat → Bool} {held : Bool} {n i o : Nat} {ty : TypeId} {cs : List Value} {xs : List (DataW H × List MemPlace)}
    (h : DataW.trod enc P w base spare held n ty ((cs.drop o).take (P.cellsOf ty)) = xs[i]?) (hi : i < xs.length) (hc : P.cellsOf ty = 1) {v : Value} (hv : cs[o]? = some v) : ∃ y, DataW.trod enc P w base spare held n ty [v] = some y := by
  rw [hc, List.getElem?_eq_getElem hi] at h
  have e : (cs.drop o).take 1 = [v] := by
    rw [List.take_one, List.head?_drop, hv]
    rfl
  rw [e] at h
  exact ⟨_, h⟩
theorem fld_int {H : Type} {enc : TypeId × Value → H} {P : Program} {w : World} {base : Nat} {spare : Nat → Bool} {held : Bool} {n i o : Nat} {ty : TypeId} {cs : List Value} {xs : List (DataW H × List MemPlace)} {k : IntKind}
    (h : DataW.trod enc P w base spare held n ty ((cs.drop o).take (P.cellsOf ty)) = xs[i]?) (hi : i < xs.length) (hc : P.cellsOf ty = 1) (ht : P.underlying ty = some (.int k)) {v : Value} (hv : cs[o]? = some v) : ∃ a : Int, v = .int k a ∧ (Lit.int k a).wf = true := by
  obtain ⟨y, hy⟩ := fld h hi hc hv
  obtain ⟨a, e, _, hw⟩ := DataW.trod_int ht hy
  simp only [List.cons.injEq, and_true] at e
  exact ⟨a, e, hw⟩
theorem fld_bool {H : Type} {enc : TypeId × Value → H} {P : Program} {w : World} {base : Nat} {spare : Nat → Bool} {held : Bool} {n i o : Nat} {ty : TypeId} {cs : List Value} {xs : List (DataW H × List MemPlace)}
    (h : DataW.trod enc P w base spare held n ty ((cs.drop o).take (P.cellsOf ty)) = xs[i]?) (hi : i < xs.length) (hc : P.cellsOf ty = 1) (ht : P.underlying ty = some .bool) {v : Value} (hv : cs[o]? = some v) : ∃ a : Bool, v = .bool a := by
  obtain ⟨y, hy⟩ := fld h hi hc hv
  obtain ⟨a, e, _⟩ := DataW.trod_bool ht hy
  simp only [List.cons.injEq, and_true] at e
  exact ⟨a, e⟩
theorem trod_voice {H : Type} {enc : TypeId × Value → H} {w : World} {base : Nat} {spare : Nat → Bool} {held : Bool} {m : Nat} {c0 c1 c2 c3 c4 : Value} {x : DataW H × List MemPlace} (h : DataW.trod enc Try.prog w base spare held m 33 [c0, c1, c2, c3, c4] = some x) :
    ∃ v : Vc, [c0, c1, c2, c3, c4] = vcs v ∧ v.ok := by
  have hU : Try.prog.cellsOf 22 = 1 := by kernel_rfl
  have hB : Try.prog.cellsOf 4 = 1 := by kernel_rfl
  have hE : Try.prog.cellsOf 5 = 1 := by kernel_rfl
  obtain ⟨xs, n, _, _, _, hlen, hfs⟩ := DataW.trod_struct Try.underlying33 h
  have hl5 : xs.length = 5 := hlen
  obtain ⟨a0, rfl, w0⟩ := fld_int (ty := 22) (o := 0) (v := c0) (hfs 0 _ rfl) (by omega) hU Try.underlying22 rfl
  obtain ⟨a1, rfl, w1⟩ := fld_int (ty := 22) (o := 1) (v := c1) (hfs 1 _ rfl) (by omega) hU Try.underlying22 rfl
  obtain ⟨a2, rfl, w2⟩ := fld_int (ty := 5) (o := 2) (v := c2) (hfs 2 _ rfl) (by omega) hE Try.underlying5 rfl
  obtain ⟨b3, rfl⟩ := fld_bool (ty := 4) (o := 3) (v := c3) (hfs 3 _ rfl) (by omega) hB Try.underlying4 rfl
  obtain ⟨a4, rfl, w4⟩ := fld_int (ty := 22) (o := 4) (v := c4) (hfs 4 _ rfl) (by omega) hU Try.underlying22 rfl
  exact ⟨⟨a0, a1, a2, b3, a4⟩, rfl, bounds_u16 w0, bounds_u16 w1, bounds_u8 w2, bounds_u16 w4⟩
end Go.Proofs.Ytdioiilmpjckfaa
