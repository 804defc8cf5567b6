/-
  A box: a block whose first cells are these.
-/
import Derived.Test.YtbfflipcmciapaaDoorPlain
import Derived.Laws.EntriesVeiled
namespace Go.Proofs.YtbfflipcmciapaaDoor
open Go.ChangeShapes Go.WideShapes Go.ChangeAt Go.RowKit
set_option linter.unusedVariables false
set_option maxRecDepth 100000

/-- These cells lie in a block, from its start on, and may be written. -/
structure Bx (W : World) (b : Nat) (L : List Value) : Prop where
  z : b < W.heap.size
  c : W.rangeAt b 0 L
  f : ∀ o, W.frozen? ⟨b, o, none⟩ = false
section
variable {W w1 : World} {b : Nat} {L : List Value}
theorem Bx.at (h : Bx W b L) (i : Nat) (v : Value) (e : L[i]? = some v) : W.cell? ⟨b, i, none⟩ = some v := by have := h.c i v e; rwa [Nat.zero_add] at this
theorem Bx.kept (h : Bx W b L) (hb : Below W.heap.size W w1) : Bx w1 b L :=
  ⟨Nat.lt_of_lt_of_le h.z hb.size, fun j v hj => (hb.cell (p := ⟨b, 0 + j, none⟩) h.z).trans (h.c j v hj), fun o => (hb.frozen (p := ⟨b, o, none⟩) h.z).trans (h.f o)⟩
theorem Bx.under {n : Nat} (h : Bx W b L) (hb : Below n W w1) (hn : b < n) : Bx w1 b L :=
  ⟨Nat.lt_of_lt_of_le h.z hb.size, fun j v hj => (hb.cell (p := ⟨b, 0 + j, none⟩) hn).trans (h.c j v hj), fun o => (hb.frozen (p := ⟨b, o, none⟩) hn).trans (h.f o)⟩
theorem Bx.over (h : Bx W b L) (o : Obj) : Bx (W.alloc o) b L := h.kept (stA (st0 W) o)
theorem Bx.drew (h : Bx W b L) : Bx W.drew b L := ⟨h.z, h.c, h.f⟩
theorem Bx.new (W : World) (L : List Value) (t : TypeId) {b : Nat} (hb : b = W.heap.size) : Bx (W.alloc (.cells L.toArray t)) b L := by
  subst hb
  exact ⟨by simp, fun j v hj => (Pl.new _ _ _ _ rfl).trans (by rw [Nat.zero_add]; simpa using hj), fun o => Lib.frozen_of_heap (heap_alloc_new W _) o⟩
theorem Bx.far (h : Bx W b L) {b' o' : Nat} (hne : b' ≠ b) (v : Value) : Bx (W.setCell ⟨b', o', none⟩ v) b L :=
  ⟨by simpa using h.z, fun j x hj => (World.cell?_setCell_far W _ _ v hne).trans (h.c j x hj), fun o => by simpa using h.f o⟩
theorem Bx.set (h : Bx W b L) (i : Nat) (v : Value) (hi : i < L.length) : Bx (W.setCell ⟨b, i, none⟩ v) b (L.set i v) := by
  refine ⟨by simpa using h.z, fun j x hj => ?_, fun o => by simpa using h.f o⟩
  rw [Nat.zero_add]
  by_cases e : i = j
  · subst e
    rw [List.getElem?_set_self hi] at hj
    have hs : (W.cell? ⟨b, i, none⟩).isSome := by rw [h.at i _ (List.getElem?_eq_getElem hi)]; rfl
    rw [← hj]
    exact World.cell?_setCell_same' _ _ _ hs
  · rw [List.getElem?_set_ne e] at hj
    exact (World.cell?_setCell_other _ _ _ _ (by intro x; exact e (congrArg Addr.off x))).trans (h.at j x hj)
/-- Cells of it are written. -/
def putL (L : List Value) (o : Nat) : List Value → List Value
  | [] => L
  | v :: vs => putL (L.set o v) (o + 1) vs
theorem puts_len (L : List Value) (o : Nat) (vs : List Value) : (putL L o vs).length = L.length := by
  induction vs generalizing L o with
  | nil => rfl
  | cons v vs ih => rw [putL, ih]; simp
theorem Bx.puts (h : Bx W b L) (o : Nat) (vs : List Value) (hl : o + vs.length ≤ L.length) : Bx (W.setCells b o vs) b (putL L o vs) := by
  induction vs generalizing W L o with
  | nil => exact h
  | cons v vs ih =>
    simp only [List.length_cons] at hl
    exact ih (h.set o v (by omega)) (o + 1) (by simp; omega)
theorem Bx.fars (h : Bx W b L) {b' : Nat} (hne : b' ≠ b) (o : Nat) (vs : List Value) : Bx (W.setCells b' o vs) b L := by
  induction vs generalizing W o with
  | nil => exact h
  | cons v vs ih => exact ih (h.far hne v) (o + 1)
theorem Bx.mid (h : Bx W b L) (o n : Nat) : W.rangeAt b o ((L.drop o).take n) := fun j v hj => by
  have hj' : (L.drop o)[j]? = some v := by
    rw [List.getElem?_take] at hj
    split at hj
    · exact hj
    · cases hj
  rw [List.getElem?_drop] at hj'
  exact h.at (o + j) v hj'
theorem Bx.there (h : Bx W b L) (o n : Nat) (hl : o + n ≤ L.length) : W.there b o n := fun j hj => by
  refine ⟨?_, h.f _⟩
  rw [h.at (o + j) _ (List.getElem?_eq_getElem (by omega))]
  rfl
end
theorem Bl.set {w W : World} {b o : Nat} (h : Below w.heap.size w W) (hb : w.heap.size ≤ b) (v : Value) : Below w.heap.size w (W.setCell ⟨b, o, none⟩ v) := h.setCell hb v
theorem Bl.puts {w W : World} {b o : Nat} (h : Below w.heap.size w W) (hb : w.heap.size ≤ b) (vs : List Value) : Below w.heap.size w (W.setCells b o vs) := Pl.below hb vs o W h
theorem Pl.cutL {P : Program} {ops : Array Oper} {rest : List Oper} {Q : Exit → Act → World → Prop} {a : Act} {w : World} (K : World → Prop) (h : K w) (k : ∀ w', K w' → wpList P ops Q rest a w') : wpList P ops Q rest a w := k w h
theorem Pl.cutE {F : Exit → Act → World → Prop} {e : Exit} {a : Act} {w : World} (K : World → Prop) (h : K w) (k : ∀ w', K w' → F e a w') : F e a w := k w h
theorem Bl.drewN {B : Nat} {a w : World} (h : Below B a w) (n : Nat) : Below B a (w.drewN n) := h.trans ⟨rfl, rfl, rfl, Nat.le_refl _, fun _ _ => rfl⟩
end Go.Proofs.YtbfflipcmciapaaDoor
