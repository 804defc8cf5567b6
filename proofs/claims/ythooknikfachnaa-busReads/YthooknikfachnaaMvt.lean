/-
  Which blocks a call may touch.
-/
import Derived.Test.YthooknikfachnaaPlain
import Derived.Lib.Builder
namespace Go.Proofs.Ythooknikfachnaa
open Go.ChangeShapes Go.WideShapes Go.ChangeAt Go.RowKit
set_option linter.unusedVariables false
set_option maxRecDepth 100000

/-- From w to w' nothing below B has turned, and nothing that was there outside T; T' is T and what is new. -/
structure Mv (B : Nat) (T T' : Nat → Prop) (w w' : World) : Prop where
  below : Below B w w'
  block : ∀ k, k < w.heap.size → ¬ T k → w'.heap[k]? = w.heap[k]?
  fresh : ∀ k, T' k → T k ∨ w.heap.size ≤ k
section
variable {B : Nat} {T T' T'' : Nat → Prop} {a b c w w' : World}
theorem Mv.size (h : Mv B T T' w w') : w.heap.size ≤ w'.heap.size := h.below.size
theorem Mv.refl (B : Nat) (T : Nat → Prop) (w : World) : Mv B T T w w := ⟨Below.refl _ _, fun _ _ _ => rfl, fun _ h => Or.inl h⟩
theorem Mv.trans (h : Mv B T T' a b) (k : Mv B T' T'' b c) : Mv B T T'' a c :=
  ⟨h.below.trans k.below, fun i hi ht => (k.block i (Nat.lt_of_lt_of_le hi h.size) (fun ht' => by rcases h.fresh i ht' with x | x; exact ht x; omega)).trans (h.block i hi ht),
    fun i hi => by
      rcases k.fresh i hi with x | x
      · exact h.fresh i x
      · exact Or.inr (Nat.le_trans h.size x)⟩
theorem Mv.of_below (hB : B ≤ w.heap.size) (h : Below w.heap.size w w') : Mv B T T w w' := ⟨h.mono hB, fun k hk _ => h.block k hk, fun _ h => Or.inl h⟩
theorem Mv.alloc (h : Mv B T T' w w') (hB : B ≤ w.heap.size) (o : Obj) : Mv B T T' w (w'.alloc o) :=
  ⟨h.below.alloc (Nat.le_trans hB h.size) o, fun k hk ht => (Below.heap_alloc _ _ _ (Nat.lt_of_lt_of_le hk h.size)).trans (h.block k hk ht), h.fresh⟩
theorem Mv.drew (h : Mv B T T' w w') : Mv B T T' w w'.drew := ⟨h.below.drew, h.block, h.fresh⟩
theorem Mv.drewN (h : Mv B T T' w w') (n : Nat) : Mv B T T' w (w'.drewN n) := ⟨⟨h.below.os, h.below.tape, h.below.output, h.below.size, h.below.block⟩, h.block, h.fresh⟩
theorem Mv.setCell (h : Mv B T T' w w') {p : Addr} (hB : B ≤ p.block) (hp : T p.block ∨ w.heap.size ≤ p.block) (u : Value) : Mv B T T' w (w'.setCell p u) :=
  ⟨h.below.setCell hB u, fun k hk ht => (Below.heap_setCell _ _ _ _ (fun e => by subst e; rcases hp with x | x; exact ht x; omega)).trans (h.block k hk ht), h.fresh⟩
theorem Mv.cell (h : Mv B T T' w w') {k : Nat} (hk : k < w.heap.size) (ht : ¬ T k) (o : Nat) : w'.cell? ⟨k, o, none⟩ = w.cell? ⟨k, o, none⟩ := World.cell?_of_block (w := w) (h.block k hk ht)
theorem Mv.froz (h : Mv B T T' w w') {k : Nat} (hk : k < w.heap.size) (ht : ¬ T k) (o : Nat) : w'.frozen? ⟨k, o, none⟩ = w.frozen? ⟨k, o, none⟩ := World.frozen?_of_block (w := w) (h.block k hk ht)
/-- The same, where another block may be written besides. -/
theorem Mv.also (h : Mv B T T' w w') (p : Nat) : Mv B (fun k => k = p ∨ T k) (fun k => k = p ∨ T' k) w w' :=
  ⟨h.below, fun k hk ht => h.block k hk (fun x => ht (Or.inr x)), fun k hk => by
    rcases hk with x | x
    · exact Or.inl (Or.inl x)
    · rcases h.fresh k x with y | y
      · exact Or.inl (Or.inr y)
      · exact Or.inr y⟩
end

end Go.Proofs.Ythooknikfachnaa
