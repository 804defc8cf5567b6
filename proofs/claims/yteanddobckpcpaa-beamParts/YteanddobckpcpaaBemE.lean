/-
  A beam that lies at a box, and what is done with it.
-/
import Derived.Test.YteanddobckpcpaaBemA
namespace Go.Proofs.Yteanddobckpcpaa
open Go.ChangeShapes Go.WideShapes Go.ChangeAt Go.RowKit
set_option linter.unusedVariables false

/-- A beam lies at a box. -/
structure Bat (W : World) (b : Nat) (l a : Int) (g : Bool) (f : Int) : Prop where
  z : b < W.heap.size
  c0 : W.cell? ⟨b, 0, none⟩ = some (.int .i64 l)
  c1 : W.cell? ⟨b, 1, none⟩ = some (.int .i64 a)
  c2 : W.cell? ⟨b, 2, none⟩ = some (.bool g)
  c3 : W.cell? ⟨b, 3, none⟩ = some (.int .i64 f)
  f : ∀ o, W.frozen? ⟨b, o, none⟩ = false
section
variable {W w1 : World} {b : Nat} {l a f : Int} {g : Bool}
theorem Bat.kept (h : Bat W b l a g f) (hb : Below W.heap.size W w1) : Bat w1 b l a g f :=
  ⟨Nat.lt_of_lt_of_le h.z hb.size, (hb.cell (p := ⟨b, 0, none⟩) h.z).trans h.c0, (hb.cell (p := ⟨b, 1, none⟩) h.z).trans h.c1, (hb.cell (p := ⟨b, 2, none⟩) h.z).trans h.c2, (hb.cell (p := ⟨b, 3, none⟩) h.z).trans h.c3, fun o => (hb.frozen (p := ⟨b, o, none⟩) h.z).trans (h.f o)⟩
theorem Bat.over (h : Bat W b l a g f) (o : Obj) : Bat (W.alloc o) b l a g f := h.kept (stA (st0 W) o)
theorem Bat.new (W : World) (l a : Int) (g : Bool) (f : Int) : Bat (W.alloc (.cells #[.int .i64 l, .int .i64 a, .bool g, .int .i64 f] 23)) W.heap.size l a g f :=
  ⟨by simp, Pl.new _ _ _ _ rfl, Pl.new _ _ _ _ rfl, Pl.new _ _ _ _ rfl, Pl.new _ _ _ _ rfl, fun o => Lib.frozen_of_heap (heap_alloc_new W _) o⟩
theorem Bat.far (h : Bat W b l a g f) {b' o' : Nat} (hne : b' ≠ b) (v : Value) : Bat (W.setCell ⟨b', o', none⟩ v) b l a g f := by
  have e : ∀ o, (W.setCell ⟨b', o', none⟩ v).cell? ⟨b, o, none⟩ = W.cell? ⟨b, o, none⟩ := fun o => World.cell?_setCell_far W _ _ v hne
  exact ⟨by simpa using h.z, (e 0).trans h.c0, (e 1).trans h.c1, (e 2).trans h.c2, (e 3).trans h.c3, fun o => by simpa using h.f o⟩
theorem Bat.put0 (h : Bat W b l a g f) (l' : Int) : Bat (W.setCell ⟨b, 0, none⟩ (.int .i64 l')) b l' a g f := by
  have e : ∀ o, o ≠ 0 → (W.setCell ⟨b, 0, none⟩ (.int .i64 l')).cell? ⟨b, o, none⟩ = W.cell? ⟨b, o, none⟩ := fun o ho => World.cell?_setCell_other _ _ _ _ (by intro e; exact ho (congrArg Addr.off e).symm)
  exact ⟨by simpa using h.z, World.cell?_setCell_same' _ _ _ (by rw [h.c0]; rfl), (e 1 (by omega)).trans h.c1, (e 2 (by omega)).trans h.c2, (e 3 (by omega)).trans h.c3, fun o => by simpa using h.f o⟩
theorem Bat.put1 (h : Bat W b l a g f) (a' : Int) : Bat (W.setCell ⟨b, 1, none⟩ (.int .i64 a')) b l a' g f := by
  have e : ∀ o, o ≠ 1 → (W.setCell ⟨b, 1, none⟩ (.int .i64 a')).cell? ⟨b, o, none⟩ = W.cell? ⟨b, o, none⟩ := fun o ho => World.cell?_setCell_other _ _ _ _ (by intro e; exact ho (congrArg Addr.off e).symm)
  exact ⟨by simpa using h.z, (e 0 (by omega)).trans h.c0, World.cell?_setCell_same' _ _ _ (by rw [h.c1]; rfl), (e 2 (by omega)).trans h.c2, (e 3 (by omega)).trans h.c3, fun o => by simpa using h.f o⟩
theorem Bat.put2 (h : Bat W b l a g f) (g' : Bool) : Bat (W.setCell ⟨b, 2, none⟩ (.bool g')) b l a g' f := by
  have e : ∀ o, o ≠ 2 → (W.setCell ⟨b, 2, none⟩ (.bool g')).cell? ⟨b, o, none⟩ = W.cell? ⟨b, o, none⟩ := fun o ho => World.cell?_setCell_other _ _ _ _ (by intro e; exact ho (congrArg Addr.off e).symm)
  exact ⟨by simpa using h.z, (e 0 (by omega)).trans h.c0, (e 1 (by omega)).trans h.c1, World.cell?_setCell_same' _ _ _ (by rw [h.c2]; rfl), (e 3 (by omega)).trans h.c3, fun o => by simpa using h.f o⟩
theorem Bat.put3 (h : Bat W b l a g f) (f' : Int) : Bat (W.setCell ⟨b, 3, none⟩ (.int .i64 f')) b l a g f' := by
  have e : ∀ o, o ≠ 3 → (W.setCell ⟨b, 3, none⟩ (.int .i64 f')).cell? ⟨b, o, none⟩ = W.cell? ⟨b, o, none⟩ := fun o ho => World.cell?_setCell_other _ _ _ _ (by intro e; exact ho (congrArg Addr.off e).symm)
  exact ⟨by simpa using h.z, (e 0 (by omega)).trans h.c0, (e 1 (by omega)).trans h.c1, (e 2 (by omega)).trans h.c2, World.cell?_setCell_same' _ _ _ (by rw [h.c3]; rfl), fun o => by simpa using h.f o⟩
theorem Bat.drew (h : Bat W b l a g f) : Bat W.drew b l a g f := ⟨h.z, h.c0, h.c1, h.c2, h.c3, h.f⟩
theorem Bat.range (h : Bat W b l a g f) : W.rangeAt b 0 [.int .i64 l, .int .i64 a, .bool g, .int .i64 f] := fun j v hj => by
  rw [Nat.zero_add]
  match j, hj with
  | 0, hj => rw [h.c0]; simpa using hj
  | 1, hj => rw [h.c1]; simpa using hj
  | 2, hj => rw [h.c2]; simpa using hj
  | 3, hj => rw [h.c3]; simpa using hj
theorem Bat.puts (h : Bat W b l a g f) (l' a' : Int) (g' : Bool) (f' : Int) : Bat ((((W.setCell ⟨b, 0, none⟩ (.int .i64 l')).setCell ⟨b, 1, none⟩ (.int .i64 a')).setCell ⟨b, 2, none⟩ (.bool g')).setCell ⟨b, 3, none⟩ (.int .i64 f')) b l' a' g' f' := by
  have ht : W.there b 0 4 := fun j hj => by
    refine ⟨?_, h.f _⟩
    rw [Nat.zero_add]
    match j, hj with
    | 0, _ => rw [h.c0]; rfl
    | 1, _ => rw [h.c1]; rfl
    | 2, _ => rw [h.c2]; rfl
    | 3, _ => rw [h.c3]; rfl
  have hr := World.rangeAt_setCells_same W b 0 [.int .i64 l', .int .i64 a', .bool g', .int .i64 f'] ht
  simp only [World.setCells, Nat.zero_add, Nat.reduceAdd] at hr
  exact ⟨by simpa using h.z, hr 0 _ rfl, hr 1 _ rfl, hr 2 _ rfl, hr 3 _ rfl, fun o => by simpa using h.f o⟩
theorem Bat.below (h : Bat W b l a g f) {w : World} (hB : Below w.heap.size w W) (hb : w.heap.size ≤ b) (l' a' : Int) (g' : Bool) (f' : Int) : Below w.heap.size w ((((W.setCell ⟨b, 0, none⟩ (.int .i64 l')).setCell ⟨b, 1, none⟩ (.int .i64 a')).setCell ⟨b, 2, none⟩ (.bool g')).setCell ⟨b, 3, none⟩ (.int .i64 f')) :=
  (((hB.setCell hb _).setCell hb _).setCell hb _).setCell hb _
theorem Bat.far4 (h : Bat W b l a g f) {b' : Nat} (hne : b' ≠ b) (l' a' : Int) (g' : Bool) (f' : Int) : Bat ((((W.setCell ⟨b', 0, none⟩ (.int .i64 l')).setCell ⟨b', 1, none⟩ (.int .i64 a')).setCell ⟨b', 2, none⟩ (.bool g')).setCell ⟨b', 3, none⟩ (.int .i64 f')) b l a g f :=
  (((h.far hne _).far hne _).far hne _).far hne _
end
end Go.Proofs.Yteanddobckpcpaa
