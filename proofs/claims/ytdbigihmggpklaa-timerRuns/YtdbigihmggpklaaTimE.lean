/-
  A timer that lies at a box, and what is done with it.
-/
import Derived.Test.YtdbigihmggpklaaTimD
namespace Go.Proofs.Ytdbigihmggpklaa
open Go.ChangeShapes Go.WideShapes Go.ChangeAt Go.RowKit
set_option linter.unusedVariables false

/-- A timer lies at a box. -/
structure Tat (W : World) (b : Nat) (r c : Int) (on g : Bool) : Prop where
  z : b < W.heap.size
  c0 : W.cell? ⟨b, 0, none⟩ = some (.int .u16 r)
  c1 : W.cell? ⟨b, 1, none⟩ = some (.int .u16 c)
  c2 : W.cell? ⟨b, 2, none⟩ = some (.bool on)
  c3 : W.cell? ⟨b, 3, none⟩ = some (.bool g)
  f : ∀ o, W.frozen? ⟨b, o, none⟩ = false
section
variable {W w1 : World} {b : Nat} {r c : Int} {on g : Bool}
theorem Tat.kept (h : Tat W b r c on g) (hb : Below W.heap.size W w1) : Tat w1 b r c on g :=
  ⟨Nat.lt_of_lt_of_le h.z hb.size, (hb.cell (p := ⟨b, 0, none⟩) h.z).trans h.c0, (hb.cell (p := ⟨b, 1, none⟩) h.z).trans h.c1, (hb.cell (p := ⟨b, 2, none⟩) h.z).trans h.c2, (hb.cell (p := ⟨b, 3, none⟩) h.z).trans h.c3, fun o => (hb.frozen (p := ⟨b, o, none⟩) h.z).trans (h.f o)⟩
theorem Tat.over (h : Tat W b r c on g) (o : Obj) : Tat (W.alloc o) b r c on g := h.kept (stA (st0 W) o)
theorem Tat.new (W : World) (r c : Int) (on g : Bool) : Tat (W.alloc (.cells #[.int .u16 r, .int .u16 c, .bool on, .bool g] 24)) W.heap.size r c on g :=
  ⟨by simp, Pl.new _ _ _ _ rfl, Pl.new _ _ _ _ rfl, Pl.new _ _ _ _ rfl, Pl.new _ _ _ _ rfl, fun o => Lib.frozen_of_heap (heap_alloc_new W _) o⟩
theorem Tat.far (h : Tat W b r c on g) {b' o' : Nat} (hne : b' ≠ b) (v : Value) : Tat (W.setCell ⟨b', o', none⟩ v) b r c on g := by
  have e : ∀ o, (W.setCell ⟨b', o', none⟩ v).cell? ⟨b, o, none⟩ = W.cell? ⟨b, o, none⟩ := fun o => World.cell?_setCell_far W _ _ v hne
  exact ⟨by simpa using h.z, (e 0).trans h.c0, (e 1).trans h.c1, (e 2).trans h.c2, (e 3).trans h.c3, fun o => by simpa using h.f o⟩
theorem Tat.ring (h : Tat W b r c on g) (g' : Bool) : Tat (W.setCell ⟨b, 3, none⟩ (.bool g')) b r c on g' := by
  have e : ∀ o, o ≠ 3 → (W.setCell ⟨b, 3, none⟩ (.bool g')).cell? ⟨b, o, none⟩ = W.cell? ⟨b, o, none⟩ := fun o ho => World.cell?_setCell_other _ _ _ _ (by intro e; exact ho (congrArg Addr.off e).symm)
  exact ⟨by simpa using h.z, (e 0 (by omega)).trans h.c0, (e 1 (by omega)).trans h.c1, (e 2 (by omega)).trans h.c2, World.cell?_setCell_same' _ _ _ (by rw [h.c3]; rfl), fun o => by simpa using h.f o⟩
theorem Tat.puts (h : Tat W b r c on g) (r' c' : Int) (on' g' : Bool) : Tat ((((W.setCell ⟨b, 0, none⟩ (.int .u16 r')).setCell ⟨b, 1, none⟩ (.int .u16 c')).setCell ⟨b, 2, none⟩ (.bool on')).setCell ⟨b, 3, none⟩ (.bool g')) b r' c' on' g' := by
  have ht : W.there b 0 4 := fun j hj => by
    refine ⟨?_, h.f _⟩
    rw [Nat.zero_add]
    match j, hj with
    | 0, _ => rw [h.c0]; rfl
    | 1, _ => rw [h.c1]; rfl
    | 2, _ => rw [h.c2]; rfl
    | 3, _ => rw [h.c3]; rfl
  have hr := World.rangeAt_setCells_same W b 0 [.int .u16 r', .int .u16 c', .bool on', .bool g'] ht
  simp only [World.setCells, Nat.zero_add, Nat.reduceAdd] at hr
  exact ⟨by simpa using h.z, hr 0 _ rfl, hr 1 _ rfl, hr 2 _ rfl, hr 3 _ rfl, fun o => by simpa using h.f o⟩
theorem Tat.below (h : Tat W b r c on g) {w : World} (hB : Below w.heap.size w W) (hb : w.heap.size ≤ b) (r' c' : Int) (on' g' : Bool) : Below w.heap.size w ((((W.setCell ⟨b, 0, none⟩ (.int .u16 r')).setCell ⟨b, 1, none⟩ (.int .u16 c')).setCell ⟨b, 2, none⟩ (.bool on')).setCell ⟨b, 3, none⟩ (.bool g')) :=
  (((hB.setCell hb _).setCell hb _).setCell hb _).setCell hb _
theorem Tat.far4 (h : Tat W b r c on g) {b' : Nat} (hne : b' ≠ b) (r' c' : Int) (on' g' : Bool) : Tat ((((W.setCell ⟨b', 0, none⟩ (.int .u16 r')).setCell ⟨b', 1, none⟩ (.int .u16 c')).setCell ⟨b', 2, none⟩ (.bool on')).setCell ⟨b', 3, none⟩ (.bool g')) b r c on g :=
  (((h.far hne _).far hne _).far hne _).far hne _
end
end Go.Proofs.Ytdbigihmggpklaa
