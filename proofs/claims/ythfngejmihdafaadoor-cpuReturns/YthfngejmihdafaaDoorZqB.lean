/-
  Run where nothing is wrong, and the laws' closed fact (the texts CpuRo, CpuSe in one).
-/
import Derived.Test.YthfngejmihdafaaDoorZqA
namespace Go.Proofs.YthfngejmihdafaaDoor
open Go.ChangeShapes Go.WideShapes Go.ChangeAt Go.RowKit
set_option linter.unusedVariables false

theorem intsAt.kept {w w' : World} {v : Value} {l : List Int} (h : intsAt w v l) (hb : Below w.heap.size w w') : intsAt w' v l := by
  rcases h with h | ⟨g, o, cap, h1, h2, h3, h4⟩
  · exact Or.inl h
  · exact Or.inr ⟨g, o, cap, h1, h2, Nat.lt_of_lt_of_le h3 hb.size, fun j x hj => (hb.cell (p := ⟨g, o + j, none⟩) h3).trans (h4 j x hj)⟩
theorem begin_sp (B sb : Nat) (vR vM : Value) (rom ram : List UInt8) (W : World) (hI : SpI B sb vR vM rom W ram) :
    Calls Tryd.prog 14 #[.agg #[rdV sb, wrV sb]] W fun e w' => e = .returned (cpuV (C.begin' (spc rom) ram).1) ∧ SpI B sb vR vM rom w' ram ∧ Mv B (spT sb vR vM ram) (spT sb vR vM ram) W w' ∧ (C.begin' (spc rom) ram).1.ok :=
  begin_any (space_rs B sb vR vM rom) W ram hI
section
variable {w X : World} {B b6 b7 sb br bq : Nat} {vR vM : Value} {rom s : List UInt8} {l : List Int} {c : C.Cpu}
/-- The result's space is written anew as it was. -/
theorem RunW.put7 (h : RunW w B b6 b7 sb br bq vR vM rom l X c s) (h7 : b7 ≠ br ∧ b7 ≠ bq ∧ w.heap.size ≤ b7) : RunW w B b6 b7 sb br bq vR vM rom l ((X.setCell ⟨b7, 0, none⟩ vR).setCell ⟨b7, 1, none⟩ vM) c s := by
  have n67 := h.ne.1
  have ho : ∀ k, k ≠ b7 → ((X.setCell ⟨b7, 0, none⟩ vR).setCell ⟨b7, 1, none⟩ vM).heap[k]? = X.heap[k]? := fun k b => (Below.heap_setCell _ _ _ _ b).trans (Below.heap_setCell _ _ _ _ b)
  have hz : ((X.setCell ⟨b7, 0, none⟩ vR).setCell ⟨b7, 1, none⟩ vM).heap.size = X.heap.size := (setCell_size _ _ _).trans (setCell_size _ _ _)
  have e0 := World.cell?_setCell_same X _ vR h.o0
  have e1 : (X.setCell ⟨b7, 0, none⟩ vR).cell? ⟨b7, 1, none⟩ = some vM := (World.cell?_setCell_other _ _ _ _ (by simp)).trans h.o1
  have f0 : ((X.setCell ⟨b7, 0, none⟩ vR).setCell ⟨b7, 1, none⟩ vM).cell? ⟨b7, 0, none⟩ = some vR := (World.cell?_setCell_other _ _ _ _ (by simp)).trans e0
  have f1 : ((X.setCell ⟨b7, 0, none⟩ vR).setCell ⟨b7, 1, none⟩ vM).cell? ⟨b7, 1, none⟩ = some vM := World.cell?_setCell_same _ _ _ e1
  have hfz : ∀ o, ((X.setCell ⟨b7, 0, none⟩ vR).setCell ⟨b7, 1, none⟩ vM).frozen? ⟨b7, o, none⟩ = false := fun o => by simpa using h.of o
  have hl := (h.low.setCell (p := ⟨b7, 0, none⟩) h7.2.2 vR).setCell (p := ⟨b7, 1, none⟩) h7.2.2 vM
  generalize ((X.setCell ⟨b7, 0, none⟩ vR).setCell ⟨b7, 1, none⟩ vM) = Y at *
  exact ⟨h.sp.keep (Nat.le_of_eq hz.symm) (fun k hk => ho k (fun e => (h.nT b7 (Or.inr (Or.inl rfl))).1 (e ▸ hk))), hl, fun j v hj => (World.cell?_of_block (w := X) (ho b6 n67)).trans (h.hc j v hj), fun o => (World.frozen?_of_block (w := X) (ho b6 n67)).trans (h.cf o), f0, f1, hfz,
    (World.cell?_of_block (w := X) (ho br (Ne.symm h7.1))).trans h.r0, (World.cell?_of_block (w := X) (ho br (Ne.symm h7.1))).trans h.r1, fun j v hj => (World.cell?_of_block (w := X) (ho bq (Ne.symm h7.2.1))).trans (h.q j v hj), fun k hk => ⟨(h.nT k hk).1, by rw [hz]; exact (h.nT k hk).2⟩, h.ne, h.ok⟩
theorem RunW.all (h : RunW w B b6 b7 sb br bq vR vM rom l X c s) : X.cell? ⟨b6, 0, none⟩ = some (.int .u16 (c.r 0)) ∧ X.cell? ⟨b6, 1, none⟩ = some (.int .u16 (c.r 1)) ∧ X.cell? ⟨b6, 2, none⟩ = some (.int .u16 (c.r 2)) ∧ X.cell? ⟨b6, 3, none⟩ = some (.int .u16 (c.r 3)) ∧ X.cell? ⟨b6, 4, none⟩ = some (.int .u16 (c.r 4)) ∧ X.cell? ⟨b6, 5, none⟩ = some (.int .u16 (c.r 5)) ∧ X.cell? ⟨b6, 6, none⟩ = some (.int .u16 (c.r 6)) ∧ X.cell? ⟨b6, 7, none⟩ = some (.int .u16 (c.r 7)) ∧ X.cell? ⟨b6, 8, none⟩ = some (.int .u16 c.PC) ∧ X.cell? ⟨b6, 9, none⟩ = some (.bool c.Z) ∧ X.cell? ⟨b6, 10, none⟩ = some (.bool c.N) ∧ X.cell? ⟨b6, 11, none⟩ = some (.bool c.C) ∧ X.cell? ⟨b6, 12, none⟩ = some (.bool c.V) ∧ X.cell? ⟨b6, 13, none⟩ = some (.bool c.May) ∧ X.cell? ⟨b6, 14, none⟩ = some (.bool c.Waits) ∧ X.cell? ⟨b7, 0, none⟩ = some vR ∧ X.cell? ⟨b7, 1, none⟩ = some vM ∧ RunW w B b6 b7 sb br bq vR vM rom l X c s :=
  ⟨h.hc 0 _ rfl, h.hc 1 _ rfl, h.hc 2 _ rfl, h.hc 3 _ rfl, h.hc 4 _ rfl, h.hc 5 _ rfl, h.hc 6 _ rfl, h.hc 7 _ rfl, h.hc 8 _ rfl, h.hc 9 _ rfl, h.hc 10 _ rfl, h.hc 11 _ rfl, h.hc 12 _ rfl, h.hc 13 _ rfl, h.hc 14 _ rfl, h.o0, h.o1, h⟩
theorem runW_6 (h : RunW w B b6 b7 sb br bq vR vM rom l X c s) : RunW w B b6 b7 sb br bq vR vM rom l (((((((((((((((X.setCell ⟨b6, 0, none⟩ (.int .u16 (c.r 0))).setCell ⟨b6, 1, none⟩ (.int .u16 (c.r 1))).setCell ⟨b6, 2, none⟩ (.int .u16 (c.r 2))).setCell ⟨b6, 3, none⟩ (.int .u16 (c.r 3))).setCell ⟨b6, 4, none⟩ (.int .u16 (c.r 4))).setCell ⟨b6, 5, none⟩ (.int .u16 (c.r 5))).setCell ⟨b6, 6, none⟩ (.int .u16 (c.r 6))).setCell ⟨b6, 7, none⟩ (.int .u16 (c.r 7))).setCell ⟨b6, 8, none⟩ (.int .u16 c.PC)).setCell ⟨b6, 9, none⟩ (.bool c.Z)).setCell ⟨b6, 10, none⟩ (.bool c.N)).setCell ⟨b6, 11, none⟩ (.bool c.C)).setCell ⟨b6, 12, none⟩ (.bool c.V)).setCell ⟨b6, 13, none⟩ (.bool c.May)).setCell ⟨b6, 14, none⟩ (.bool c.Waits)) c s := by
  rw [nested_eq]
  exact h.put h.ok
theorem runS_6 (h : RunW w B b6 b7 sb br bq vR vM rom l X c s) : (((((((((((((((X.setCell ⟨b6, 0, none⟩ (.int .u16 (c.r 0))).setCell ⟨b6, 1, none⟩ (.int .u16 (c.r 1))).setCell ⟨b6, 2, none⟩ (.int .u16 (c.r 2))).setCell ⟨b6, 3, none⟩ (.int .u16 (c.r 3))).setCell ⟨b6, 4, none⟩ (.int .u16 (c.r 4))).setCell ⟨b6, 5, none⟩ (.int .u16 (c.r 5))).setCell ⟨b6, 6, none⟩ (.int .u16 (c.r 6))).setCell ⟨b6, 7, none⟩ (.int .u16 (c.r 7))).setCell ⟨b6, 8, none⟩ (.int .u16 c.PC)).setCell ⟨b6, 9, none⟩ (.bool c.Z)).setCell ⟨b6, 10, none⟩ (.bool c.N)).setCell ⟨b6, 11, none⟩ (.bool c.C)).setCell ⟨b6, 12, none⟩ (.bool c.V)).setCell ⟨b6, 13, none⟩ (.bool c.May)).setCell ⟨b6, 14, none⟩ (.bool c.Waits)).drew.cell? ⟨b6, 0, none⟩ = some (.int .u16 (c.r 0)) ∧ (((((((((((((((X.setCell ⟨b6, 0, none⟩ (.int .u16 (c.r 0))).setCell ⟨b6, 1, none⟩ (.int .u16 (c.r 1))).setCell ⟨b6, 2, none⟩ (.int .u16 (c.r 2))).setCell ⟨b6, 3, none⟩ (.int .u16 (c.r 3))).setCell ⟨b6, 4, none⟩ (.int .u16 (c.r 4))).setCell ⟨b6, 5, none⟩ (.int .u16 (c.r 5))).setCell ⟨b6, 6, none⟩ (.int .u16 (c.r 6))).setCell ⟨b6, 7, none⟩ (.int .u16 (c.r 7))).setCell ⟨b6, 8, none⟩ (.int .u16 c.PC)).setCell ⟨b6, 9, none⟩ (.bool c.Z)).setCell ⟨b6, 10, none⟩ (.bool c.N)).setCell ⟨b6, 11, none⟩ (.bool c.C)).setCell ⟨b6, 12, none⟩ (.bool c.V)).setCell ⟨b6, 13, none⟩ (.bool c.May)).setCell ⟨b6, 14, none⟩ (.bool c.Waits)).drew.cell? ⟨b6, 1, none⟩ = some (.int .u16 (c.r 1)) ∧ (((((((((((((((X.setCell ⟨b6, 0, none⟩ (.int .u16 (c.r 0))).setCell ⟨b6, 1, none⟩ (.int .u16 (c.r 1))).setCell ⟨b6, 2, none⟩ (.int .u16 (c.r 2))).setCell ⟨b6, 3, none⟩ (.int .u16 (c.r 3))).setCell ⟨b6, 4, none⟩ (.int .u16 (c.r 4))).setCell ⟨b6, 5, none⟩ (.int .u16 (c.r 5))).setCell ⟨b6, 6, none⟩ (.int .u16 (c.r 6))).setCell ⟨b6, 7, none⟩ (.int .u16 (c.r 7))).setCell ⟨b6, 8, none⟩ (.int .u16 c.PC)).setCell ⟨b6, 9, none⟩ (.bool c.Z)).setCell ⟨b6, 10, none⟩ (.bool c.N)).setCell ⟨b6, 11, none⟩ (.bool c.C)).setCell ⟨b6, 12, none⟩ (.bool c.V)).setCell ⟨b6, 13, none⟩ (.bool c.May)).setCell ⟨b6, 14, none⟩ (.bool c.Waits)).drew.cell? ⟨b6, 2, none⟩ = some (.int .u16 (c.r 2)) ∧ (((((((((((((((X.setCell ⟨b6, 0, none⟩ (.int .u16 (c.r 0))).setCell ⟨b6, 1, none⟩ (.int .u16 (c.r 1))).setCell ⟨b6, 2, none⟩ (.int .u16 (c.r 2))).setCell ⟨b6, 3, none⟩ (.int .u16 (c.r 3))).setCell ⟨b6, 4, none⟩ (.int .u16 (c.r 4))).setCell ⟨b6, 5, none⟩ (.int .u16 (c.r 5))).setCell ⟨b6, 6, none⟩ (.int .u16 (c.r 6))).setCell ⟨b6, 7, none⟩ (.int .u16 (c.r 7))).setCell ⟨b6, 8, none⟩ (.int .u16 c.PC)).setCell ⟨b6, 9, none⟩ (.bool c.Z)).setCell ⟨b6, 10, none⟩ (.bool c.N)).setCell ⟨b6, 11, none⟩ (.bool c.C)).setCell ⟨b6, 12, none⟩ (.bool c.V)).setCell ⟨b6, 13, none⟩ (.bool c.May)).setCell ⟨b6, 14, none⟩ (.bool c.Waits)).drew.cell? ⟨b6, 3, none⟩ = some (.int .u16 (c.r 3)) ∧ (((((((((((((((X.setCell ⟨b6, 0, none⟩ (.int .u16 (c.r 0))).setCell ⟨b6, 1, none⟩ (.int .u16 (c.r 1))).setCell ⟨b6, 2, none⟩ (.int .u16 (c.r 2))).setCell ⟨b6, 3, none⟩ (.int .u16 (c.r 3))).setCell ⟨b6, 4, none⟩ (.int .u16 (c.r 4))).setCell ⟨b6, 5, none⟩ (.int .u16 (c.r 5))).setCell ⟨b6, 6, none⟩ (.int .u16 (c.r 6))).setCell ⟨b6, 7, none⟩ (.int .u16 (c.r 7))).setCell ⟨b6, 8, none⟩ (.int .u16 c.PC)).setCell ⟨b6, 9, none⟩ (.bool c.Z)).setCell ⟨b6, 10, none⟩ (.bool c.N)).setCell ⟨b6, 11, none⟩ (.bool c.C)).setCell ⟨b6, 12, none⟩ (.bool c.V)).setCell ⟨b6, 13, none⟩ (.bool c.May)).setCell ⟨b6, 14, none⟩ (.bool c.Waits)).drew.cell? ⟨b6, 4, none⟩ = some (.int .u16 (c.r 4)) ∧ (((((((((((((((X.setCell ⟨b6, 0, none⟩ (.int .u16 (c.r 0))).setCell ⟨b6, 1, none⟩ (.int .u16 (c.r 1))).setCell ⟨b6, 2, none⟩ (.int .u16 (c.r 2))).setCell ⟨b6, 3, none⟩ (.int .u16 (c.r 3))).setCell ⟨b6, 4, none⟩ (.int .u16 (c.r 4))).setCell ⟨b6, 5, none⟩ (.int .u16 (c.r 5))).setCell ⟨b6, 6, none⟩ (.int .u16 (c.r 6))).setCell ⟨b6, 7, none⟩ (.int .u16 (c.r 7))).setCell ⟨b6, 8, none⟩ (.int .u16 c.PC)).setCell ⟨b6, 9, none⟩ (.bool c.Z)).setCell ⟨b6, 10, none⟩ (.bool c.N)).setCell ⟨b6, 11, none⟩ (.bool c.C)).setCell ⟨b6, 12, none⟩ (.bool c.V)).setCell ⟨b6, 13, none⟩ (.bool c.May)).setCell ⟨b6, 14, none⟩ (.bool c.Waits)).drew.cell? ⟨b6, 5, none⟩ = some (.int .u16 (c.r 5)) ∧ (((((((((((((((X.setCell ⟨b6, 0, none⟩ (.int .u16 (c.r 0))).setCell ⟨b6, 1, none⟩ (.int .u16 (c.r 1))).setCell ⟨b6, 2, none⟩ (.int .u16 (c.r 2))).setCell ⟨b6, 3, none⟩ (.int .u16 (c.r 3))).setCell ⟨b6, 4, none⟩ (.int .u16 (c.r 4))).setCell ⟨b6, 5, none⟩ (.int .u16 (c.r 5))).setCell ⟨b6, 6, none⟩ (.int .u16 (c.r 6))).setCell ⟨b6, 7, none⟩ (.int .u16 (c.r 7))).setCell ⟨b6, 8, none⟩ (.int .u16 c.PC)).setCell ⟨b6, 9, none⟩ (.bool c.Z)).setCell ⟨b6, 10, none⟩ (.bool c.N)).setCell ⟨b6, 11, none⟩ (.bool c.C)).setCell ⟨b6, 12, none⟩ (.bool c.V)).setCell ⟨b6, 13, none⟩ (.bool c.May)).setCell ⟨b6, 14, none⟩ (.bool c.Waits)).drew.cell? ⟨b6, 6, none⟩ = some (.int .u16 (c.r 6)) ∧ (((((((((((((((X.setCell ⟨b6, 0, none⟩ (.int .u16 (c.r 0))).setCell ⟨b6, 1, none⟩ (.int .u16 (c.r 1))).setCell ⟨b6, 2, none⟩ (.int .u16 (c.r 2))).setCell ⟨b6, 3, none⟩ (.int .u16 (c.r 3))).setCell ⟨b6, 4, none⟩ (.int .u16 (c.r 4))).setCell ⟨b6, 5, none⟩ (.int .u16 (c.r 5))).setCell ⟨b6, 6, none⟩ (.int .u16 (c.r 6))).setCell ⟨b6, 7, none⟩ (.int .u16 (c.r 7))).setCell ⟨b6, 8, none⟩ (.int .u16 c.PC)).setCell ⟨b6, 9, none⟩ (.bool c.Z)).setCell ⟨b6, 10, none⟩ (.bool c.N)).setCell ⟨b6, 11, none⟩ (.bool c.C)).setCell ⟨b6, 12, none⟩ (.bool c.V)).setCell ⟨b6, 13, none⟩ (.bool c.May)).setCell ⟨b6, 14, none⟩ (.bool c.Waits)).drew.cell? ⟨b6, 7, none⟩ = some (.int .u16 (c.r 7)) ∧ (((((((((((((((X.setCell ⟨b6, 0, none⟩ (.int .u16 (c.r 0))).setCell ⟨b6, 1, none⟩ (.int .u16 (c.r 1))).setCell ⟨b6, 2, none⟩ (.int .u16 (c.r 2))).setCell ⟨b6, 3, none⟩ (.int .u16 (c.r 3))).setCell ⟨b6, 4, none⟩ (.int .u16 (c.r 4))).setCell ⟨b6, 5, none⟩ (.int .u16 (c.r 5))).setCell ⟨b6, 6, none⟩ (.int .u16 (c.r 6))).setCell ⟨b6, 7, none⟩ (.int .u16 (c.r 7))).setCell ⟨b6, 8, none⟩ (.int .u16 c.PC)).setCell ⟨b6, 9, none⟩ (.bool c.Z)).setCell ⟨b6, 10, none⟩ (.bool c.N)).setCell ⟨b6, 11, none⟩ (.bool c.C)).setCell ⟨b6, 12, none⟩ (.bool c.V)).setCell ⟨b6, 13, none⟩ (.bool c.May)).setCell ⟨b6, 14, none⟩ (.bool c.Waits)).drew.cell? ⟨b6, 8, none⟩ = some (.int .u16 c.PC) ∧ (((((((((((((((X.setCell ⟨b6, 0, none⟩ (.int .u16 (c.r 0))).setCell ⟨b6, 1, none⟩ (.int .u16 (c.r 1))).setCell ⟨b6, 2, none⟩ (.int .u16 (c.r 2))).setCell ⟨b6, 3, none⟩ (.int .u16 (c.r 3))).setCell ⟨b6, 4, none⟩ (.int .u16 (c.r 4))).setCell ⟨b6, 5, none⟩ (.int .u16 (c.r 5))).setCell ⟨b6, 6, none⟩ (.int .u16 (c.r 6))).setCell ⟨b6, 7, none⟩ (.int .u16 (c.r 7))).setCell ⟨b6, 8, none⟩ (.int .u16 c.PC)).setCell ⟨b6, 9, none⟩ (.bool c.Z)).setCell ⟨b6, 10, none⟩ (.bool c.N)).setCell ⟨b6, 11, none⟩ (.bool c.C)).setCell ⟨b6, 12, none⟩ (.bool c.V)).setCell ⟨b6, 13, none⟩ (.bool c.May)).setCell ⟨b6, 14, none⟩ (.bool c.Waits)).drew.cell? ⟨b6, 9, none⟩ = some (.bool c.Z) ∧ (((((((((((((((X.setCell ⟨b6, 0, none⟩ (.int .u16 (c.r 0))).setCell ⟨b6, 1, none⟩ (.int .u16 (c.r 1))).setCell ⟨b6, 2, none⟩ (.int .u16 (c.r 2))).setCell ⟨b6, 3, none⟩ (.int .u16 (c.r 3))).setCell ⟨b6, 4, none⟩ (.int .u16 (c.r 4))).setCell ⟨b6, 5, none⟩ (.int .u16 (c.r 5))).setCell ⟨b6, 6, none⟩ (.int .u16 (c.r 6))).setCell ⟨b6, 7, none⟩ (.int .u16 (c.r 7))).setCell ⟨b6, 8, none⟩ (.int .u16 c.PC)).setCell ⟨b6, 9, none⟩ (.bool c.Z)).setCell ⟨b6, 10, none⟩ (.bool c.N)).setCell ⟨b6, 11, none⟩ (.bool c.C)).setCell ⟨b6, 12, none⟩ (.bool c.V)).setCell ⟨b6, 13, none⟩ (.bool c.May)).setCell ⟨b6, 14, none⟩ (.bool c.Waits)).drew.cell? ⟨b6, 10, none⟩ = some (.bool c.N) ∧ (((((((((((((((X.setCell ⟨b6, 0, none⟩ (.int .u16 (c.r 0))).setCell ⟨b6, 1, none⟩ (.int .u16 (c.r 1))).setCell ⟨b6, 2, none⟩ (.int .u16 (c.r 2))).setCell ⟨b6, 3, none⟩ (.int .u16 (c.r 3))).setCell ⟨b6, 4, none⟩ (.int .u16 (c.r 4))).setCell ⟨b6, 5, none⟩ (.int .u16 (c.r 5))).setCell ⟨b6, 6, none⟩ (.int .u16 (c.r 6))).setCell ⟨b6, 7, none⟩ (.int .u16 (c.r 7))).setCell ⟨b6, 8, none⟩ (.int .u16 c.PC)).setCell ⟨b6, 9, none⟩ (.bool c.Z)).setCell ⟨b6, 10, none⟩ (.bool c.N)).setCell ⟨b6, 11, none⟩ (.bool c.C)).setCell ⟨b6, 12, none⟩ (.bool c.V)).setCell ⟨b6, 13, none⟩ (.bool c.May)).setCell ⟨b6, 14, none⟩ (.bool c.Waits)).drew.cell? ⟨b6, 11, none⟩ = some (.bool c.C) ∧ (((((((((((((((X.setCell ⟨b6, 0, none⟩ (.int .u16 (c.r 0))).setCell ⟨b6, 1, none⟩ (.int .u16 (c.r 1))).setCell ⟨b6, 2, none⟩ (.int .u16 (c.r 2))).setCell ⟨b6, 3, none⟩ (.int .u16 (c.r 3))).setCell ⟨b6, 4, none⟩ (.int .u16 (c.r 4))).setCell ⟨b6, 5, none⟩ (.int .u16 (c.r 5))).setCell ⟨b6, 6, none⟩ (.int .u16 (c.r 6))).setCell ⟨b6, 7, none⟩ (.int .u16 (c.r 7))).setCell ⟨b6, 8, none⟩ (.int .u16 c.PC)).setCell ⟨b6, 9, none⟩ (.bool c.Z)).setCell ⟨b6, 10, none⟩ (.bool c.N)).setCell ⟨b6, 11, none⟩ (.bool c.C)).setCell ⟨b6, 12, none⟩ (.bool c.V)).setCell ⟨b6, 13, none⟩ (.bool c.May)).setCell ⟨b6, 14, none⟩ (.bool c.Waits)).drew.cell? ⟨b6, 12, none⟩ = some (.bool c.V) ∧ (((((((((((((((X.setCell ⟨b6, 0, none⟩ (.int .u16 (c.r 0))).setCell ⟨b6, 1, none⟩ (.int .u16 (c.r 1))).setCell ⟨b6, 2, none⟩ (.int .u16 (c.r 2))).setCell ⟨b6, 3, none⟩ (.int .u16 (c.r 3))).setCell ⟨b6, 4, none⟩ (.int .u16 (c.r 4))).setCell ⟨b6, 5, none⟩ (.int .u16 (c.r 5))).setCell ⟨b6, 6, none⟩ (.int .u16 (c.r 6))).setCell ⟨b6, 7, none⟩ (.int .u16 (c.r 7))).setCell ⟨b6, 8, none⟩ (.int .u16 c.PC)).setCell ⟨b6, 9, none⟩ (.bool c.Z)).setCell ⟨b6, 10, none⟩ (.bool c.N)).setCell ⟨b6, 11, none⟩ (.bool c.C)).setCell ⟨b6, 12, none⟩ (.bool c.V)).setCell ⟨b6, 13, none⟩ (.bool c.May)).setCell ⟨b6, 14, none⟩ (.bool c.Waits)).drew.cell? ⟨b6, 13, none⟩ = some (.bool c.May) ∧ (((((((((((((((X.setCell ⟨b6, 0, none⟩ (.int .u16 (c.r 0))).setCell ⟨b6, 1, none⟩ (.int .u16 (c.r 1))).setCell ⟨b6, 2, none⟩ (.int .u16 (c.r 2))).setCell ⟨b6, 3, none⟩ (.int .u16 (c.r 3))).setCell ⟨b6, 4, none⟩ (.int .u16 (c.r 4))).setCell ⟨b6, 5, none⟩ (.int .u16 (c.r 5))).setCell ⟨b6, 6, none⟩ (.int .u16 (c.r 6))).setCell ⟨b6, 7, none⟩ (.int .u16 (c.r 7))).setCell ⟨b6, 8, none⟩ (.int .u16 c.PC)).setCell ⟨b6, 9, none⟩ (.bool c.Z)).setCell ⟨b6, 10, none⟩ (.bool c.N)).setCell ⟨b6, 11, none⟩ (.bool c.C)).setCell ⟨b6, 12, none⟩ (.bool c.V)).setCell ⟨b6, 13, none⟩ (.bool c.May)).setCell ⟨b6, 14, none⟩ (.bool c.Waits)).drew.cell? ⟨b6, 14, none⟩ = some (.bool c.Waits) ∧ (((((((((((((((X.setCell ⟨b6, 0, none⟩ (.int .u16 (c.r 0))).setCell ⟨b6, 1, none⟩ (.int .u16 (c.r 1))).setCell ⟨b6, 2, none⟩ (.int .u16 (c.r 2))).setCell ⟨b6, 3, none⟩ (.int .u16 (c.r 3))).setCell ⟨b6, 4, none⟩ (.int .u16 (c.r 4))).setCell ⟨b6, 5, none⟩ (.int .u16 (c.r 5))).setCell ⟨b6, 6, none⟩ (.int .u16 (c.r 6))).setCell ⟨b6, 7, none⟩ (.int .u16 (c.r 7))).setCell ⟨b6, 8, none⟩ (.int .u16 c.PC)).setCell ⟨b6, 9, none⟩ (.bool c.Z)).setCell ⟨b6, 10, none⟩ (.bool c.N)).setCell ⟨b6, 11, none⟩ (.bool c.C)).setCell ⟨b6, 12, none⟩ (.bool c.V)).setCell ⟨b6, 13, none⟩ (.bool c.May)).setCell ⟨b6, 14, none⟩ (.bool c.Waits)).drew.cell? ⟨b7, 0, none⟩ = some vR ∧ (((((((((((((((X.setCell ⟨b6, 0, none⟩ (.int .u16 (c.r 0))).setCell ⟨b6, 1, none⟩ (.int .u16 (c.r 1))).setCell ⟨b6, 2, none⟩ (.int .u16 (c.r 2))).setCell ⟨b6, 3, none⟩ (.int .u16 (c.r 3))).setCell ⟨b6, 4, none⟩ (.int .u16 (c.r 4))).setCell ⟨b6, 5, none⟩ (.int .u16 (c.r 5))).setCell ⟨b6, 6, none⟩ (.int .u16 (c.r 6))).setCell ⟨b6, 7, none⟩ (.int .u16 (c.r 7))).setCell ⟨b6, 8, none⟩ (.int .u16 c.PC)).setCell ⟨b6, 9, none⟩ (.bool c.Z)).setCell ⟨b6, 10, none⟩ (.bool c.N)).setCell ⟨b6, 11, none⟩ (.bool c.C)).setCell ⟨b6, 12, none⟩ (.bool c.V)).setCell ⟨b6, 13, none⟩ (.bool c.May)).setCell ⟨b6, 14, none⟩ (.bool c.Waits)).drew.cell? ⟨b7, 1, none⟩ = some vM ∧ RunW w B b6 b7 sb br bq vR vM rom l (((((((((((((((X.setCell ⟨b6, 0, none⟩ (.int .u16 (c.r 0))).setCell ⟨b6, 1, none⟩ (.int .u16 (c.r 1))).setCell ⟨b6, 2, none⟩ (.int .u16 (c.r 2))).setCell ⟨b6, 3, none⟩ (.int .u16 (c.r 3))).setCell ⟨b6, 4, none⟩ (.int .u16 (c.r 4))).setCell ⟨b6, 5, none⟩ (.int .u16 (c.r 5))).setCell ⟨b6, 6, none⟩ (.int .u16 (c.r 6))).setCell ⟨b6, 7, none⟩ (.int .u16 (c.r 7))).setCell ⟨b6, 8, none⟩ (.int .u16 c.PC)).setCell ⟨b6, 9, none⟩ (.bool c.Z)).setCell ⟨b6, 10, none⟩ (.bool c.N)).setCell ⟨b6, 11, none⟩ (.bool c.C)).setCell ⟨b6, 12, none⟩ (.bool c.V)).setCell ⟨b6, 13, none⟩ (.bool c.May)).setCell ⟨b6, 14, none⟩ (.bool c.Waits)).drew c s := (runW_6 h).same.all
theorem runS_7 (h7 : b7 ≠ br ∧ b7 ≠ bq ∧ w.heap.size ≤ b7) (h : RunW w B b6 b7 sb br bq vR vM rom l X c s) : ((X.setCell ⟨b7, 0, none⟩ vR).setCell ⟨b7, 1, none⟩ vM).drew.cell? ⟨b6, 0, none⟩ = some (.int .u16 (c.r 0)) ∧ ((X.setCell ⟨b7, 0, none⟩ vR).setCell ⟨b7, 1, none⟩ vM).drew.cell? ⟨b6, 1, none⟩ = some (.int .u16 (c.r 1)) ∧ ((X.setCell ⟨b7, 0, none⟩ vR).setCell ⟨b7, 1, none⟩ vM).drew.cell? ⟨b6, 2, none⟩ = some (.int .u16 (c.r 2)) ∧ ((X.setCell ⟨b7, 0, none⟩ vR).setCell ⟨b7, 1, none⟩ vM).drew.cell? ⟨b6, 3, none⟩ = some (.int .u16 (c.r 3)) ∧ ((X.setCell ⟨b7, 0, none⟩ vR).setCell ⟨b7, 1, none⟩ vM).drew.cell? ⟨b6, 4, none⟩ = some (.int .u16 (c.r 4)) ∧ ((X.setCell ⟨b7, 0, none⟩ vR).setCell ⟨b7, 1, none⟩ vM).drew.cell? ⟨b6, 5, none⟩ = some (.int .u16 (c.r 5)) ∧ ((X.setCell ⟨b7, 0, none⟩ vR).setCell ⟨b7, 1, none⟩ vM).drew.cell? ⟨b6, 6, none⟩ = some (.int .u16 (c.r 6)) ∧ ((X.setCell ⟨b7, 0, none⟩ vR).setCell ⟨b7, 1, none⟩ vM).drew.cell? ⟨b6, 7, none⟩ = some (.int .u16 (c.r 7)) ∧ ((X.setCell ⟨b7, 0, none⟩ vR).setCell ⟨b7, 1, none⟩ vM).drew.cell? ⟨b6, 8, none⟩ = some (.int .u16 c.PC) ∧ ((X.setCell ⟨b7, 0, none⟩ vR).setCell ⟨b7, 1, none⟩ vM).drew.cell? ⟨b6, 9, none⟩ = some (.bool c.Z) ∧ ((X.setCell ⟨b7, 0, none⟩ vR).setCell ⟨b7, 1, none⟩ vM).drew.cell? ⟨b6, 10, none⟩ = some (.bool c.N) ∧ ((X.setCell ⟨b7, 0, none⟩ vR).setCell ⟨b7, 1, none⟩ vM).drew.cell? ⟨b6, 11, none⟩ = some (.bool c.C) ∧ ((X.setCell ⟨b7, 0, none⟩ vR).setCell ⟨b7, 1, none⟩ vM).drew.cell? ⟨b6, 12, none⟩ = some (.bool c.V) ∧ ((X.setCell ⟨b7, 0, none⟩ vR).setCell ⟨b7, 1, none⟩ vM).drew.cell? ⟨b6, 13, none⟩ = some (.bool c.May) ∧ ((X.setCell ⟨b7, 0, none⟩ vR).setCell ⟨b7, 1, none⟩ vM).drew.cell? ⟨b6, 14, none⟩ = some (.bool c.Waits) ∧ ((X.setCell ⟨b7, 0, none⟩ vR).setCell ⟨b7, 1, none⟩ vM).drew.cell? ⟨b7, 0, none⟩ = some vR ∧ ((X.setCell ⟨b7, 0, none⟩ vR).setCell ⟨b7, 1, none⟩ vM).drew.cell? ⟨b7, 1, none⟩ = some vM ∧ RunW w B b6 b7 sb br bq vR vM rom l ((X.setCell ⟨b7, 0, none⟩ vR).setCell ⟨b7, 1, none⟩ vM).drew c s := (h.put7 h7).same.all
theorem run_h7 {w2 w3 w4 : World} {o o' : Obj} (z2 : w.heap.size + 1 + 1 < w2.heap.size) (hx3 : w3.heap[w2.heap.size]? = some o) (hb4 : Below (w3.alloc o').heap.size (w3.alloc o') w4) : w.heap.size + 1 + 1 ≠ w3.heap.size ∧ w.heap.size + 1 + 1 ≠ w4.heap.size ∧ w.heap.size ≤ w.heap.size + 1 + 1 := by
  have h1 := (Array.getElem?_eq_some_iff.1 hx3).1
  have h2 : w3.heap.size < w4.heap.size := Nat.lt_of_lt_of_le (by simp) hb4.size
  omega
end
theorem run_mid {w w2 w3 : World} {x y : Value} (hbB : Below w.heap.size w w2) (hb3 : Below w2.heap.size ((w2.setCell ⟨w.heap.size + 1 + 1, 0, none⟩ x).setCell ⟨w.heap.size + 1 + 1, 1, none⟩ y) w3) : Below w.heap.size w w3 :=
  ((hbB.setCell (by simp; omega) _).setCell (by simp; omega) _).trans (hb3.mono hbB.size)
set_option maxRecDepth 100000 in
set_option maxHeartbeats 3200000 in
theorem run_ok (v1 v2 v3 : Value) (rom ram : List UInt8) (l : List Int) (n : Nat) (hn : n ≤ 500) (w : World) (h1 : sliceAt w v1 rom) (h2 : sliceAt w v2 ram) (h3 : intsAt w v3 l) (hl3 : l.length ≤ maxLen) (hl1 : rom.length ≤ 1024) (hl2 : ram.length ≤ 256) (hs : shapesAt w) :
    Calls Tryd.prog 5 #[.agg #[v1, v2], .int .i64 n, v3] w fun e w' => ∃ vR vM, e = .returned (.tuple #[cpuV (runTo (spc rom) ram (rg l) n).1, .agg #[vR, vM], .int .i64 (runTo (spc rom) ram (rg l) n).2.2, .int .i64 0]) ∧ sliceAt w' vR rom ∧ sliceAt w' vM (runTo (spc rom) ram (rg l) n).2.1 ∧ (runTo (spc rom) ram (rg l) n).1.ok ∧ Below w.heap.size w w' := by
  have H1 := hid h1
  have H2 := hid h2
  have H3 := hid h3
  obtain ⟨a1, k1, x1⟩ := slice_len h1
  obtain ⟨a2, k2, x2⟩ := slice_len h2
  obtain ⟨a3, k3, x3⟩ := ints_len h3
  subst x1 x2 x3
  obtain ⟨c0, hc0⟩ : ∃ c0, (C.begin' (spc rom) ram).1 = c0 := ⟨_, rfl⟩
  have HBG := hid (fun B sb vR vM W hI => begin_sp B sb vR vM rom ram W hI)
  simp only [hc0] at HBG
  have HC0 := hid hc0
  clear hc0
  have HS := hid hs
  have HCK := fun W : World => hid (chk_any a1 a2 rom.length ram.length k1 k2 W)
  rw [if_neg (by omega)] at HCK
  clear h1 h2 h3 hs
  go_enter Tryd.func5, Tryd.ntmps5
  go_wp2_with (first
    | (go_at_call 9; refine (HCK _).out.mono ?_; rintro e w1 ⟨rfl, hb1⟩; have hbA := hid (stp (stA (stA (stA (st0 w) _) _) _) hb1); obtain ⟨kk1, ff1⟩ := bcell hb1; have z1 : w.heap.size + 1 + 1 < w1.heap.size := Nat.lt_of_lt_of_le (by simp) hb1.size)
    | (go_at_call 11; refine (copyOf_any _ _ rom ram _ (H1.out.kept hbA.out) (H2.out.kept hbA.out) hl1 hl2).mono ?_; rintro e w2 ⟨vR, vM, rfl, hcop, hb2⟩; obtain ⟨aR, cR, rfl⟩ := own_slice hcop.1; obtain ⟨aM, cM, rfl⟩ := own_slice hcop.2.1; have HCOP := hid hcop; have hbB := hid (stp hbA.out hb2); obtain ⟨kk2, ff2⟩ := bcell hb2; have z2 := Nat.lt_of_lt_of_le z1 hb2.size; clear hcop)
    | (go_at_call 12; refine (reachOf_any _ _ aR aM rom.length ram.length cR cM rfl rfl _).mono ?_; rintro e w3 ⟨rfl, hx3, hb3⟩; rw [setCell_size, setCell_size] at hx3 hb3; have HX3 := hid hx3; have HB3 := hid hb3; have HBC := hid (run_mid hbB.out hb3); clear hx3 hb3 kk1 ff1 kk2 ff2)
    | (go_at_call 13; refine (rungAt_any _ l _ (H3.out.kept (stA HBC.out _)) hl3).mono ?_; rintro e w4 ⟨rfl, hb4⟩; have HB4 := hid hb4; clear hb4)
    | (refine wpList_store_mid rfl 46 (.tmp 12) (.tmp 35) rfl w4.heap.size 0 (rcl l).toArray rfl rfl ?_ ?_ ?_ ?_
       · rw [show (rcl l).toArray.size = 500 from rcl_len l]; exact there_new w4 _ _ 500 zero_size
       · rw [show (rcl l).toArray.size = 500 from rcl_len l]; exact info_500
       · exact all_oneCell_toArray (rcl_one l)
       refine cutL (fun W => RunW w w1.heap.size (w.heap.size + 1) (w.heap.size + 1 + 1) w2.heap.size w3.heap.size w4.heap.size (.slice aR rom.length cR) (.slice aM ram.length cM) rom l W C.Cpu.zero ram) ?_ ?_
       · exact run_start (R := .cells #[] 0) HS.out ⟨hl1, hl2⟩ hb1 HCOP.out hb2 HX3.out HB3.out HB4.out
       have H7 := hid (run_h7 z2 HX3.out HB4.out)
       clear hb1 hb2 HCOP hbA hbB HX3 HB3 HB4 HBC
       rintro W hR
       have r0 := hR.r0
       have r1 := hR.r1
       have HRW := hid hR
       clear hR)
    | (go_at_call 14; refine (HBG.out w1.heap.size w2.heap.size (.slice aR rom.length cR) (.slice aM ram.length cM) _ HRW.out.sp).mono ?_; rintro e w5 ⟨rfl, hI5, hm5, hok5⟩; have HR5 := hid (HRW.out.moved hI5 hm5); have HO5 := hid hok5; clear hI5 hm5 hok5 HRW)
    | (refine wpList_store_mid rfl 28 (.tmp 6) (.tmp 37) rfl (w.heap.size + 1) 0 _ rfl rfl ?_ ?_ ?_ ?_
       · exact HR5.out.cth
       · exact info_cpu
       · exact cpuL_one c0
       refine cutL (fun W => RunW w w1.heap.size (w.heap.size + 1) (w.heap.size + 1 + 1) w2.heap.size w3.heap.size w4.heap.size (.slice aR rom.length cR) (.slice aM ram.length cM) rom l W c0 ram) ?_ ?_
       · exact HR5.out.put HO5.out
       clear HR5 HO5 r0 r1
       rintro W6 hR6
       have HR6 := hid hR6
       clear hR6))
  go_loopw [8, 39] (fun cy i wr => ∃ k : Nat, k ≤ n ∧ cy = .int .i64 (runTo (spc rom) ram (rg l) k).2.2 ∧ i = .int .i64 k ∧ RunW w w1.heap.size (w.heap.size + 1) (w.heap.size + 1 + 1) w2.heap.size w3.heap.size w4.heap.size (.slice aR rom.length cR) (.slice aM ram.length cM) rom l wr (runTo (spc rom) ram (rg l) k).1 (runTo (spc rom) ram (rg l) k).2.1) (fun _ i _ => n - (intOf i).toNat)
  case atStart =>
    refine ⟨0, by omega, rfl, rfl, ?_⟩
    have := HR6.out
    rw [← HC0.out] at this
    exact this
  case round =>
    clear HR6
    obtain ⟨k, hk, rfl, rfl, hA⟩ := hrel
    obtain ⟨⟨c, s, cy⟩, hy⟩ : ∃ y, runTo (spc rom) ram (rg l) k = y := ⟨_, rfl⟩
    have hcy := runTo_n rom ram (rg l) k
    rw [hy] at hA hcy
    rw [hy]
    have HYK := hid hy
    clear hy
    have HA : Hid (RunW w w1.heap.size (w.heap.size + 1) (w.heap.size + 1 + 1) w2.heap.size w3.heap.size w4.heap.size (.slice aR rom.length cR) (.slice aM ram.length cM) rom l wr c s) := hA
    clear hA
    by_cases hkn : k < n
    · obtain ⟨st, hst⟩ : ∃ st, C.step (spc rom) c s (rg l k) = st := ⟨_, rfl⟩
      have HD := hid (fun (X : World) (hI : SpI w1.heap.size w2.heap.size (.slice aR rom.length cR) (.slice aM ram.length cM) rom X s) => do_any (space_rs w1.heap.size w2.heap.size (.slice aR rom.length cR) (.slice aM ram.length cM) rom) (rg l k) X c s HA.out.ok hI)
      have hsn := sp_step_n rom c s (rg l k)
      rw [hst] at HD hsn
      have HST := hid hst
      clear hst
      have hk5 : k < 500 := by omega
      have hk5' : (k : Int) < 500 := by omega
      have r0 := HA.out.r0
      have r1 := HA.out.r1
      have q0 : wr.cell? ⟨w4.heap.size, k, none⟩ = some (.bool (rg l k)) := by have := HA.out.q k _ (rcl_at l k hk5); rwa [Nat.zero_add] at this
      have e0 : wr.cell? ⟨w.heap.size + 1, 0, none⟩ = some (.int .u16 (c.r 0)) := HA.out.hc 0 _ rfl
      have e1 : wr.cell? ⟨w.heap.size + 1, 1, none⟩ = some (.int .u16 (c.r 1)) := HA.out.hc 1 _ rfl
      have e2 : wr.cell? ⟨w.heap.size + 1, 2, none⟩ = some (.int .u16 (c.r 2)) := HA.out.hc 2 _ rfl
      have e3 : wr.cell? ⟨w.heap.size + 1, 3, none⟩ = some (.int .u16 (c.r 3)) := HA.out.hc 3 _ rfl
      have e4 : wr.cell? ⟨w.heap.size + 1, 4, none⟩ = some (.int .u16 (c.r 4)) := HA.out.hc 4 _ rfl
      have e5 : wr.cell? ⟨w.heap.size + 1, 5, none⟩ = some (.int .u16 (c.r 5)) := HA.out.hc 5 _ rfl
      have e6 : wr.cell? ⟨w.heap.size + 1, 6, none⟩ = some (.int .u16 (c.r 6)) := HA.out.hc 6 _ rfl
      have e7 : wr.cell? ⟨w.heap.size + 1, 7, none⟩ = some (.int .u16 (c.r 7)) := HA.out.hc 7 _ rfl
      have e8 : wr.cell? ⟨w.heap.size + 1, 8, none⟩ = some (.int .u16 c.PC) := HA.out.hc 8 _ rfl
      have e9 : wr.cell? ⟨w.heap.size + 1, 9, none⟩ = some (.bool c.Z) := HA.out.hc 9 _ rfl
      have e10 : wr.cell? ⟨w.heap.size + 1, 10, none⟩ = some (.bool c.N) := HA.out.hc 10 _ rfl
      have e11 : wr.cell? ⟨w.heap.size + 1, 11, none⟩ = some (.bool c.C) := HA.out.hc 11 _ rfl
      have e12 : wr.cell? ⟨w.heap.size + 1, 12, none⟩ = some (.bool c.V) := HA.out.hc 12 _ rfl
      have e13 : wr.cell? ⟨w.heap.size + 1, 13, none⟩ = some (.bool c.May) := HA.out.hc 13 _ rfl
      have e14 : wr.cell? ⟨w.heap.size + 1, 14, none⟩ = some (.bool c.Waits) := HA.out.hc 14 _ rfl
      have zq := (HA.out.nT _ (Or.inr (Or.inr (Or.inr rfl)))).2
      have zr := (HA.out.nT _ (Or.inr (Or.inr (Or.inl rfl)))).2
      have zc := (HA.out.nT _ (Or.inl rfl)).2
      go_wp2
      go_region_with (go_at_call 15; refine (HD.out _ HA.out.same.sp).mono ?_; rintro e w7 ⟨rfl, hI7, hm7, hok7⟩; have HR7 := hid (HA.out.same.moved hI7 hm7); have p0 : w7.cell? ⟨w.heap.size + 1, 0, none⟩ = some (.int .u16 (c.r 0)) := HR7.out.hc 0 _ rfl; have p1 : w7.cell? ⟨w.heap.size + 1, 1, none⟩ = some (.int .u16 (c.r 1)) := HR7.out.hc 1 _ rfl; have p2 : w7.cell? ⟨w.heap.size + 1, 2, none⟩ = some (.int .u16 (c.r 2)) := HR7.out.hc 2 _ rfl; have p3 : w7.cell? ⟨w.heap.size + 1, 3, none⟩ = some (.int .u16 (c.r 3)) := HR7.out.hc 3 _ rfl; have p4 : w7.cell? ⟨w.heap.size + 1, 4, none⟩ = some (.int .u16 (c.r 4)) := HR7.out.hc 4 _ rfl; have p5 : w7.cell? ⟨w.heap.size + 1, 5, none⟩ = some (.int .u16 (c.r 5)) := HR7.out.hc 5 _ rfl; have p6 : w7.cell? ⟨w.heap.size + 1, 6, none⟩ = some (.int .u16 (c.r 6)) := HR7.out.hc 6 _ rfl; have p7 : w7.cell? ⟨w.heap.size + 1, 7, none⟩ = some (.int .u16 (c.r 7)) := HR7.out.hc 7 _ rfl; have p8 : w7.cell? ⟨w.heap.size + 1, 8, none⟩ = some (.int .u16 c.PC) := HR7.out.hc 8 _ rfl; have p9 : w7.cell? ⟨w.heap.size + 1, 9, none⟩ = some (.bool c.Z) := HR7.out.hc 9 _ rfl; have p10 : w7.cell? ⟨w.heap.size + 1, 10, none⟩ = some (.bool c.N) := HR7.out.hc 10 _ rfl; have p11 : w7.cell? ⟨w.heap.size + 1, 11, none⟩ = some (.bool c.C) := HR7.out.hc 11 _ rfl; have p12 : w7.cell? ⟨w.heap.size + 1, 12, none⟩ = some (.bool c.V) := HR7.out.hc 12 _ rfl; have p13 : w7.cell? ⟨w.heap.size + 1, 13, none⟩ = some (.bool c.May) := HR7.out.hc 13 _ rfl; have p14 : w7.cell? ⟨w.heap.size + 1, 14, none⟩ = some (.bool c.Waits) := HR7.out.hc 14 _ rfl; have pf := HR7.out.cf; have z7 := (HR7.out.nT _ (Or.inl rfl)).2; have HO7 := hid hok7; clear hI7 hm7 hok7)
      all_goals go_wp2
      all_goals
        have hk1 : runTo (spc rom) ram (rg l) (k + 1) = (st.c, st.s, cy + st.n) := by simp only [runTo, HYK.out, HST.out]
        rw [nested_eq]
        exact ⟨⟨k + 1, by omega, by rw [hk1], by go_num, by rw [hk1]; exact HR7.out.put HO7.out⟩, by simp [intOf]; omega⟩
    · obtain rfl : k = n := by omega
      have e0 : wr.cell? ⟨w.heap.size + 1, 0, none⟩ = some (.int .u16 (c.r 0)) := HA.out.hc 0 _ rfl
      have e1 : wr.cell? ⟨w.heap.size + 1, 1, none⟩ = some (.int .u16 (c.r 1)) := HA.out.hc 1 _ rfl
      have e2 : wr.cell? ⟨w.heap.size + 1, 2, none⟩ = some (.int .u16 (c.r 2)) := HA.out.hc 2 _ rfl
      have e3 : wr.cell? ⟨w.heap.size + 1, 3, none⟩ = some (.int .u16 (c.r 3)) := HA.out.hc 3 _ rfl
      have e4 : wr.cell? ⟨w.heap.size + 1, 4, none⟩ = some (.int .u16 (c.r 4)) := HA.out.hc 4 _ rfl
      have e5 : wr.cell? ⟨w.heap.size + 1, 5, none⟩ = some (.int .u16 (c.r 5)) := HA.out.hc 5 _ rfl
      have e6 : wr.cell? ⟨w.heap.size + 1, 6, none⟩ = some (.int .u16 (c.r 6)) := HA.out.hc 6 _ rfl
      have e7 : wr.cell? ⟨w.heap.size + 1, 7, none⟩ = some (.int .u16 (c.r 7)) := HA.out.hc 7 _ rfl
      have e8 : wr.cell? ⟨w.heap.size + 1, 8, none⟩ = some (.int .u16 c.PC) := HA.out.hc 8 _ rfl
      have e9 : wr.cell? ⟨w.heap.size + 1, 9, none⟩ = some (.bool c.Z) := HA.out.hc 9 _ rfl
      have e10 : wr.cell? ⟨w.heap.size + 1, 10, none⟩ = some (.bool c.N) := HA.out.hc 10 _ rfl
      have e11 : wr.cell? ⟨w.heap.size + 1, 11, none⟩ = some (.bool c.C) := HA.out.hc 11 _ rfl
      have e12 : wr.cell? ⟨w.heap.size + 1, 12, none⟩ = some (.bool c.V) := HA.out.hc 12 _ rfl
      have e13 : wr.cell? ⟨w.heap.size + 1, 13, none⟩ = some (.bool c.May) := HA.out.hc 13 _ rfl
      have e14 : wr.cell? ⟨w.heap.size + 1, 14, none⟩ = some (.bool c.Waits) := HA.out.hc 14 _ rfl
      have o0 := HA.out.o0
      have o1 := HA.out.o1
      have ef := HA.out.cf
      have of := HA.out.of
      have zc := (HA.out.nT _ (Or.inl rfl)).2
      have zo := (HA.out.nT _ (Or.inr (Or.inl rfl))).2
      go_wp2
      go_region_held3 (fun w' => w'.cell? ⟨w.heap.size + 1, 0, none⟩ = some (.int .u16 (c.r 0)) ∧ w'.cell? ⟨w.heap.size + 1, 1, none⟩ = some (.int .u16 (c.r 1)) ∧ w'.cell? ⟨w.heap.size + 1, 2, none⟩ = some (.int .u16 (c.r 2)) ∧ w'.cell? ⟨w.heap.size + 1, 3, none⟩ = some (.int .u16 (c.r 3)) ∧ w'.cell? ⟨w.heap.size + 1, 4, none⟩ = some (.int .u16 (c.r 4)) ∧ w'.cell? ⟨w.heap.size + 1, 5, none⟩ = some (.int .u16 (c.r 5)) ∧ w'.cell? ⟨w.heap.size + 1, 6, none⟩ = some (.int .u16 (c.r 6)) ∧ w'.cell? ⟨w.heap.size + 1, 7, none⟩ = some (.int .u16 (c.r 7)) ∧ w'.cell? ⟨w.heap.size + 1, 8, none⟩ = some (.int .u16 c.PC) ∧ w'.cell? ⟨w.heap.size + 1, 9, none⟩ = some (.bool c.Z) ∧ w'.cell? ⟨w.heap.size + 1, 10, none⟩ = some (.bool c.N) ∧ w'.cell? ⟨w.heap.size + 1, 11, none⟩ = some (.bool c.C) ∧ w'.cell? ⟨w.heap.size + 1, 12, none⟩ = some (.bool c.V) ∧ w'.cell? ⟨w.heap.size + 1, 13, none⟩ = some (.bool c.May) ∧ w'.cell? ⟨w.heap.size + 1, 14, none⟩ = some (.bool c.Waits) ∧ w'.cell? ⟨w.heap.size + 1 + 1, 0, none⟩ = some (.slice aR rom.length cR) ∧ w'.cell? ⟨w.heap.size + 1 + 1, 1, none⟩ = some (.slice aM ram.length cM) ∧ RunW w w1.heap.size (w.heap.size + 1) (w.heap.size + 1 + 1) w2.heap.size w3.heap.size w4.heap.size (.slice aR rom.length cR) (.slice aM ram.length cM) rom l w' c s)
        (first
          | with_reducible exact HA.out.same.all
          | with_reducible exact runS_6 HA.out
          | with_reducible exact runS_7 H7.out HA.out
          | with_reducible exact runS_7 H7.out (runW_6 HA.out)
          | with_reducible exact runS_6 (HA.out.put7 H7.out)
          | (go_keep; done))
        (fail)
      go_wp2
      refine cutB (fun Y => RunW w w1.heap.size (w.heap.size + 1) (w.heap.size + 1 + 1) w2.heap.size w3.heap.size w4.heap.size (.slice aR rom.length cR) (.slice aM ram.length cM) rom l Y c s) ((runW_6 HA.out).put7 H7.out).same ?_
      rintro Y hY
      rw [HYK.out]
      have hrB : Y.rangeAt (w.heap.size + 1 + 1) 0 [.slice aR rom.length cR, .slice aM ram.length cM] := fun j v hj => by
        match j, hj with
        | 0, hj => cases hj; exact hY.o0
        | 1, hj => cases hj; exact hY.o1
      have hl := load_cpu Y _ c hY.hc
      have hl2 := run_loadVar_mid (P := Tryd.prog) Y _ 0 24 _ _ hrB Tryd.underlying24 rfl info_space
      refine bodyPost_ret (v := .tuple #[cpuV c, .agg #[.slice aR rom.length cR, .slice aM ram.length cM], .int .i64 cy, .int .i64 0]) ?_ rfl ⟨_, _, rfl, slice_of_own hY.sp.hrom, slice_of_own hY.sp.hram, hY.ok, hY.low⟩
      simp only [results, Tryd.results5]
      simp
      show (Result.andThen (Sem.run Tryd.prog (loadVar 28 ⟨w.heap.size + 1, 0, none⟩) Y) _) = _
      rw [hl]
      show (Result.andThen (Sem.run Tryd.prog (loadVar 24 ⟨w.heap.size + 1 + 1, 0, none⟩) Y) _) = _
      rw [hl2]
      rfl
theorem run_fact (v1 v2 : Value) (w : World) (h1 : sliceAt w v1 romS) (h2 : sliceAt w v2 ramS) (hs : shapesAt w) :
    Calls Tryd.prog 5 #[.agg #[v1, v2], .int .i64 1, .slice none 0 0] w fun e w' => ∃ (c : C.Cpu) (vR vM : Value), e = .returned (.tuple #[cpuV c, .agg #[vR, vM], .int .i64 1, .int .i64 0]) ∧ c.r 1 = 65535 ∧ c.N = true ∧ c.PC = 8 ∧ sliceAt w' vR romS ∧ (∃ l, sliceAt w' vM l) ∧ Below w.heap.size w w' := by
  refine (run_ok v1 v2 (.slice none 0 0) romS ramS [] 1 (by omega) w h1 h2 (Or.inl ⟨none, 0, rfl, rfl⟩) (by simp) (by decide) (by decide) hs).mono ?_
  rintro e w' ⟨vR, vM, rfl, hR, hM, _, hb⟩
  exact ⟨_, vR, vM, by rw [runS.2.2.2], runS.1, runS.2.1, runS.2.2.1, hR, ⟨_, hM⟩, hb⟩
theorem step_fact (v1 v2 : Value) (w : World) (h1 : sliceAt w v1 romS) (h2 : sliceAt w v2 ramS) (hs : shapesAt w) :
    Calls Tryd.prog 7 #[cpuV cpuS, .agg #[v1, v2], .bool true] w fun e w' => ∃ (c : C.Cpu) (vR vM : Value), e = .returned (.tuple #[cpuV c, .agg #[vR, vM], .int .i64 6, .int .i64 0]) ∧ c.PC = 8 ∧ c.May = false ∧ sliceAt w' vR romS ∧ sliceAt w' vM [0, 0, 0, 0, 0, 16, 0, 6] ∧ Below w.heap.size w w' := by
  refine (step_ok cpuS cpuS_ok v1 v2 romS ramS true w h1 h2 (by decide) (by decide) hs).mono ?_
  rintro e w' ⟨vR, vM, rfl, hR, hM, _, hb⟩
  exact ⟨_, vR, vM, by rw [stepS.1], stepS.2.1, stepS.2.2.1, hR, by rw [stepS.2.2.2] at hM; exact hM, hb⟩
theorem mk8 (w : World) : (Instr.makeSlice 22 (.int .i64 8) (.int .i64 8)).run Tryd.prog w = .ok (.slice (some ⟨w.heap.size, 0, none⟩) 8 8) (w.alloc (.cells #[.int .u8 0, .int .u8 0, .int .u8 0, .int .u8 0, .int .u8 0, .int .u8 0, .int .u8 0, .int .u8 0] 5)) := by kernel_rfl
theorem slice_blk {w : World} {b : Nat} {l : List UInt8} {t : TypeId} (h : w.heap[b]? = some (.cells (bcs l).toArray t (0, 0))) (n : Nat) (hn : l.length = n) : sliceAt w (.slice (some ⟨b, 0, none⟩) n n) l := by
  subst hn
  refine Or.inr ⟨b, 0, l.length, rfl, Nat.le_refl _, (Array.getElem?_eq_some_iff.1 h).1, fun j c hj => ?_⟩
  rw [Nat.zero_add, Lib.cell_of_heap h j]
  simp [bcs, hj]
theorem sd_box {w w1 : World} {o1 o2 : Obj} {x y : Value} (hb : Below (((w.alloc o1).alloc o2).alloc (.cells #[x, y] 24)).heap.size (((w.alloc o1).alloc o2).alloc (.cells #[x, y] 24)) w1) : w1.cell? ⟨w.heap.size + 1 + 1, 0, none⟩ = some x ∧ w1.cell? ⟨w.heap.size + 1 + 1, 1, none⟩ = some y ∧ w.heap.size + 1 + 1 < w1.heap.size ∧ w.heap.size + 1 + 1 < w1.heap.size + 1 := by
  have z : w.heap.size + 1 + 1 < w1.heap.size := Nat.lt_of_lt_of_le (by simp) hb.size
  exact ⟨(hb.cell (p := ⟨w.heap.size + 1 + 1, 0, none⟩) (by simp)).trans (cell_new _ _ _ _ (by simp)), (hb.cell (p := ⟨w.heap.size + 1 + 1, 1, none⟩) (by simp)).trans (cell_new _ _ _ _ (by simp)), z, by omega⟩
theorem sd_rows {w w1 : World} {o3 : Obj} (hb : Below (((w.alloc (.cells #[.int .u8 0, .int .u8 6, .int .u8 0, .int .u8 8, .int .u8 0, .int .u8 0, .int .u8 121, .int .u8 31, .int .u8 0, .int .u8 0] 5)).alloc (.cells #[.int .u8 0, .int .u8 0, .int .u8 0, .int .u8 0, .int .u8 0, .int .u8 0, .int .u8 0, .int .u8 0] 5)).alloc o3).heap.size (((w.alloc (.cells #[.int .u8 0, .int .u8 6, .int .u8 0, .int .u8 8, .int .u8 0, .int .u8 0, .int .u8 121, .int .u8 31, .int .u8 0, .int .u8 0] 5)).alloc (.cells #[.int .u8 0, .int .u8 0, .int .u8 0, .int .u8 0, .int .u8 0, .int .u8 0, .int .u8 0, .int .u8 0] 5)).alloc o3) w1) :
    sliceAt w1 (.slice (some ⟨w.heap.size, 0, none⟩) 10 10) romS ∧ sliceAt w1 (.slice (some ⟨w.heap.size + 1, 0, none⟩) 8 8) ramS :=
  ⟨(slice_blk (l := romS) ((heap_alloc_old _ _ (by simp; omega)).trans ((heap_alloc_old _ _ (by simp)).trans (heap_alloc_new w _))) 10 rfl).kept hb, (slice_blk (l := ramS) ((heap_alloc_old _ _ (by simp)).trans (heap_new_at _ _ _ (by simp))) 8 rfl).kept hb⟩
theorem sd_c {w w1 : World} {o : Obj} {cs : Array Value} {t : TypeId} (hb : Below ((w.alloc (.cells cs t)).alloc o).heap.size ((w.alloc (.cells cs t)).alloc o) w1) : (∀ j, w1.cell? ⟨w.heap.size, j, none⟩ = cs[j]?) ∧ w.heap.size < w1.heap.size ∧ w.heap.size < w1.heap.size + 1 := by
  have z : w.heap.size < w1.heap.size := Nat.lt_of_lt_of_le (by simp; omega) hb.size
  exact ⟨fun j => (hb.cell (p := ⟨w.heap.size, j, none⟩) (by simp; omega)).trans (qz _ _ _ _ _ rfl), z, by omega⟩
set_option maxRecDepth 100000 in
set_option maxHeartbeats 3200000 in
theorem stepped_any (w : World) (hs : shapesAt w) : Calls Tryd.prog 6 #[] w fun e w' => e = .returned (.bool true) ∧ Below w.heap.size w w' := by
  have HS := hid hs
  clear hs
  have m8 := mk8
  go_enter Tryd.func6, Tryd.ntmps6
  go_wp2_with (first
    | (go_at_call 5; refine (run_fact _ _ _ ?_ ?_ ?_).mono ?_; (exact slice_blk (l := romS) ((heap_alloc_old _ _ (by simp; omega)).trans ((heap_alloc_old _ _ (by simp)).trans (heap_alloc_new w _))) 10 rfl); (exact slice_blk (l := ramS) ((heap_alloc_old _ _ (by simp)).trans (heap_new_at _ _ _ (by simp))) 8 rfl); (exact HS.out.kept (stA (stA (stA (st0 w) _) _) _)); rintro e w1 ⟨c1, vR1, vM1, rfl, f1, f2, f3, hR1, ⟨lM1, hM1⟩, hb1⟩; obtain ⟨aR1, kR1, rfl⟩ := slice_len hR1; obtain ⟨aM1, kM1, rfl⟩ := slice_len hM1; have B1 := hid (stp (stA (stA (stA (st0 w) _) _) _) hb1); obtain ⟨s0, s1, z1, z1b⟩ := sd_box hb1; have HR := hid (sd_rows hb1); clear hb1)
    | (go_at_call 7; refine (step_fact _ _ _ (HR.out.1.kept (stA (stA (st0 w1) _) _)) (HR.out.2.kept (stA (stA (st0 w1) _) _)) (HS.out.kept (stA (stA B1.out _) _))).mono ?_; rintro e w2 ⟨c2, vR2, vM2, rfl, g1, g2, hR2, hM2, hb2⟩; obtain ⟨aR2, kR2, rfl⟩ := slice_len hR2; obtain ⟨aM2, kM2, rfl⟩ := slice_len hM2; have B2 := hid (stp (stA (stA B1.out _) _) hb2); obtain ⟨cc, z2, z2b⟩ := sd_c hb2; have d1 : w2.cell? ⟨w1.heap.size, 1, none⟩ = some (.int .u16 65535) := cc 1; have d8 : w2.cell? ⟨w1.heap.size, 8, none⟩ = some (.int .u16 8) := cc 8; have d10 : w2.cell? ⟨w1.heap.size, 10, none⟩ = some (.bool true) := cc 10; have HM2 := hid hM2; clear hb2 cc hR2 hM2 s0 s1)
    | (go_at_call 16; refine (equal_any _ _ [0, 0, 0, 0, 0, 16, 0, 6] [0, 0, 0, 0, 0, 16, 0, 6] _ (HM2.out.kept (stA (stA (stA (st0 w2) _) _) _)) ?_).mono ?_; (exact slice_blk (l := [0, 0, 0, 0, 0, 16, 0, 6]) (heap_new_at _ _ _ (by simp)) 8 rfl); rintro e w3 ⟨rfl, rfl⟩))
  go_ret
  exact ⟨rfl, stA (stA (stA B2.out _) _) _⟩
end Go.Proofs.YthfngejmihdafaaDoor
