/-
  A processor of package cpu in memory, over whatever it comes to: what its block holds, what a store into it leaves, and which blocks a step may touch.
-/
import Derived.Test.YtombboeonffejaaGreatDoorOrdN
import Derived.Test.YtombboeonffejaaGreatDoorCpuM
import Derived.Lib.Builder
namespace Go.Proofs.YtombboeonffejaaGreatDoor
open Go.ChangeShapes Go.WideShapes Go.ChangeAt Go.RowKit
set_option linter.unusedVariables false

/-- From w to w' nothing below B has turned, and nothing that was there outside T; T' is T and what is new. -/
structure Mv (B : Nat) (T T' : Nat → Prop) (w w' : World) : Prop where
  below : Below B w w'
  block : ∀ k, k < w.heap.size → ¬ T k → w'.heap[k]? = w.heap[k]?
  fresh : ∀ k, T' k → T k ∨ w.heap.size ≤ k
section
variable {B : Nat} {T T' T'' : Nat → Prop} {a b c w w' : World}
theorem Mv.size (h : Mv B T T' w w') : w.heap.size ≤ w'.heap.size := h.below.size
theorem Mv.refl (B : Nat) (T : Nat → Prop) (w : World) : Mv B T T w w := ⟨Below.refl _ _, fun _ _ _ => rfl, fun _ h => Or.inl h⟩
theorem Mv.trans (h : Mv B T T' a b) (k : Mv B T' T'' b c) : Mv B T T'' a c :=
  ⟨h.below.trans k.below, fun i hi ht => (k.block i (Nat.lt_of_lt_of_le hi h.size) (fun ht' => by rcases h.fresh i ht' with x | x; exact ht x; omega)).trans (h.block i hi ht),
    fun i hi => by
      rcases k.fresh i hi with x | x
      · exact h.fresh i x
      · exact Or.inr (Nat.le_trans h.size x)⟩
theorem Mv.of_below (hB : B ≤ w.heap.size) (h : Below w.heap.size w w') : Mv B T T w w' := ⟨h.mono hB, fun k hk _ => h.block k hk, fun _ h => Or.inl h⟩
theorem Mv.alloc (h : Mv B T T' w w') (hB : B ≤ w.heap.size) (o : Obj) : Mv B T T' w (w'.alloc o) :=
  ⟨h.below.alloc (Nat.le_trans hB h.size) o, fun k hk ht => (Below.heap_alloc _ _ _ (Nat.lt_of_lt_of_le hk h.size)).trans (h.block k hk ht), h.fresh⟩
theorem Mv.drew (h : Mv B T T' w w') : Mv B T T' w w'.drew := ⟨h.below.drew, h.block, h.fresh⟩
theorem Mv.drewN (h : Mv B T T' w w') (n : Nat) : Mv B T T' w (w'.drewN n) := ⟨below_draws h.below n, h.block, h.fresh⟩
theorem Mv.setCell (h : Mv B T T' w w') {p : Addr} (hB : B ≤ p.block) (hp : T p.block ∨ w.heap.size ≤ p.block) (u : Value) : Mv B T T' w (w'.setCell p u) :=
  ⟨h.below.setCell hB u, fun k hk ht => (Below.heap_setCell _ _ _ _ (fun e => by subst e; rcases hp with x | x; exact ht x; omega)).trans (h.block k hk ht), h.fresh⟩
theorem Mv.cell (h : Mv B T T' w w') {k : Nat} (hk : k < w.heap.size) (ht : ¬ T k) (o : Nat) : w'.cell? ⟨k, o, none⟩ = w.cell? ⟨k, o, none⟩ := World.cell?_of_block (w := w) (h.block k hk ht)
theorem Mv.froz (h : Mv B T T' w w') {k : Nat} (hk : k < w.heap.size) (ht : ¬ T k) (o : Nat) : w'.frozen? ⟨k, o, none⟩ = w.frozen? ⟨k, o, none⟩ := World.frozen?_of_block (w := w) (h.block k hk ht)
/-- The same, where another block may be written besides. -/
theorem Mv.also (h : Mv B T T' w w') (p : Nat) : Mv B (fun k => k = p ∨ T k) (fun k => k = p ∨ T' k) w w' :=
  ⟨h.below, fun k hk ht => h.block k hk (fun x => ht (Or.inr x)), fun k hk => by
    rcases hk with x | x
    · exact Or.inl (Or.inl x)
    · rcases h.fresh k x with y | y
      · exact Or.inl (Or.inr y)
      · exact Or.inr y⟩
end

/-- A cut: of the world no more is kept than K says. -/
theorem cutW {P : Program} {code : Code} {Q : Exit → Act → World → Prop} {a : Act} {w : World} (K : World → Prop) (h : K w) (k : ∀ w', K w' → code.wp P Q a w') : code.wp P Q a w := k w h
/-- A function value. -/
abbrev fv (n : Nat) (cs : Array Value) : Value := .func (.func n) #[] cs
/-- What a processor comes to: a memory m, whose state s lies in the world as I says, in blocks T. -/
structure RS {σ : Type} (m : C.Mem σ) (B : Nat) (nr nw : Nat) (cr cw : Array Value) (I : World → σ → Prop) (T : σ → Nat → Prop) : Prop where
  lt : ∀ {w s}, I w s → ∀ k, T s k → k < w.heap.size
  keep : ∀ {w w' s}, I w s → w.heap.size ≤ w'.heap.size → (∀ k, T s k → w'.heap[k]? = w.heap[k]?) → I w' s
  shapes : ∀ {w s}, I w s → shapesAt w
  gT : ∀ {s}, T s 2
  byte : ∀ s a, 0 ≤ (m.rd s a).1 ∧ (m.rd s a).1 ≤ 255
  big : ∀ {w s}, I w s → B ≤ w.heap.size
  read : ∀ w s (a : Int), 0 ≤ a → a ≤ 65535 → I w s → Calls Tryz.prog 65 #[.agg #[fv nr cr, fv nw cw], .int .u16 a] w fun e w' => e = .returned (.int .u8 (m.rd s a).1) ∧ I w' (m.rd s a).2 ∧ Mv B (T s) (T (m.rd s a).2) w w'
  write : ∀ w s (a b : Int), 0 ≤ a → a ≤ 65535 → 0 ≤ b → b ≤ 255 → I w s → Calls Tryz.prog 81 #[.agg #[fv nr cr, fv nw cw], .int .u16 a, .int .u8 b] w fun e w' => e = .returned (.tuple #[]) ∧ I w' (m.wr s a b) ∧ Mv B (T s) (T (m.wr s a b)) w w'

def cpuCells (c : C.Cpu) : List Value := c.R.map (Value.int .u16) ++ [.int .u16 c.PC, .bool c.Z, .bool c.N, .bool c.C, .bool c.V, .bool c.May, .bool c.Waits]
def pcells (c : C.Cpu) (fr fw : Value) (n : Int) : Array Value := (cpuCells c ++ [fr, fw, .int .i64 n]).toArray
/-- A processor as a value. -/
abbrev cpuV (c : C.Cpu) : Value := .agg #[.int .u16 (c.r 0), .int .u16 (c.r 1), .int .u16 (c.r 2), .int .u16 (c.r 3), .int .u16 (c.r 4), .int .u16 (c.r 5), .int .u16 (c.r 6), .int .u16 (c.r 7), .int .u16 c.PC, .bool c.Z, .bool c.N, .bool c.C, .bool c.V, .bool c.May, .bool c.Waits]
theorem reg8 {l : List Int} (h : l.length = 8) : ∃ a0 a1 a2 a3 a4 a5 a6 a7, l = [a0, a1, a2, a3, a4, a5, a6, a7] := by
  match l, h with
  | [a0, a1, a2, a3, a4, a5, a6, a7], _ => exact ⟨a0, a1, a2, a3, a4, a5, a6, a7, rfl⟩
section
variable {σ : Type} {m : C.Mem σ} {B nr nw : Nat} {cr cw : Array Value} {I : World → σ → Prop} {T : σ → Nat → Prop}
/-- The processor in the midst of a step, at block p. -/
structure PI (B : Nat) (nr nw : Nat) (cr cw : Array Value) (I : World → σ → Prop) (T : σ → Nat → Prop) (w : World) (p : Nat) (x : C.St σ) : Prop where
  inv : I w x.s
  own : ¬ T x.s p
  big : B ≤ p
  blk : w.heap[p]? = some (.cells (pcells x.c (fv nr cr) (fv nw cw) x.n) 83 (0, 0))
  ok : x.c.ok
/-- What the processor's functions may touch. -/
def PM (B : Nat) (T : σ → Nat → Prop) (p : Nat) (s s' : σ) (w w' : World) : Prop := Mv B (fun k => k = p ∨ T s k) (fun k => k = p ∨ T s' k) w w'
theorem PI.lt {w : World} {p : Nat} {x : C.St σ} (h : PI B nr nw cr cw I T w p x) : p < w.heap.size := (Array.getElem?_eq_some_iff.1 h.blk).1
theorem PI.frozen {w : World} {p : Nat} {x : C.St σ} (h : PI B nr nw cr cw I T w p x) (i : Nat) : w.frozen? ⟨p, i, none⟩ = false := Lib.frozen_of_heap h.blk i
theorem pcells_at {c : C.Cpu} (hc : c.R.length = 8) (fr fw : Value) (n : Int) :
    (∀ i : Nat, i < 8 → (pcells c fr fw n)[i]? = some (.int .u16 (c.r i))) ∧ (pcells c fr fw n)[8]? = some (.int .u16 c.PC) ∧ (pcells c fr fw n)[9]? = some (.bool c.Z) ∧ (pcells c fr fw n)[10]? = some (.bool c.N) ∧ (pcells c fr fw n)[11]? = some (.bool c.C) ∧
      (pcells c fr fw n)[12]? = some (.bool c.V) ∧ (pcells c fr fw n)[13]? = some (.bool c.May) ∧ (pcells c fr fw n)[14]? = some (.bool c.Waits) ∧ (pcells c fr fw n)[15]? = some fr ∧ (pcells c fr fw n)[16]? = some fw ∧ (pcells c fr fw n)[17]? = some (.int .i64 n) := by
  obtain ⟨a0, a1, a2, a3, a4, a5, a6, a7, h⟩ := reg8 hc
  unfold pcells cpuCells C.Cpu.r
  rw [h]
  refine ⟨fun i hi => ?_, rfl, rfl, rfl, rfl, rfl, rfl, rfl, rfl, rfl, rfl⟩
  have : i = 0 ∨ i = 1 ∨ i = 2 ∨ i = 3 ∨ i = 4 ∨ i = 5 ∨ i = 6 ∨ i = 7 := by omega
  rcases this with rfl | rfl | rfl | rfl | rfl | rfl | rfl | rfl <;> rfl
theorem PI.reg {w : World} {p : Nat} {x : C.St σ} (h : PI B nr nw cr cw I T w p x) (i : Nat) (hi : i < 8) : w.cell? ⟨p, i, none⟩ = some (.int .u16 (x.c.r i)) := by
  rw [Lib.cell_of_heap h.blk i]; exact (pcells_at h.ok.1 _ _ _).1 i hi
theorem PI.cells {w : World} {p : Nat} {x : C.St σ} (h : PI B nr nw cr cw I T w p x) :
    w.cell? ⟨p, 8, none⟩ = some (.int .u16 x.c.PC) ∧ w.cell? ⟨p, 9, none⟩ = some (.bool x.c.Z) ∧ w.cell? ⟨p, 10, none⟩ = some (.bool x.c.N) ∧ w.cell? ⟨p, 11, none⟩ = some (.bool x.c.C) ∧ w.cell? ⟨p, 12, none⟩ = some (.bool x.c.V) ∧
      w.cell? ⟨p, 13, none⟩ = some (.bool x.c.May) ∧ w.cell? ⟨p, 14, none⟩ = some (.bool x.c.Waits) ∧ w.cell? ⟨p, 15, none⟩ = some (fv nr cr) ∧ w.cell? ⟨p, 16, none⟩ = some (fv nw cw) ∧ w.cell? ⟨p, 17, none⟩ = some (.int .i64 x.n) := by
  have e := fun i => Lib.cell_of_heap h.blk i
  obtain ⟨_, h8, h9, h10, h11, h12, h13, h14, h15, h16, h17⟩ := pcells_at h.ok.1 (fv nr cr) (fv nw cw) x.n
  exact ⟨(e 8).trans h8, (e 9).trans h9, (e 10).trans h10, (e 11).trans h11, (e 12).trans h12, (e 13).trans h13, (e 14).trans h14, (e 15).trans h15, (e 16).trans h16, (e 17).trans h17⟩
theorem PI.regs {w : World} {p : Nat} {x : C.St σ} (h : PI B nr nw cr cw I T w p x) :
    w.cell? ⟨p, 0, none⟩ = some (.int .u16 (x.c.r 0)) ∧ w.cell? ⟨p, 1, none⟩ = some (.int .u16 (x.c.r 1)) ∧ w.cell? ⟨p, 2, none⟩ = some (.int .u16 (x.c.r 2)) ∧ w.cell? ⟨p, 3, none⟩ = some (.int .u16 (x.c.r 3)) ∧
      w.cell? ⟨p, 4, none⟩ = some (.int .u16 (x.c.r 4)) ∧ w.cell? ⟨p, 5, none⟩ = some (.int .u16 (x.c.r 5)) ∧ w.cell? ⟨p, 6, none⟩ = some (.int .u16 (x.c.r 6)) ∧ w.cell? ⟨p, 7, none⟩ = some (.int .u16 (x.c.r 7)) :=
  ⟨h.reg 0 (by omega), h.reg 1 (by omega), h.reg 2 (by omega), h.reg 3 (by omega), h.reg 4 (by omega), h.reg 5 (by omega), h.reg 6 (by omega), h.reg 7 (by omega)⟩
theorem setCell_blk {w : World} {b i : Nat} {cs : Array Value} {t : TypeId} {fr : Nat × Nat} (h : w.heap[b]? = some (.cells cs t fr)) (v : Value) : (w.setCell ⟨b, i, none⟩ v).heap[b]? = some (.cells (cs.setIfInBounds i v) t fr) := by
  simp [World.setCell, Array.getElem?_modify, h]
theorem setCell_size (w : World) (a : Addr) (v : Value) : (w.setCell a v).heap.size = w.heap.size := by simp [World.setCell]
/-- A store into the processor. -/
theorem PI.put (R : RS m B nr nw cr cw I T) {w : World} {p : Nat} {x : C.St σ} (h : PI B nr nw cr cw I T w p x) (i : Nat) (v : Value) (c' : C.Cpu) (n' : Int) (hok : c'.ok) (hc : (pcells x.c (fv nr cr) (fv nw cw) x.n).setIfInBounds i v = pcells c' (fv nr cr) (fv nw cw) n') :
    PI B nr nw cr cw I T (w.setCell ⟨p, i, none⟩ v) p ⟨c', x.s, n'⟩ :=
  ⟨R.keep h.inv (by rw [setCell_size]; exact Nat.le_refl _) (fun k hk => Below.heap_setCell _ _ _ _ (fun e => h.own (by have e' : k = p := e; rw [← e']; exact hk))), h.own, h.big, by rw [setCell_blk h.blk, hc], hok⟩
theorem pcells_reg {c : C.Cpu} (hc : c.R.length = 8) (fr fw : Value) (n : Int) (i : Nat) (hi : i < 8) (x : Int) : (pcells c fr fw n).setIfInBounds i (.int .u16 x) = pcells (c.set i x) fr fw n := by
  obtain ⟨a0, a1, a2, a3, a4, a5, a6, a7, h⟩ := reg8 hc
  unfold pcells cpuCells C.Cpu.set
  rw [h]
  have : i = 0 ∨ i = 1 ∨ i = 2 ∨ i = 3 ∨ i = 4 ∨ i = 5 ∨ i = 6 ∨ i = 7 := by omega
  rcases this with rfl | rfl | rfl | rfl | rfl | rfl | rfl | rfl <;> rfl
theorem pcells_set {c : C.Cpu} (hc : c.R.length = 8) (fr fw : Value) (n : Int) :
    (∀ x, (pcells c fr fw n).setIfInBounds 8 (.int .u16 x) = pcells { c with PC := x } fr fw n) ∧ (∀ x, (pcells c fr fw n).setIfInBounds 9 (.bool x) = pcells { c with Z := x } fr fw n) ∧ (∀ x, (pcells c fr fw n).setIfInBounds 10 (.bool x) = pcells { c with N := x } fr fw n) ∧
    (∀ x, (pcells c fr fw n).setIfInBounds 11 (.bool x) = pcells { c with C := x } fr fw n) ∧ (∀ x, (pcells c fr fw n).setIfInBounds 12 (.bool x) = pcells { c with V := x } fr fw n) ∧ (∀ x, (pcells c fr fw n).setIfInBounds 13 (.bool x) = pcells { c with May := x } fr fw n) ∧
    (∀ x, (pcells c fr fw n).setIfInBounds 14 (.bool x) = pcells { c with Waits := x } fr fw n) ∧ (∀ x, (pcells c fr fw n).setIfInBounds 17 (.int .i64 x) = pcells c fr fw x) := by
  obtain ⟨a0, a1, a2, a3, a4, a5, a6, a7, h⟩ := reg8 hc
  unfold pcells cpuCells
  rw [h]
  exact ⟨fun _ => rfl, fun _ => rfl, fun _ => rfl, fun _ => rfl, fun _ => rfl, fun _ => rfl, fun _ => rfl, fun _ => rfl⟩
variable {w : World} {p : Nat} {x : C.St σ}
theorem PI.putR (R : RS m B nr nw cr cw I T) (h : PI B nr nw cr cw I T w p x) (i : Nat) (hi : i < 8) (v : Int) (h0 : 0 ≤ v) (h1 : v ≤ 65535) : PI B nr nw cr cw I T (w.setCell ⟨p, i, none⟩ (.int .u16 v)) p ⟨x.c.set i v, x.s, x.n⟩ :=
  h.put R i _ _ _ (C.Cpu.ok_set h.ok _ _ h0 h1) (pcells_reg h.ok.1 _ _ _ i hi v)
theorem PI.putPC (R : RS m B nr nw cr cw I T) (h : PI B nr nw cr cw I T w p x) (v : Int) (h0 : 0 ≤ v) (h1 : v ≤ 65535) : PI B nr nw cr cw I T (w.setCell ⟨p, 8, none⟩ (.int .u16 v)) p ⟨{ x.c with PC := v }, x.s, x.n⟩ :=
  h.put R 8 _ _ _ (C.Cpu.ok_pc h.ok v h0 h1) ((pcells_set h.ok.1 _ _ _).1 v)
theorem PI.putZ (R : RS m B nr nw cr cw I T) (h : PI B nr nw cr cw I T w p x) (v : Bool) : PI B nr nw cr cw I T (w.setCell ⟨p, 9, none⟩ (.bool v)) p ⟨{ x.c with Z := v }, x.s, x.n⟩ := h.put R 9 _ _ _ h.ok ((pcells_set h.ok.1 _ _ _).2.1 v)
theorem PI.putN (R : RS m B nr nw cr cw I T) (h : PI B nr nw cr cw I T w p x) (v : Bool) : PI B nr nw cr cw I T (w.setCell ⟨p, 10, none⟩ (.bool v)) p ⟨{ x.c with N := v }, x.s, x.n⟩ := h.put R 10 _ _ _ h.ok ((pcells_set h.ok.1 _ _ _).2.2.1 v)
theorem PI.putC (R : RS m B nr nw cr cw I T) (h : PI B nr nw cr cw I T w p x) (v : Bool) : PI B nr nw cr cw I T (w.setCell ⟨p, 11, none⟩ (.bool v)) p ⟨{ x.c with C := v }, x.s, x.n⟩ := h.put R 11 _ _ _ h.ok ((pcells_set h.ok.1 _ _ _).2.2.2.1 v)
theorem PI.putV (R : RS m B nr nw cr cw I T) (h : PI B nr nw cr cw I T w p x) (v : Bool) : PI B nr nw cr cw I T (w.setCell ⟨p, 12, none⟩ (.bool v)) p ⟨{ x.c with V := v }, x.s, x.n⟩ := h.put R 12 _ _ _ h.ok ((pcells_set h.ok.1 _ _ _).2.2.2.2.1 v)
theorem PI.putMay (R : RS m B nr nw cr cw I T) (h : PI B nr nw cr cw I T w p x) (v : Bool) : PI B nr nw cr cw I T (w.setCell ⟨p, 13, none⟩ (.bool v)) p ⟨{ x.c with May := v }, x.s, x.n⟩ := h.put R 13 _ _ _ h.ok ((pcells_set h.ok.1 _ _ _).2.2.2.2.2.1 v)
theorem PI.putWaits (R : RS m B nr nw cr cw I T) (h : PI B nr nw cr cw I T w p x) (v : Bool) : PI B nr nw cr cw I T (w.setCell ⟨p, 14, none⟩ (.bool v)) p ⟨{ x.c with Waits := v }, x.s, x.n⟩ := h.put R 14 _ _ _ h.ok ((pcells_set h.ok.1 _ _ _).2.2.2.2.2.2.1 v)
theorem PI.putCyc (R : RS m B nr nw cr cw I T) (h : PI B nr nw cr cw I T w p x) (v : Int) : PI B nr nw cr cw I T (w.setCell ⟨p, 17, none⟩ (.int .i64 v)) p ⟨x.c, x.s, v⟩ := h.put R 17 _ _ _ h.ok ((pcells_set h.ok.1 _ _ _).2.2.2.2.2.2.2 v)
/-- Nothing of the processor, nor of what it comes to, has turned. -/
theorem PI.kept (R : RS m B nr nw cr cw I T) (h : PI B nr nw cr cw I T w p x) {w' : World} (hb : Below w.heap.size w w') : PI B nr nw cr cw I T w' p x :=
  ⟨R.keep h.inv hb.size (fun k hk => hb.block k (R.lt h.inv k hk)), h.own, h.big, (hb.block p h.lt).trans h.blk, h.ok⟩
/-- What the processor comes to has turned, the processor itself has not. -/
theorem PI.moved (h : PI B nr nw cr cw I T w p x) {w' : World} {s' : σ} (hI : I w' s') (hm : Mv B (T x.s) (T s') w w') : PI B nr nw cr cw I T w' p ⟨x.c, s', x.n⟩ :=
  ⟨hI, fun ht => by rcases hm.fresh p ht with y | y; exact h.own y; have := h.lt; omega, h.big, (hm.block p h.lt h.own).trans h.blk, h.ok⟩
/-- The same heap. -/
theorem PI.same (R : RS m B nr nw cr cw I T) (h : PI B nr nw cr cw I T w p x) {w' : World} (e : w'.heap = w.heap) : PI B nr nw cr cw I T w' p x :=
  ⟨R.keep h.inv (by rw [e]; exact Nat.le_refl _) (fun k _ => by rw [e]), h.own, h.big, by rw [e]; exact h.blk, h.ok⟩
theorem PI.movedS (R : RS m B nr nw cr cw I T) (h : PI B nr nw cr cw I T w p x) {w0 w1 : World} {s' : σ} (hI : I w1 s') (hm : Mv B (T x.s) (T s') w0 w1) (e : w0.heap = w.heap) : PI B nr nw cr cw I T w1 p ⟨x.c, s', x.n⟩ := (h.same R e).moved hI hm
theorem PI.invS (R : RS m B nr nw cr cw I T) (h : PI B nr nw cr cw I T w p x) {w' : World} (e : w'.heap = w.heap) : I w' x.s := (h.same R e).inv
/-- The processor's cells behind a call of what it comes to. -/
theorem PI.after (h : PI B nr nw cr cw I T w p x) {w0 w1 : World} {T' : Nat → Prop} (hm : Mv B (T x.s) T' w0 w1) (e : w0.heap = w.heap) : (∀ i, w1.cell? ⟨p, i, none⟩ = w.cell? ⟨p, i, none⟩) ∧ (∀ i, w1.frozen? ⟨p, i, none⟩ = false) ∧ p < w1.heap.size := by
  have hb : w1.heap[p]? = w.heap[p]? := by rw [hm.block p (by rw [e]; exact h.lt) h.own, e]
  exact ⟨fun i => World.cell?_of_block (w := w) hb, fun i => Lib.frozen_of_heap (hb.trans h.blk) i, Nat.lt_of_lt_of_le (by rw [e]; exact h.lt) hm.size⟩
theorem PI.hB (R : RS m B nr nw cr cw I T) (h : PI B nr nw cr cw I T w p x) : B ≤ w.heap.size := R.big h.inv
theorem PM.refl (B : Nat) (T : σ → Nat → Prop) (p : Nat) (s : σ) (w : World) : PM B T p s s w w := Mv.refl _ _ _
theorem PM.set {s s' : σ} {w w' : World} (h : PM B T p s s' w w') (hB : B ≤ p) (i : Nat) (v : Value) : PM B T p s s' w (w'.setCell ⟨p, i, none⟩ v) := Mv.setCell h hB (Or.inl (Or.inl rfl)) v
theorem PM.trans {s s' s'' : σ} {a b c : World} (h : PM B T p s s' a b) (k : PM B T p s' s'' b c) : PM B T p s s'' a c := Mv.trans h k
theorem PM.moved {s s' s'' : σ} {a b c : World} (h : PM B T p s s' a b) (k : Mv B (T s') (T s'') b c) : PM B T p s s'' a c := Mv.trans h (k.also p)
theorem PM.kept {s s' : σ} {a b c : World} (h : PM B T p s s' a b) (hB : B ≤ b.heap.size) (k : Below b.heap.size b c) : PM B T p s s' a c := Mv.trans h (Mv.of_below hB k)
theorem PM.drew {s s' : σ} {w w' : World} (h : PM B T p s s' w w') : PM B T p s s' w w'.drew := Mv.drew h
theorem PM.alloc {s s' : σ} {w w' : World} (h : PM B T p s s' w w') (hB : B ≤ w.heap.size) (o : Obj) : PM B T p s s' w (w'.alloc o) := Mv.alloc h hB o
/-- A block that is not the processor's, nor of what it comes to, reads as it did. -/
theorem PM.cell {s s' : σ} {w w' : World} (h : PM B T p s s' w w') {k : Nat} (hk : k < w.heap.size) (hp : k ≠ p) (ht : ¬ T s k) (o : Nat) : w'.cell? ⟨k, o, none⟩ = w.cell? ⟨k, o, none⟩ := Mv.cell h hk (fun e => e.elim hp ht) o
theorem PM.froz {s s' : σ} {w w' : World} (h : PM B T p s s' w w') {k : Nat} (hk : k < w.heap.size) (hp : k ≠ p) (ht : ¬ T s k) (o : Nat) : w'.frozen? ⟨k, o, none⟩ = w.frozen? ⟨k, o, none⟩ := Mv.froz h hk (fun e => e.elim hp ht) o
end
end Go.Proofs.YtombboeonffejaaGreatDoor
