/-
  What the orders of package cpu do that move words, and reach what the processor comes to.
-/
import Derived.Test.YtombboeonffejaaGreatDoorCpuE
namespace Go.Proofs.YtombboeonffejaaGreatDoor
open Go.ChangeShapes Go.WideShapes Go.ChangeAt Go.RowKit
set_option linter.unusedVariables false

section
variable {σ : Type} {m : C.Mem σ} {B nr nw : Nat} {cr cw : Array Value} {I : World → σ → Prop} {T : σ → Nat → Prop}
/-- What an act leaves. -/
def AP (B nr nw : Nat) (cr cw : Array Value) (I : World → σ → Prop) (T : σ → Nat → Prop) (w : World) (p : Nat) (x x' : C.St σ) : Ending → World → Prop :=
  fun e w' => e = .returned (.tuple #[]) ∧ PI B nr nw cr cw I T w' p x' ∧ PM B T p x.s x'.s w w'
theorem RS.boxS (R : RS m B nr nw cr cw I T) {w w0 w1 : World} {s : σ} {cs : Array Value} {t : TypeId} {T' : Nat → Prop} (h : I w s) (hm : Mv B (T s) T' w0 w1) (e : w0.heap = (w.alloc (.cells cs t)).heap) : w.heap.size < w1.heap.size ∧ ∀ o, w1.cell? ⟨w.heap.size, o, none⟩ = cs[o]? := by
  have hlt : w.heap.size < w0.heap.size := by rw [e]; simp
  refine ⟨Nat.lt_of_lt_of_le hlt hm.size, fun o => ?_⟩
  rw [hm.cell hlt (R.out h (Nat.le_refl _)) o]
  exact (World.cell?_of_block (w := w.alloc (.cells cs t)) (by rw [e])).trans (cell_new _ _ _ _ rfl)
theorem PI.boxS (R : RS m B nr nw cr cw I T) {w w0 w1 : World} {p : Nat} {x : C.St σ} {s' : σ} {cs : Array Value} {t : TypeId} (h : PI B nr nw cr cw I T w p x) (hm : PM B T p x.s s' w0 w1) (e : w0.heap = (w.alloc (.cells cs t)).heap) : w.heap.size < w1.heap.size ∧ ∀ o, w1.cell? ⟨w.heap.size, o, none⟩ = cs[o]? := by
  have hlt : w.heap.size < w0.heap.size := by rw [e]; simp
  refine ⟨Nat.lt_of_lt_of_le hlt hm.size, fun o => ?_⟩
  rw [PM.cell hm hlt (by have := h.lt; omega) (R.out h.inv (Nat.le_refl _)) o]
  exact (World.cell?_of_block (w := w.alloc (.cells cs t)) (by rw [e])).trans (cell_new _ _ _ _ rfl)
theorem PI.regS {w : World} {p : Nat} {x : C.St σ} (h : PI B nr nw cr cw I T w p x) (i : Nat) (hi : i < 8) {w' : World} (e : w'.heap = w.heap) : w'.cell? ⟨p, i, none⟩ = some (.int .u16 (x.c.r i)) := (World.cell?_of_block (w := w) (by rw [e])).trans (h.reg i hi)
theorem PI.ltS {w : World} {p : Nat} {x : C.St σ} (h : PI B nr nw cr cw I T w p x) {w' : World} (e : w'.heap = w.heap) : p < w'.heap.size := by rw [e]; exact h.lt
theorem PI.box (R : RS m B nr nw cr cw I T) {w : World} {p : Nat} {x : C.St σ} (h : PI B nr nw cr cw I T w p x) (o : Obj) : PI B nr nw cr cw I T (w.alloc o) p x := h.kept R (stA (st0 w) o)
theorem PM.box {w : World} {p : Nat} {x : C.St σ} (R : RS m B nr nw cr cw I T) (h : PI B nr nw cr cw I T w p x) (o : Obj) : PM B T p x.s x.s w (w.alloc o) := (PM.refl B T p x.s w).alloc (h.hB R) o
set_option maxRecDepth 100000 in
set_option maxHeartbeats 1600000 in
theorem act_0 (R : RS m B nr nw cr cw I T) (d s : Nat) (n v : Int) (hd : d < 8) (hs : s < 8) (hv : 0 ≤ v) (hv' : v ≤ 65535) (w : World) (p : Nat) (x : C.St σ) (hP : PI B nr nw cr cw I T w p x) :
    Calls Tryz.prog 72 #[.pointer (some ⟨p, 0, none⟩), ordV 0 d s n v] w (AP B nr nw cr cw I T w p x (C.act m x 0 d s n v)) := by
  go_enter Tryz.func72, Tryz.ntmps72
  go_wp2
  go_end0
  exact ⟨rfl, hP.box R _, PM.box R hP _⟩
set_option maxRecDepth 100000 in
set_option maxHeartbeats 1600000 in
theorem act_1 (R : RS m B nr nw cr cw I T) (d s : Nat) (n v : Int) (hd : d < 8) (hs : s < 8) (hv : 0 ≤ v) (hv' : v ≤ 65535) (w : World) (p : Nat) (x : C.St σ) (hP : PI B nr nw cr cw I T w p x) :
    Calls Tryz.prog 73 #[.pointer (some ⟨p, 0, none⟩), ordV 1 d s n v] w (AP B nr nw cr cw I T w p x (C.act m x 1 d s n v)) := by
  have hlt := hP.lt
  have hne : p ≠ w.heap.size := by omega
  have hlt1 : p < w.heap.size + 1 := by omega
  have hd0 : (0 : Int) ≤ d := by omega
  have hd8 : (d : Int) < 8 := by omega
  have hs0 : (0 : Int) ≤ s := by omega
  have hs8 : (s : Int) < 8 := by omega
  have cd := hP.reg d hd
  have cs := hP.reg s hs
  have rd := C.Cpu.r_bd hP.ok d
  have rs := C.Cpu.r_bd hP.ok s
  have HP := hid hP
  have HR := hid R
  have HB := hid (hP.box R (.cells #[.int .i64 ((1 : Nat) : Int), .int .i64 d, .int .i64 s, .int .i64 n, .int .i64 v] 64))
  have HM := hid (PM.box R hP (.cells #[.int .i64 ((1 : Nat) : Int), .int .i64 d, .int .i64 s, .int .i64 n, .int .i64 v] 64))
  have hf := hP.frozen d
  clear hP R
  go_enter Tryz.func73, Tryz.ntmps73
  go_wp2
  go_region
  go_wp2
  go_end0
  exact ⟨rfl, ((HP.out.putR HR.out d hd _ rs.1 rs.2).box HR.out _).same HR.out rfl, (((PM.refl B T p x.s w).set HP.out.big d _).alloc (HP.out.hB HR.out) _).drew⟩
set_option maxRecDepth 100000 in
set_option maxHeartbeats 1600000 in
theorem act_2 (R : RS m B nr nw cr cw I T) (d s : Nat) (n v : Int) (hd : d < 8) (hs : s < 8) (hv : 0 ≤ v) (hv' : v ≤ 65535) (w : World) (p : Nat) (x : C.St σ) (hP : PI B nr nw cr cw I T w p x) :
    Calls Tryz.prog 74 #[.pointer (some ⟨p, 0, none⟩), ordV 2 d s n v] w (AP B nr nw cr cw I T w p x (C.act m x 2 d s n v)) := by
  have hlt := hP.lt
  have hne : p ≠ w.heap.size := by omega
  have hlt1 : p < w.heap.size + 1 := by omega
  have hd0 : (0 : Int) ≤ d := by omega
  have hd8 : (d : Int) < 8 := by omega
  have hs0 : (0 : Int) ≤ s := by omega
  have hs8 : (s : Int) < 8 := by omega
  have cd := hP.reg d hd
  have cs := hP.reg s hs
  have rd := C.Cpu.r_bd hP.ok d
  have rs := C.Cpu.r_bd hP.ok s
  have HP := hid hP
  have HR := hid R
  have HB := hid (hP.box R (.cells #[.int .i64 ((2 : Nat) : Int), .int .i64 d, .int .i64 s, .int .i64 n, .int .i64 v] 64))
  have HM := hid (PM.box R hP (.cells #[.int .i64 ((2 : Nat) : Int), .int .i64 d, .int .i64 s, .int .i64 n, .int .i64 v] 64))
  have hf := hP.frozen d
  have hw : IntKind.u16.wrap v = v := by rw [u16w]; omega
  clear hP R
  go_enter Tryz.func74, Tryz.ntmps74
  go_wp2
  go_region
  go_wp2
  go_end0
  exact ⟨rfl, ((HP.out.putR HR.out d hd _ hv hv').box HR.out _).same HR.out rfl, (((PM.refl B T p x.s w).set HP.out.big d _).alloc (HP.out.hB HR.out) _).drew⟩
set_option maxRecDepth 100000 in
set_option maxHeartbeats 1600000 in
theorem act_3 (R : RS m B nr nw cr cw I T) (d s : Nat) (n v : Int) (hd : d < 8) (hs : s < 8) (hv : 0 ≤ v) (hv' : v ≤ 65535) (w : World) (p : Nat) (x : C.St σ) (hP : PI B nr nw cr cw I T w p x) :
    Calls Tryz.prog 75 #[.pointer (some ⟨p, 0, none⟩), ordV 3 d s n v] w (AP B nr nw cr cw I T w p x (C.act m x 3 d s n v)) := by
  have hlt := hP.lt
  have hne : p ≠ w.heap.size := by omega
  have hlt1 : p < w.heap.size + 1 := by omega
  have hd0 : (0 : Int) ≤ d := by omega
  have hd8 : (d : Int) < 8 := by omega
  have hs0 : (0 : Int) ≤ s := by omega
  have hs8 : (s : Int) < 8 := by omega
  have cd := hP.reg d hd
  have cs := hP.reg s hs
  have rd := C.Cpu.r_bd hP.ok d
  have rs := C.Cpu.r_bd hP.ok s
  have HP := hid hP
  have HR := hid R
  have HB := hid (hP.box R (.cells #[.int .i64 ((3 : Nat) : Int), .int .i64 d, .int .i64 s, .int .i64 n, .int .i64 v] 64))
  have HM := hid (PM.box R hP (.cells #[.int .i64 ((3 : Nat) : Int), .int .i64 d, .int .i64 s, .int .i64 n, .int .i64 v] 64))
  obtain ⟨_, _, _, _, _, _, _, c15, c16, _⟩ := hP.cells
  have HS : Hid (∀ (W : World) (u : Value), (W.cell? ⟨w.heap.size, 1, none⟩ = some (.int .i64 d) ∧ W.cell? ⟨w.heap.size, 2, none⟩ = some (.int .i64 s) ∧ W.cell? ⟨w.heap.size, 3, none⟩ = some (.int .i64 n) ∧ W.cell? ⟨p, 15, none⟩ = some (fv nr cr) ∧ W.cell? ⟨p, 16, none⟩ = some (fv nw cw)) →
      ((W.setCell ⟨p, d, none⟩ u).cell? ⟨w.heap.size, 1, none⟩ = some (.int .i64 d) ∧ (W.setCell ⟨p, d, none⟩ u).cell? ⟨w.heap.size, 2, none⟩ = some (.int .i64 s) ∧ (W.setCell ⟨p, d, none⟩ u).cell? ⟨w.heap.size, 3, none⟩ = some (.int .i64 n) ∧ (W.setCell ⟨p, d, none⟩ u).cell? ⟨p, 15, none⟩ = some (fv nr cr) ∧ (W.setCell ⟨p, d, none⟩ u).cell? ⟨p, 16, none⟩ = some (fv nw cw))) := by
    rintro W u ⟨h1, h2, h3, h4, h5⟩
    exact ⟨(World.cell?_setCell_other _ _ _ _ (by simp <;> omega)).trans h1, (World.cell?_setCell_other _ _ _ _ (by simp <;> omega)).trans h2, (World.cell?_setCell_other _ _ _ _ (by simp <;> omega)).trans h3, (World.cell?_setCell_other _ _ _ _ (by simp <;> omega)).trans h4, (World.cell?_setCell_other _ _ _ _ (by simp <;> omega)).trans h5⟩
  clear hP R
  go_enter Tryz.func75, Tryz.ntmps75
  go_wp2
  go_region_held3 (fun w' => w'.cell? ⟨w.heap.size, 1, none⟩ = some (.int .i64 d) ∧ w'.cell? ⟨w.heap.size, 2, none⟩ = some (.int .i64 s) ∧ w'.cell? ⟨w.heap.size, 3, none⟩ = some (.int .i64 n) ∧ w'.cell? ⟨p, 15, none⟩ = some (fv nr cr) ∧ w'.cell? ⟨p, 16, none⟩ = some (fv nw cw))
    (first | (go_keep; done) | exact HS.out _ _ (by assumption))
    (first
      | (go_at_call 76; refine (beside_any _ p s n (x.c.r s) hs ?_ ?_).mono ?_; (exact HB.out.regS s hs rfl); (exact HB.out.ltS rfl); rintro e w' ⟨rfl, rfl⟩)
      | (go_at_call 54; refine (wordAt_any HR.out ((x.c.r s + n) % 65536) (by omega) (by omega) _ x.s ?_).mono ?_; (exact HB.out.invS HR.out rfl); rintro e w2 ⟨rfl, hI2, hm2⟩; obtain ⟨k2, f2, z2⟩ := HB.out.after hm2 rfl; obtain ⟨hz2, hq2⟩ := HR.out.boxS HP.out.inv hm2 rfl; have cd2 : w2.cell? ⟨p, d, none⟩ = some (.int .u16 (x.c.r d)) := (k2 d).trans (HB.out.reg d hd)))
  go_wp2
  go_end0
  exact ⟨rfl, ((HB.out.movedS HR.out hI2 hm2 rfl).putR HR.out d hd _ (HR.out.word _ _).1 (HR.out.word _ _).2).same HR.out rfl, ((HM.out.drew.moved hm2).set HP.out.big d _)⟩
set_option maxRecDepth 100000 in
set_option maxHeartbeats 1600000 in
theorem act_5 (R : RS m B nr nw cr cw I T) (d s : Nat) (n v : Int) (hd : d < 8) (hs : s < 8) (hv : 0 ≤ v) (hv' : v ≤ 65535) (w : World) (p : Nat) (x : C.St σ) (hP : PI B nr nw cr cw I T w p x) :
    Calls Tryz.prog 79 #[.pointer (some ⟨p, 0, none⟩), ordV 5 d s n v] w (AP B nr nw cr cw I T w p x (C.act m x 5 d s n v)) := by
  have hlt := hP.lt
  have hne : p ≠ w.heap.size := by omega
  have hlt1 : p < w.heap.size + 1 := by omega
  have hd0 : (0 : Int) ≤ d := by omega
  have hd8 : (d : Int) < 8 := by omega
  have hs0 : (0 : Int) ≤ s := by omega
  have hs8 : (s : Int) < 8 := by omega
  have cd := hP.reg d hd
  have cs := hP.reg s hs
  have rd := C.Cpu.r_bd hP.ok d
  have rs := C.Cpu.r_bd hP.ok s
  have HP := hid hP
  have HR := hid R
  have HB := hid (hP.box R (.cells #[.int .i64 ((5 : Nat) : Int), .int .i64 d, .int .i64 s, .int .i64 n, .int .i64 v] 64))
  have HM := hid (PM.box R hP (.cells #[.int .i64 ((5 : Nat) : Int), .int .i64 d, .int .i64 s, .int .i64 n, .int .i64 v] 64))
  obtain ⟨_, _, _, _, _, _, _, c15, c16, _⟩ := hP.cells
  have HS : Hid (∀ (W : World) (u : Value), (W.cell? ⟨w.heap.size, 1, none⟩ = some (.int .i64 d) ∧ W.cell? ⟨w.heap.size, 2, none⟩ = some (.int .i64 s) ∧ W.cell? ⟨w.heap.size, 3, none⟩ = some (.int .i64 n) ∧ W.cell? ⟨p, 15, none⟩ = some (fv nr cr) ∧ W.cell? ⟨p, 16, none⟩ = some (fv nw cw)) →
      ((W.setCell ⟨p, d, none⟩ u).cell? ⟨w.heap.size, 1, none⟩ = some (.int .i64 d) ∧ (W.setCell ⟨p, d, none⟩ u).cell? ⟨w.heap.size, 2, none⟩ = some (.int .i64 s) ∧ (W.setCell ⟨p, d, none⟩ u).cell? ⟨w.heap.size, 3, none⟩ = some (.int .i64 n) ∧ (W.setCell ⟨p, d, none⟩ u).cell? ⟨p, 15, none⟩ = some (fv nr cr) ∧ (W.setCell ⟨p, d, none⟩ u).cell? ⟨p, 16, none⟩ = some (fv nw cw))) := by
    rintro W u ⟨h1, h2, h3, h4, h5⟩
    exact ⟨(World.cell?_setCell_other _ _ _ _ (by simp <;> omega)).trans h1, (World.cell?_setCell_other _ _ _ _ (by simp <;> omega)).trans h2, (World.cell?_setCell_other _ _ _ _ (by simp <;> omega)).trans h3, (World.cell?_setCell_other _ _ _ _ (by simp <;> omega)).trans h4, (World.cell?_setCell_other _ _ _ _ (by simp <;> omega)).trans h5⟩
  have hwb : IntKind.u16.wrap (m.rd x.s ((x.c.r s + n) % 65536)).1 = (m.rd x.s ((x.c.r s + n) % 65536)).1 := by have := R.byte x.s ((x.c.r s + n) % 65536); rw [u16w]; omega
  clear hP R
  go_enter Tryz.func79, Tryz.ntmps79
  go_wp2
  go_region_held3 (fun w' => w'.cell? ⟨w.heap.size, 1, none⟩ = some (.int .i64 d) ∧ w'.cell? ⟨w.heap.size, 2, none⟩ = some (.int .i64 s) ∧ w'.cell? ⟨w.heap.size, 3, none⟩ = some (.int .i64 n) ∧ w'.cell? ⟨p, 15, none⟩ = some (fv nr cr) ∧ w'.cell? ⟨p, 16, none⟩ = some (fv nw cw))
    (first | (go_keep; done) | exact HS.out _ _ (by assumption))
    (first
      | (go_at_call 76; refine (beside_any _ p s n (x.c.r s) hs ?_ ?_).mono ?_; (exact HB.out.regS s hs rfl); (exact HB.out.ltS rfl); rintro e w' ⟨rfl, rfl⟩)
      | (go_at_call 65; refine (HR.out.read _ x.s ((x.c.r s + n) % 65536) (by omega) (by omega) ?_).mono ?_; (exact HB.out.invS HR.out rfl); rintro e w2 ⟨rfl, hI2, hm2⟩; obtain ⟨k2, f2, z2⟩ := HB.out.after hm2 rfl; obtain ⟨hz2, hq2⟩ := HR.out.boxS HP.out.inv hm2 rfl; have cd2 : w2.cell? ⟨p, d, none⟩ = some (.int .u16 (x.c.r d)) := (k2 d).trans (HB.out.reg d hd)))
  go_wp2
  go_end0
  exact ⟨rfl, ((HB.out.movedS HR.out hI2 hm2 rfl).putR HR.out d hd _ (HR.out.byte _ _).1 (Int.le_trans (HR.out.byte _ _).2 (by omega))).same HR.out rfl, ((HM.out.drew.moved hm2).set HP.out.big d _)⟩
set_option maxRecDepth 100000 in
set_option maxHeartbeats 1600000 in
theorem act_4 (R : RS m B nr nw cr cw I T) (d s : Nat) (n v : Int) (hd : d < 8) (hs : s < 8) (hv : 0 ≤ v) (hv' : v ≤ 65535) (w : World) (p : Nat) (x : C.St σ) (hP : PI B nr nw cr cw I T w p x) :
    Calls Tryz.prog 77 #[.pointer (some ⟨p, 0, none⟩), ordV 4 d s n v] w (AP B nr nw cr cw I T w p x (C.act m x 4 d s n v)) := by
  have hlt := hP.lt
  have hne : p ≠ w.heap.size := by omega
  have hlt1 : p < w.heap.size + 1 := by omega
  have hd0 : (0 : Int) ≤ d := by omega
  have hd8 : (d : Int) < 8 := by omega
  have hs0 : (0 : Int) ≤ s := by omega
  have hs8 : (s : Int) < 8 := by omega
  have cd := hP.reg d hd
  have cs := hP.reg s hs
  have rd := C.Cpu.r_bd hP.ok d
  have rs := C.Cpu.r_bd hP.ok s
  have HP := hid hP
  have HR := hid R
  have HB := hid (hP.box R (.cells #[.int .i64 ((4 : Nat) : Int), .int .i64 d, .int .i64 s, .int .i64 n, .int .i64 v] 64))
  have HM := hid (PM.box R hP (.cells #[.int .i64 ((4 : Nat) : Int), .int .i64 d, .int .i64 s, .int .i64 n, .int .i64 v] 64))
  obtain ⟨_, _, _, _, _, _, _, c15, c16, _⟩ := hP.cells
  clear hP R
  go_enter Tryz.func77, Tryz.ntmps77
  go_wp2
  go_region_held3 (fun w' => w'.cell? ⟨w.heap.size, 1, none⟩ = some (.int .i64 d) ∧ w'.cell? ⟨w.heap.size, 2, none⟩ = some (.int .i64 s) ∧ w'.cell? ⟨w.heap.size, 3, none⟩ = some (.int .i64 n) ∧ w'.cell? ⟨p, s, none⟩ = some (.int .u16 (x.c.r s)) ∧ w'.cell? ⟨p, 15, none⟩ = some (fv nr cr) ∧ w'.cell? ⟨p, 16, none⟩ = some (fv nw cw))
    ((go_keep; done))
    (first
      | (go_at_call 76; refine (beside_any _ p d n (x.c.r d) hd ?_ ?_).mono ?_; (exact HB.out.regS d hd rfl); (exact HB.out.ltS rfl); rintro e w' ⟨rfl, rfl⟩)
      | (go_at_call 78; refine (putWord_any HR.out ((x.c.r d + n) % 65536) (x.c.r s) (by omega) (by omega) rs.1 rs.2 _ x.s ?_).mono ?_; (exact HB.out.invS HR.out rfl); rintro e w2 ⟨rfl, hI2, hm2⟩; obtain ⟨k2, f2, z2⟩ := HB.out.after hm2 rfl; obtain ⟨hz2, hq2⟩ := HR.out.boxS HP.out.inv hm2 rfl))
  go_wp2
  go_end0
  exact ⟨rfl, HB.out.movedS HR.out hI2 hm2 rfl, HM.out.drew.moved hm2⟩
set_option maxRecDepth 100000 in
set_option maxHeartbeats 1600000 in
theorem act_6 (R : RS m B nr nw cr cw I T) (d s : Nat) (n v : Int) (hd : d < 8) (hs : s < 8) (hv : 0 ≤ v) (hv' : v ≤ 65535) (w : World) (p : Nat) (x : C.St σ) (hP : PI B nr nw cr cw I T w p x) :
    Calls Tryz.prog 80 #[.pointer (some ⟨p, 0, none⟩), ordV 6 d s n v] w (AP B nr nw cr cw I T w p x (C.act m x 6 d s n v)) := by
  have hlt := hP.lt
  have hne : p ≠ w.heap.size := by omega
  have hlt1 : p < w.heap.size + 1 := by omega
  have hd0 : (0 : Int) ≤ d := by omega
  have hd8 : (d : Int) < 8 := by omega
  have hs0 : (0 : Int) ≤ s := by omega
  have hs8 : (s : Int) < 8 := by omega
  have cd := hP.reg d hd
  have cs := hP.reg s hs
  have rd := C.Cpu.r_bd hP.ok d
  have rs := C.Cpu.r_bd hP.ok s
  have HP := hid hP
  have HR := hid R
  have HB := hid (hP.box R (.cells #[.int .i64 ((6 : Nat) : Int), .int .i64 d, .int .i64 s, .int .i64 n, .int .i64 v] 64))
  have HM := hid (PM.box R hP (.cells #[.int .i64 ((6 : Nat) : Int), .int .i64 d, .int .i64 s, .int .i64 n, .int .i64 v] 64))
  obtain ⟨_, _, _, _, _, _, _, c15, c16, _⟩ := hP.cells
  have hwb : IntKind.u8.wrap (x.c.r s) = x.c.r s % 256 := IntKind.wrap_u8 _
  clear hP R
  go_enter Tryz.func80, Tryz.ntmps80
  go_wp2
  go_region_held3 (fun w' => w'.cell? ⟨w.heap.size, 1, none⟩ = some (.int .i64 d) ∧ w'.cell? ⟨w.heap.size, 2, none⟩ = some (.int .i64 s) ∧ w'.cell? ⟨w.heap.size, 3, none⟩ = some (.int .i64 n) ∧ w'.cell? ⟨p, s, none⟩ = some (.int .u16 (x.c.r s)) ∧ w'.cell? ⟨p, 15, none⟩ = some (fv nr cr) ∧ w'.cell? ⟨p, 16, none⟩ = some (fv nw cw))
    ((go_keep; done))
    (first
      | (go_at_call 76; refine (beside_any _ p d n (x.c.r d) hd ?_ ?_).mono ?_; (exact HB.out.regS d hd rfl); (exact HB.out.ltS rfl); rintro e w' ⟨rfl, rfl⟩)
      | (go_at_call 81; refine (HR.out.write _ x.s ((x.c.r d + n) % 65536) (x.c.r s % 256) (by omega) (by omega) (by omega) (by omega) ?_).mono ?_; (exact HB.out.invS HR.out rfl); rintro e w2 ⟨rfl, hI2, hm2⟩; obtain ⟨k2, f2, z2⟩ := HB.out.after hm2 rfl; obtain ⟨hz2, hq2⟩ := HR.out.boxS HP.out.inv hm2 rfl))
  go_wp2
  go_end0
  exact ⟨rfl, HB.out.movedS HR.out hI2 hm2 rfl, HM.out.drew.moved hm2⟩
end
end Go.Proofs.YtombboeonffejaaGreatDoor
