/-
  What one step of a processor of package cpu does, where the order is one of these: 0 1 2 3 4 5.
-/
import Derived.Test.YtombboeonffejaaGreatDoorCpuN
namespace Go.Proofs.YtombboeonffejaaGreatDoor
open Go.ChangeShapes Go.WideShapes Go.ChangeAt Go.RowKit
set_option linter.unusedVariables false

section
variable {σ : Type} {m : C.Mem σ} {B nr nw : Nat} {cr cw : Array Value} {I : World → σ → Prop} {T : σ → Nat → Prop}
set_option maxRecDepth 100000 in
set_option maxHeartbeats 1600000 in
theorem step_0 (R : RS m B nr nw cr cw I T) (d s : Nat) (n v : Int) (hd : d < 8) (hs : s < 8) (hn : -16 ≤ n ∧ n ≤ 15) (hv : 0 ≤ v) (hv' : v ≤ 65535) (r : Bool) (w : World) (p : Nat) (x y : C.St σ) (hP : PI B nr nw cr cw I T w p x) (hr : (r && x.c.May) = false) (hw : x.c.Waits = false)
    (hF : Calls Tryz.prog 56 #[.pointer (some ⟨p, 0, none⟩)] w fun e w' => e = .returned (ordV 0 d s n v) ∧ PI B nr nw cr cw I T w' p y ∧ PM B T p x.s y.s w w') :
    Calls Tryz.prog 40 #[.pointer (some ⟨p, 0, none⟩), .bool r] w (AP B nr nw cr cw I T w p x (C.act m ⟨y.c, y.s, K.cyc 0⟩ 0 d s n v)) := by
  obtain ⟨_, _, _, _, _, c13, c14, _, _, _⟩ := hP.cells
  have hlt := hP.lt
  have HP := hid hP
  have HR := hid R
  have HF := hid hF
  have hi := acts_at0
  rw [hw] at c14
  clear hP R hF hw
  cases r
  · skip
    go_enter Tryz.func40, Tryz.ntmps40
    go_wp2_with (first
      | (go_at_call 56; refine HF.out.mono ?_; rintro e w1 ⟨rfl, hP1, hm1⟩; have hl1 := hP1.lt; have f1 := hP1.frozen 17; obtain ⟨_, _, _, _, _, _, _, _, _, e17⟩ := hP1.cells; have HY1 := hid hP1; clear hP1)
      | (go_at_call 57; refine (cycles_yes 0 (by decide) (by decide) _ (HR.out.shapes (HY1.out.box HR.out _).inv)).mono ?_; rintro e w2 ⟨rfl, hb2⟩; obtain ⟨k2, g2⟩ := bcell hb2; have hP2 := (HY1.out.box HR.out _).kept HR.out hb2; have hl2 := hP2.lt; have f2 := hP2.frozen 17; obtain ⟨_, _, _, _, _, _, _, _, _, h17⟩ := hP2.cells; have z2 : w1.heap.size < w2.heap.size := by have := hb2.size; simp at this; omega
         have o0 : Hid (∀ u, p ≠ w1.heap.size → (w2.setCell ⟨p, 17, none⟩ u).cell? ⟨w1.heap.size, 0, none⟩ = some (.int .i64 0)) := fun u h => (World.cell?_setCell_other _ _ _ _ (by simp)).trans ((k2 _ 0 (by simp)).trans (cell_new _ _ _ _ rfl))
         have o1 : Hid (∀ u, p ≠ w1.heap.size → (w2.setCell ⟨p, 17, none⟩ u).cell? ⟨w1.heap.size, 1, none⟩ = some (.int .i64 d)) := fun u h => (World.cell?_setCell_other _ _ _ _ (by simp)).trans ((k2 _ 1 (by simp)).trans (cell_new _ _ _ _ rfl))
         have o2 : Hid (∀ u, p ≠ w1.heap.size → (w2.setCell ⟨p, 17, none⟩ u).cell? ⟨w1.heap.size, 2, none⟩ = some (.int .i64 s)) := fun u h => (World.cell?_setCell_other _ _ _ _ (by simp)).trans ((k2 _ 2 (by simp)).trans (cell_new _ _ _ _ rfl))
         have o3 : Hid (∀ u, p ≠ w1.heap.size → (w2.setCell ⟨p, 17, none⟩ u).cell? ⟨w1.heap.size, 3, none⟩ = some (.int .i64 n)) := fun u h => (World.cell?_setCell_other _ _ _ _ (by simp)).trans ((k2 _ 3 (by simp)).trans (cell_new _ _ _ _ rfl))
         have o4 : Hid (∀ u, p ≠ w1.heap.size → (w2.setCell ⟨p, 17, none⟩ u).cell? ⟨w1.heap.size, 4, none⟩ = some (.int .i64 v)) := fun u h => (World.cell?_setCell_other _ _ _ _ (by simp)).trans ((k2 _ 4 (by simp)).trans (cell_new _ _ _ _ rfl))
         have HY2 := hid (hP2.putCyc HR.out (K.cyc 0)); have hne : p ≠ w1.heap.size := by omega
         clear hP2))
    refine cutW (fun W => PI B nr nw cr cw I T W p ⟨y.c, y.s, K.cyc 0⟩ ∧ PM B T p x.s y.s w W ∧ w1.heap.size < W.heap.size ∧ W.cell? ⟨w1.heap.size, 0, none⟩ = some (.int .i64 0) ∧ W.cell? ⟨w1.heap.size, 1, none⟩ = some (.int .i64 d) ∧ W.cell? ⟨w1.heap.size, 2, none⟩ = some (.int .i64 s) ∧ W.cell? ⟨w1.heap.size, 3, none⟩ = some (.int .i64 n) ∧ W.cell? ⟨w1.heap.size, 4, none⟩ = some (.int .i64 v)) ⟨HY2.out, ((hm1.alloc (HP.out.hB HR.out) _).kept ((HY1.out.box HR.out _).hB HR.out) hb2).set HP.out.big 17 _, by rw [setCell_size]; exact z2, o0.out _ hne, o1.out _ hne, o2.out _ hne, o3.out _ hne, o4.out _ hne⟩ ?_
    clear e17 f1 f2 h17 k2 g2 hl2 hl1 z2 hb2 hm1 HY2 HY1 c13 c14 hne
    rintro W ⟨hW, hmW, hzW, q0, q1, q2, q3, q4⟩
    have HW := hid hW
    have HMW := hid hmW
    clear hW hmW
    go_region_held3 (fun w' => w'.cell? ⟨w1.heap.size, 0, none⟩ = some (.int .i64 0))
      ((go_keep; done))
      ((go_at_call 58; refine (acts_any _).mono ?_; rintro e w3 ⟨b12, b13, b16, b17, b18, b19, b29, rfl, hX, hb3⟩; obtain ⟨k3, g3⟩ := bcell hb3; have z3 := Nat.lt_of_lt_of_le hzW hb3.size; have r0 := (k3 _ 0 hzW).trans q0; have r1 := (k3 _ 1 hzW).trans q1; have r2 := (k3 _ 2 hzW).trans q2; have r3 := (k3 _ 3 hzW).trans q3; have r4 := (k3 _ 4 hzW).trans q4; clear hX k3 g3))
    go_wp2_with (go_at_call 72; refine (act_0 HR.out d s n v hd hs hv hv' _ p ⟨y.c, y.s, K.cyc 0⟩ ?_).mono ?_; (exact HW.out.kept HR.out (stp (st0 W).drew hb3)); rintro e w4 ⟨rfl, hP4, hm4⟩)
    go_end0
    exact ⟨rfl, hP4, (HMW.out.kept (HW.out.hB HR.out) (stp (st0 W).drew hb3)).trans hm4⟩
  · simp only [Bool.true_and] at hr
    rw [hr] at c13
    clear hr
    go_enter Tryz.func40, Tryz.ntmps40
    go_wp2_with (first
      | (go_at_call 56; refine HF.out.mono ?_; rintro e w1 ⟨rfl, hP1, hm1⟩; have hl1 := hP1.lt; have f1 := hP1.frozen 17; obtain ⟨_, _, _, _, _, _, _, _, _, e17⟩ := hP1.cells; have HY1 := hid hP1; clear hP1)
      | (go_at_call 57; refine (cycles_yes 0 (by decide) (by decide) _ (HR.out.shapes (HY1.out.box HR.out _).inv)).mono ?_; rintro e w2 ⟨rfl, hb2⟩; obtain ⟨k2, g2⟩ := bcell hb2; have hP2 := (HY1.out.box HR.out _).kept HR.out hb2; have hl2 := hP2.lt; have f2 := hP2.frozen 17; obtain ⟨_, _, _, _, _, _, _, _, _, h17⟩ := hP2.cells; have z2 : w1.heap.size < w2.heap.size := by have := hb2.size; simp at this; omega
         have o0 : Hid (∀ u, p ≠ w1.heap.size → (w2.setCell ⟨p, 17, none⟩ u).cell? ⟨w1.heap.size, 0, none⟩ = some (.int .i64 0)) := fun u h => (World.cell?_setCell_other _ _ _ _ (by simp)).trans ((k2 _ 0 (by simp)).trans (cell_new _ _ _ _ rfl))
         have o1 : Hid (∀ u, p ≠ w1.heap.size → (w2.setCell ⟨p, 17, none⟩ u).cell? ⟨w1.heap.size, 1, none⟩ = some (.int .i64 d)) := fun u h => (World.cell?_setCell_other _ _ _ _ (by simp)).trans ((k2 _ 1 (by simp)).trans (cell_new _ _ _ _ rfl))
         have o2 : Hid (∀ u, p ≠ w1.heap.size → (w2.setCell ⟨p, 17, none⟩ u).cell? ⟨w1.heap.size, 2, none⟩ = some (.int .i64 s)) := fun u h => (World.cell?_setCell_other _ _ _ _ (by simp)).trans ((k2 _ 2 (by simp)).trans (cell_new _ _ _ _ rfl))
         have o3 : Hid (∀ u, p ≠ w1.heap.size → (w2.setCell ⟨p, 17, none⟩ u).cell? ⟨w1.heap.size, 3, none⟩ = some (.int .i64 n)) := fun u h => (World.cell?_setCell_other _ _ _ _ (by simp)).trans ((k2 _ 3 (by simp)).trans (cell_new _ _ _ _ rfl))
         have o4 : Hid (∀ u, p ≠ w1.heap.size → (w2.setCell ⟨p, 17, none⟩ u).cell? ⟨w1.heap.size, 4, none⟩ = some (.int .i64 v)) := fun u h => (World.cell?_setCell_other _ _ _ _ (by simp)).trans ((k2 _ 4 (by simp)).trans (cell_new _ _ _ _ rfl))
         have HY2 := hid (hP2.putCyc HR.out (K.cyc 0)); have hne : p ≠ w1.heap.size := by omega
         clear hP2))
    refine cutW (fun W => PI B nr nw cr cw I T W p ⟨y.c, y.s, K.cyc 0⟩ ∧ PM B T p x.s y.s w W ∧ w1.heap.size < W.heap.size ∧ W.cell? ⟨w1.heap.size, 0, none⟩ = some (.int .i64 0) ∧ W.cell? ⟨w1.heap.size, 1, none⟩ = some (.int .i64 d) ∧ W.cell? ⟨w1.heap.size, 2, none⟩ = some (.int .i64 s) ∧ W.cell? ⟨w1.heap.size, 3, none⟩ = some (.int .i64 n) ∧ W.cell? ⟨w1.heap.size, 4, none⟩ = some (.int .i64 v)) ⟨HY2.out, ((hm1.alloc (HP.out.hB HR.out) _).kept ((HY1.out.box HR.out _).hB HR.out) hb2).set HP.out.big 17 _, by rw [setCell_size]; exact z2, o0.out _ hne, o1.out _ hne, o2.out _ hne, o3.out _ hne, o4.out _ hne⟩ ?_
    clear e17 f1 f2 h17 k2 g2 hl2 hl1 z2 hb2 hm1 HY2 HY1 c13 c14 hne
    rintro W ⟨hW, hmW, hzW, q0, q1, q2, q3, q4⟩
    have HW := hid hW
    have HMW := hid hmW
    clear hW hmW
    go_region_held3 (fun w' => w'.cell? ⟨w1.heap.size, 0, none⟩ = some (.int .i64 0))
      ((go_keep; done))
      ((go_at_call 58; refine (acts_any _).mono ?_; rintro e w3 ⟨b12, b13, b16, b17, b18, b19, b29, rfl, hX, hb3⟩; obtain ⟨k3, g3⟩ := bcell hb3; have z3 := Nat.lt_of_lt_of_le hzW hb3.size; have r0 := (k3 _ 0 hzW).trans q0; have r1 := (k3 _ 1 hzW).trans q1; have r2 := (k3 _ 2 hzW).trans q2; have r3 := (k3 _ 3 hzW).trans q3; have r4 := (k3 _ 4 hzW).trans q4; clear hX k3 g3))
    go_wp2_with (go_at_call 72; refine (act_0 HR.out d s n v hd hs hv hv' _ p ⟨y.c, y.s, K.cyc 0⟩ ?_).mono ?_; (exact HW.out.kept HR.out (stp (st0 W).drew hb3)); rintro e w4 ⟨rfl, hP4, hm4⟩)
    go_end0
    exact ⟨rfl, hP4, (HMW.out.kept (HW.out.hB HR.out) (stp (st0 W).drew hb3)).trans hm4⟩
set_option maxRecDepth 100000 in
set_option maxHeartbeats 1600000 in
theorem step_1 (R : RS m B nr nw cr cw I T) (d s : Nat) (n v : Int) (hd : d < 8) (hs : s < 8) (hn : -16 ≤ n ∧ n ≤ 15) (hv : 0 ≤ v) (hv' : v ≤ 65535) (r : Bool) (w : World) (p : Nat) (x y : C.St σ) (hP : PI B nr nw cr cw I T w p x) (hr : (r && x.c.May) = false) (hw : x.c.Waits = false)
    (hF : Calls Tryz.prog 56 #[.pointer (some ⟨p, 0, none⟩)] w fun e w' => e = .returned (ordV 1 d s n v) ∧ PI B nr nw cr cw I T w' p y ∧ PM B T p x.s y.s w w') :
    Calls Tryz.prog 40 #[.pointer (some ⟨p, 0, none⟩), .bool r] w (AP B nr nw cr cw I T w p x (C.act m ⟨y.c, y.s, K.cyc 1⟩ 1 d s n v)) := by
  obtain ⟨_, _, _, _, _, c13, c14, _, _, _⟩ := hP.cells
  have hlt := hP.lt
  have HP := hid hP
  have HR := hid R
  have HF := hid hF
  have hi := acts_at1
  rw [hw] at c14
  clear hP R hF hw
  cases r
  · skip
    go_enter Tryz.func40, Tryz.ntmps40
    go_wp2_with (first
      | (go_at_call 56; refine HF.out.mono ?_; rintro e w1 ⟨rfl, hP1, hm1⟩; have hl1 := hP1.lt; have f1 := hP1.frozen 17; obtain ⟨_, _, _, _, _, _, _, _, _, e17⟩ := hP1.cells; have HY1 := hid hP1; clear hP1)
      | (go_at_call 57; refine (cycles_yes 1 (by decide) (by decide) _ (HR.out.shapes (HY1.out.box HR.out _).inv)).mono ?_; rintro e w2 ⟨rfl, hb2⟩; obtain ⟨k2, g2⟩ := bcell hb2; have hP2 := (HY1.out.box HR.out _).kept HR.out hb2; have hl2 := hP2.lt; have f2 := hP2.frozen 17; obtain ⟨_, _, _, _, _, _, _, _, _, h17⟩ := hP2.cells; have z2 : w1.heap.size < w2.heap.size := by have := hb2.size; simp at this; omega
         have o0 : Hid (∀ u, p ≠ w1.heap.size → (w2.setCell ⟨p, 17, none⟩ u).cell? ⟨w1.heap.size, 0, none⟩ = some (.int .i64 1)) := fun u h => (World.cell?_setCell_other _ _ _ _ (by simp)).trans ((k2 _ 0 (by simp)).trans (cell_new _ _ _ _ rfl))
         have o1 : Hid (∀ u, p ≠ w1.heap.size → (w2.setCell ⟨p, 17, none⟩ u).cell? ⟨w1.heap.size, 1, none⟩ = some (.int .i64 d)) := fun u h => (World.cell?_setCell_other _ _ _ _ (by simp)).trans ((k2 _ 1 (by simp)).trans (cell_new _ _ _ _ rfl))
         have o2 : Hid (∀ u, p ≠ w1.heap.size → (w2.setCell ⟨p, 17, none⟩ u).cell? ⟨w1.heap.size, 2, none⟩ = some (.int .i64 s)) := fun u h => (World.cell?_setCell_other _ _ _ _ (by simp)).trans ((k2 _ 2 (by simp)).trans (cell_new _ _ _ _ rfl))
         have o3 : Hid (∀ u, p ≠ w1.heap.size → (w2.setCell ⟨p, 17, none⟩ u).cell? ⟨w1.heap.size, 3, none⟩ = some (.int .i64 n)) := fun u h => (World.cell?_setCell_other _ _ _ _ (by simp)).trans ((k2 _ 3 (by simp)).trans (cell_new _ _ _ _ rfl))
         have o4 : Hid (∀ u, p ≠ w1.heap.size → (w2.setCell ⟨p, 17, none⟩ u).cell? ⟨w1.heap.size, 4, none⟩ = some (.int .i64 v)) := fun u h => (World.cell?_setCell_other _ _ _ _ (by simp)).trans ((k2 _ 4 (by simp)).trans (cell_new _ _ _ _ rfl))
         have HY2 := hid (hP2.putCyc HR.out (K.cyc 1)); have hne : p ≠ w1.heap.size := by omega
         clear hP2))
    refine cutW (fun W => PI B nr nw cr cw I T W p ⟨y.c, y.s, K.cyc 1⟩ ∧ PM B T p x.s y.s w W ∧ w1.heap.size < W.heap.size ∧ W.cell? ⟨w1.heap.size, 0, none⟩ = some (.int .i64 1) ∧ W.cell? ⟨w1.heap.size, 1, none⟩ = some (.int .i64 d) ∧ W.cell? ⟨w1.heap.size, 2, none⟩ = some (.int .i64 s) ∧ W.cell? ⟨w1.heap.size, 3, none⟩ = some (.int .i64 n) ∧ W.cell? ⟨w1.heap.size, 4, none⟩ = some (.int .i64 v)) ⟨HY2.out, ((hm1.alloc (HP.out.hB HR.out) _).kept ((HY1.out.box HR.out _).hB HR.out) hb2).set HP.out.big 17 _, by rw [setCell_size]; exact z2, o0.out _ hne, o1.out _ hne, o2.out _ hne, o3.out _ hne, o4.out _ hne⟩ ?_
    clear e17 f1 f2 h17 k2 g2 hl2 hl1 z2 hb2 hm1 HY2 HY1 c13 c14 hne
    rintro W ⟨hW, hmW, hzW, q0, q1, q2, q3, q4⟩
    have HW := hid hW
    have HMW := hid hmW
    clear hW hmW
    go_region_held3 (fun w' => w'.cell? ⟨w1.heap.size, 0, none⟩ = some (.int .i64 1))
      ((go_keep; done))
      ((go_at_call 58; refine (acts_any _).mono ?_; rintro e w3 ⟨b12, b13, b16, b17, b18, b19, b29, rfl, hX, hb3⟩; obtain ⟨k3, g3⟩ := bcell hb3; have z3 := Nat.lt_of_lt_of_le hzW hb3.size; have r0 := (k3 _ 0 hzW).trans q0; have r1 := (k3 _ 1 hzW).trans q1; have r2 := (k3 _ 2 hzW).trans q2; have r3 := (k3 _ 3 hzW).trans q3; have r4 := (k3 _ 4 hzW).trans q4; clear hX k3 g3))
    go_wp2_with (go_at_call 73; refine (act_1 HR.out d s n v hd hs hv hv' _ p ⟨y.c, y.s, K.cyc 1⟩ ?_).mono ?_; (exact HW.out.kept HR.out (stp (st0 W).drew hb3)); rintro e w4 ⟨rfl, hP4, hm4⟩)
    go_end0
    exact ⟨rfl, hP4, (HMW.out.kept (HW.out.hB HR.out) (stp (st0 W).drew hb3)).trans hm4⟩
  · simp only [Bool.true_and] at hr
    rw [hr] at c13
    clear hr
    go_enter Tryz.func40, Tryz.ntmps40
    go_wp2_with (first
      | (go_at_call 56; refine HF.out.mono ?_; rintro e w1 ⟨rfl, hP1, hm1⟩; have hl1 := hP1.lt; have f1 := hP1.frozen 17; obtain ⟨_, _, _, _, _, _, _, _, _, e17⟩ := hP1.cells; have HY1 := hid hP1; clear hP1)
      | (go_at_call 57; refine (cycles_yes 1 (by decide) (by decide) _ (HR.out.shapes (HY1.out.box HR.out _).inv)).mono ?_; rintro e w2 ⟨rfl, hb2⟩; obtain ⟨k2, g2⟩ := bcell hb2; have hP2 := (HY1.out.box HR.out _).kept HR.out hb2; have hl2 := hP2.lt; have f2 := hP2.frozen 17; obtain ⟨_, _, _, _, _, _, _, _, _, h17⟩ := hP2.cells; have z2 : w1.heap.size < w2.heap.size := by have := hb2.size; simp at this; omega
         have o0 : Hid (∀ u, p ≠ w1.heap.size → (w2.setCell ⟨p, 17, none⟩ u).cell? ⟨w1.heap.size, 0, none⟩ = some (.int .i64 1)) := fun u h => (World.cell?_setCell_other _ _ _ _ (by simp)).trans ((k2 _ 0 (by simp)).trans (cell_new _ _ _ _ rfl))
         have o1 : Hid (∀ u, p ≠ w1.heap.size → (w2.setCell ⟨p, 17, none⟩ u).cell? ⟨w1.heap.size, 1, none⟩ = some (.int .i64 d)) := fun u h => (World.cell?_setCell_other _ _ _ _ (by simp)).trans ((k2 _ 1 (by simp)).trans (cell_new _ _ _ _ rfl))
         have o2 : Hid (∀ u, p ≠ w1.heap.size → (w2.setCell ⟨p, 17, none⟩ u).cell? ⟨w1.heap.size, 2, none⟩ = some (.int .i64 s)) := fun u h => (World.cell?_setCell_other _ _ _ _ (by simp)).trans ((k2 _ 2 (by simp)).trans (cell_new _ _ _ _ rfl))
         have o3 : Hid (∀ u, p ≠ w1.heap.size → (w2.setCell ⟨p, 17, none⟩ u).cell? ⟨w1.heap.size, 3, none⟩ = some (.int .i64 n)) := fun u h => (World.cell?_setCell_other _ _ _ _ (by simp)).trans ((k2 _ 3 (by simp)).trans (cell_new _ _ _ _ rfl))
         have o4 : Hid (∀ u, p ≠ w1.heap.size → (w2.setCell ⟨p, 17, none⟩ u).cell? ⟨w1.heap.size, 4, none⟩ = some (.int .i64 v)) := fun u h => (World.cell?_setCell_other _ _ _ _ (by simp)).trans ((k2 _ 4 (by simp)).trans (cell_new _ _ _ _ rfl))
         have HY2 := hid (hP2.putCyc HR.out (K.cyc 1)); have hne : p ≠ w1.heap.size := by omega
         clear hP2))
    refine cutW (fun W => PI B nr nw cr cw I T W p ⟨y.c, y.s, K.cyc 1⟩ ∧ PM B T p x.s y.s w W ∧ w1.heap.size < W.heap.size ∧ W.cell? ⟨w1.heap.size, 0, none⟩ = some (.int .i64 1) ∧ W.cell? ⟨w1.heap.size, 1, none⟩ = some (.int .i64 d) ∧ W.cell? ⟨w1.heap.size, 2, none⟩ = some (.int .i64 s) ∧ W.cell? ⟨w1.heap.size, 3, none⟩ = some (.int .i64 n) ∧ W.cell? ⟨w1.heap.size, 4, none⟩ = some (.int .i64 v)) ⟨HY2.out, ((hm1.alloc (HP.out.hB HR.out) _).kept ((HY1.out.box HR.out _).hB HR.out) hb2).set HP.out.big 17 _, by rw [setCell_size]; exact z2, o0.out _ hne, o1.out _ hne, o2.out _ hne, o3.out _ hne, o4.out _ hne⟩ ?_
    clear e17 f1 f2 h17 k2 g2 hl2 hl1 z2 hb2 hm1 HY2 HY1 c13 c14 hne
    rintro W ⟨hW, hmW, hzW, q0, q1, q2, q3, q4⟩
    have HW := hid hW
    have HMW := hid hmW
    clear hW hmW
    go_region_held3 (fun w' => w'.cell? ⟨w1.heap.size, 0, none⟩ = some (.int .i64 1))
      ((go_keep; done))
      ((go_at_call 58; refine (acts_any _).mono ?_; rintro e w3 ⟨b12, b13, b16, b17, b18, b19, b29, rfl, hX, hb3⟩; obtain ⟨k3, g3⟩ := bcell hb3; have z3 := Nat.lt_of_lt_of_le hzW hb3.size; have r0 := (k3 _ 0 hzW).trans q0; have r1 := (k3 _ 1 hzW).trans q1; have r2 := (k3 _ 2 hzW).trans q2; have r3 := (k3 _ 3 hzW).trans q3; have r4 := (k3 _ 4 hzW).trans q4; clear hX k3 g3))
    go_wp2_with (go_at_call 73; refine (act_1 HR.out d s n v hd hs hv hv' _ p ⟨y.c, y.s, K.cyc 1⟩ ?_).mono ?_; (exact HW.out.kept HR.out (stp (st0 W).drew hb3)); rintro e w4 ⟨rfl, hP4, hm4⟩)
    go_end0
    exact ⟨rfl, hP4, (HMW.out.kept (HW.out.hB HR.out) (stp (st0 W).drew hb3)).trans hm4⟩
set_option maxRecDepth 100000 in
set_option maxHeartbeats 1600000 in
theorem step_2 (R : RS m B nr nw cr cw I T) (d s : Nat) (n v : Int) (hd : d < 8) (hs : s < 8) (hn : -16 ≤ n ∧ n ≤ 15) (hv : 0 ≤ v) (hv' : v ≤ 65535) (r : Bool) (w : World) (p : Nat) (x y : C.St σ) (hP : PI B nr nw cr cw I T w p x) (hr : (r && x.c.May) = false) (hw : x.c.Waits = false)
    (hF : Calls Tryz.prog 56 #[.pointer (some ⟨p, 0, none⟩)] w fun e w' => e = .returned (ordV 2 d s n v) ∧ PI B nr nw cr cw I T w' p y ∧ PM B T p x.s y.s w w') :
    Calls Tryz.prog 40 #[.pointer (some ⟨p, 0, none⟩), .bool r] w (AP B nr nw cr cw I T w p x (C.act m ⟨y.c, y.s, K.cyc 2⟩ 2 d s n v)) := by
  obtain ⟨_, _, _, _, _, c13, c14, _, _, _⟩ := hP.cells
  have hlt := hP.lt
  have HP := hid hP
  have HR := hid R
  have HF := hid hF
  have hi := acts_at2
  rw [hw] at c14
  clear hP R hF hw
  cases r
  · skip
    go_enter Tryz.func40, Tryz.ntmps40
    go_wp2_with (first
      | (go_at_call 56; refine HF.out.mono ?_; rintro e w1 ⟨rfl, hP1, hm1⟩; have hl1 := hP1.lt; have f1 := hP1.frozen 17; obtain ⟨_, _, _, _, _, _, _, _, _, e17⟩ := hP1.cells; have HY1 := hid hP1; clear hP1)
      | (go_at_call 57; refine (cycles_yes 2 (by decide) (by decide) _ (HR.out.shapes (HY1.out.box HR.out _).inv)).mono ?_; rintro e w2 ⟨rfl, hb2⟩; obtain ⟨k2, g2⟩ := bcell hb2; have hP2 := (HY1.out.box HR.out _).kept HR.out hb2; have hl2 := hP2.lt; have f2 := hP2.frozen 17; obtain ⟨_, _, _, _, _, _, _, _, _, h17⟩ := hP2.cells; have z2 : w1.heap.size < w2.heap.size := by have := hb2.size; simp at this; omega
         have o0 : Hid (∀ u, p ≠ w1.heap.size → (w2.setCell ⟨p, 17, none⟩ u).cell? ⟨w1.heap.size, 0, none⟩ = some (.int .i64 2)) := fun u h => (World.cell?_setCell_other _ _ _ _ (by simp)).trans ((k2 _ 0 (by simp)).trans (cell_new _ _ _ _ rfl))
         have o1 : Hid (∀ u, p ≠ w1.heap.size → (w2.setCell ⟨p, 17, none⟩ u).cell? ⟨w1.heap.size, 1, none⟩ = some (.int .i64 d)) := fun u h => (World.cell?_setCell_other _ _ _ _ (by simp)).trans ((k2 _ 1 (by simp)).trans (cell_new _ _ _ _ rfl))
         have o2 : Hid (∀ u, p ≠ w1.heap.size → (w2.setCell ⟨p, 17, none⟩ u).cell? ⟨w1.heap.size, 2, none⟩ = some (.int .i64 s)) := fun u h => (World.cell?_setCell_other _ _ _ _ (by simp)).trans ((k2 _ 2 (by simp)).trans (cell_new _ _ _ _ rfl))
         have o3 : Hid (∀ u, p ≠ w1.heap.size → (w2.setCell ⟨p, 17, none⟩ u).cell? ⟨w1.heap.size, 3, none⟩ = some (.int .i64 n)) := fun u h => (World.cell?_setCell_other _ _ _ _ (by simp)).trans ((k2 _ 3 (by simp)).trans (cell_new _ _ _ _ rfl))
         have o4 : Hid (∀ u, p ≠ w1.heap.size → (w2.setCell ⟨p, 17, none⟩ u).cell? ⟨w1.heap.size, 4, none⟩ = some (.int .i64 v)) := fun u h => (World.cell?_setCell_other _ _ _ _ (by simp)).trans ((k2 _ 4 (by simp)).trans (cell_new _ _ _ _ rfl))
         have HY2 := hid (hP2.putCyc HR.out (K.cyc 2)); have hne : p ≠ w1.heap.size := by omega
         clear hP2))
    refine cutW (fun W => PI B nr nw cr cw I T W p ⟨y.c, y.s, K.cyc 2⟩ ∧ PM B T p x.s y.s w W ∧ w1.heap.size < W.heap.size ∧ W.cell? ⟨w1.heap.size, 0, none⟩ = some (.int .i64 2) ∧ W.cell? ⟨w1.heap.size, 1, none⟩ = some (.int .i64 d) ∧ W.cell? ⟨w1.heap.size, 2, none⟩ = some (.int .i64 s) ∧ W.cell? ⟨w1.heap.size, 3, none⟩ = some (.int .i64 n) ∧ W.cell? ⟨w1.heap.size, 4, none⟩ = some (.int .i64 v)) ⟨HY2.out, ((hm1.alloc (HP.out.hB HR.out) _).kept ((HY1.out.box HR.out _).hB HR.out) hb2).set HP.out.big 17 _, by rw [setCell_size]; exact z2, o0.out _ hne, o1.out _ hne, o2.out _ hne, o3.out _ hne, o4.out _ hne⟩ ?_
    clear e17 f1 f2 h17 k2 g2 hl2 hl1 z2 hb2 hm1 HY2 HY1 c13 c14 hne
    rintro W ⟨hW, hmW, hzW, q0, q1, q2, q3, q4⟩
    have HW := hid hW
    have HMW := hid hmW
    clear hW hmW
    go_region_held3 (fun w' => w'.cell? ⟨w1.heap.size, 0, none⟩ = some (.int .i64 2))
      ((go_keep; done))
      ((go_at_call 58; refine (acts_any _).mono ?_; rintro e w3 ⟨b12, b13, b16, b17, b18, b19, b29, rfl, hX, hb3⟩; obtain ⟨k3, g3⟩ := bcell hb3; have z3 := Nat.lt_of_lt_of_le hzW hb3.size; have r0 := (k3 _ 0 hzW).trans q0; have r1 := (k3 _ 1 hzW).trans q1; have r2 := (k3 _ 2 hzW).trans q2; have r3 := (k3 _ 3 hzW).trans q3; have r4 := (k3 _ 4 hzW).trans q4; clear hX k3 g3))
    go_wp2_with (go_at_call 74; refine (act_2 HR.out d s n v hd hs hv hv' _ p ⟨y.c, y.s, K.cyc 2⟩ ?_).mono ?_; (exact HW.out.kept HR.out (stp (st0 W).drew hb3)); rintro e w4 ⟨rfl, hP4, hm4⟩)
    go_end0
    exact ⟨rfl, hP4, (HMW.out.kept (HW.out.hB HR.out) (stp (st0 W).drew hb3)).trans hm4⟩
  · simp only [Bool.true_and] at hr
    rw [hr] at c13
    clear hr
    go_enter Tryz.func40, Tryz.ntmps40
    go_wp2_with (first
      | (go_at_call 56; refine HF.out.mono ?_; rintro e w1 ⟨rfl, hP1, hm1⟩; have hl1 := hP1.lt; have f1 := hP1.frozen 17; obtain ⟨_, _, _, _, _, _, _, _, _, e17⟩ := hP1.cells; have HY1 := hid hP1; clear hP1)
      | (go_at_call 57; refine (cycles_yes 2 (by decide) (by decide) _ (HR.out.shapes (HY1.out.box HR.out _).inv)).mono ?_; rintro e w2 ⟨rfl, hb2⟩; obtain ⟨k2, g2⟩ := bcell hb2; have hP2 := (HY1.out.box HR.out _).kept HR.out hb2; have hl2 := hP2.lt; have f2 := hP2.frozen 17; obtain ⟨_, _, _, _, _, _, _, _, _, h17⟩ := hP2.cells; have z2 : w1.heap.size < w2.heap.size := by have := hb2.size; simp at this; omega
         have o0 : Hid (∀ u, p ≠ w1.heap.size → (w2.setCell ⟨p, 17, none⟩ u).cell? ⟨w1.heap.size, 0, none⟩ = some (.int .i64 2)) := fun u h => (World.cell?_setCell_other _ _ _ _ (by simp)).trans ((k2 _ 0 (by simp)).trans (cell_new _ _ _ _ rfl))
         have o1 : Hid (∀ u, p ≠ w1.heap.size → (w2.setCell ⟨p, 17, none⟩ u).cell? ⟨w1.heap.size, 1, none⟩ = some (.int .i64 d)) := fun u h => (World.cell?_setCell_other _ _ _ _ (by simp)).trans ((k2 _ 1 (by simp)).trans (cell_new _ _ _ _ rfl))
         have o2 : Hid (∀ u, p ≠ w1.heap.size → (w2.setCell ⟨p, 17, none⟩ u).cell? ⟨w1.heap.size, 2, none⟩ = some (.int .i64 s)) := fun u h => (World.cell?_setCell_other _ _ _ _ (by simp)).trans ((k2 _ 2 (by simp)).trans (cell_new _ _ _ _ rfl))
         have o3 : Hid (∀ u, p ≠ w1.heap.size → (w2.setCell ⟨p, 17, none⟩ u).cell? ⟨w1.heap.size, 3, none⟩ = some (.int .i64 n)) := fun u h => (World.cell?_setCell_other _ _ _ _ (by simp)).trans ((k2 _ 3 (by simp)).trans (cell_new _ _ _ _ rfl))
         have o4 : Hid (∀ u, p ≠ w1.heap.size → (w2.setCell ⟨p, 17, none⟩ u).cell? ⟨w1.heap.size, 4, none⟩ = some (.int .i64 v)) := fun u h => (World.cell?_setCell_other _ _ _ _ (by simp)).trans ((k2 _ 4 (by simp)).trans (cell_new _ _ _ _ rfl))
         have HY2 := hid (hP2.putCyc HR.out (K.cyc 2)); have hne : p ≠ w1.heap.size := by omega
         clear hP2))
    refine cutW (fun W => PI B nr nw cr cw I T W p ⟨y.c, y.s, K.cyc 2⟩ ∧ PM B T p x.s y.s w W ∧ w1.heap.size < W.heap.size ∧ W.cell? ⟨w1.heap.size, 0, none⟩ = some (.int .i64 2) ∧ W.cell? ⟨w1.heap.size, 1, none⟩ = some (.int .i64 d) ∧ W.cell? ⟨w1.heap.size, 2, none⟩ = some (.int .i64 s) ∧ W.cell? ⟨w1.heap.size, 3, none⟩ = some (.int .i64 n) ∧ W.cell? ⟨w1.heap.size, 4, none⟩ = some (.int .i64 v)) ⟨HY2.out, ((hm1.alloc (HP.out.hB HR.out) _).kept ((HY1.out.box HR.out _).hB HR.out) hb2).set HP.out.big 17 _, by rw [setCell_size]; exact z2, o0.out _ hne, o1.out _ hne, o2.out _ hne, o3.out _ hne, o4.out _ hne⟩ ?_
    clear e17 f1 f2 h17 k2 g2 hl2 hl1 z2 hb2 hm1 HY2 HY1 c13 c14 hne
    rintro W ⟨hW, hmW, hzW, q0, q1, q2, q3, q4⟩
    have HW := hid hW
    have HMW := hid hmW
    clear hW hmW
    go_region_held3 (fun w' => w'.cell? ⟨w1.heap.size, 0, none⟩ = some (.int .i64 2))
      ((go_keep; done))
      ((go_at_call 58; refine (acts_any _).mono ?_; rintro e w3 ⟨b12, b13, b16, b17, b18, b19, b29, rfl, hX, hb3⟩; obtain ⟨k3, g3⟩ := bcell hb3; have z3 := Nat.lt_of_lt_of_le hzW hb3.size; have r0 := (k3 _ 0 hzW).trans q0; have r1 := (k3 _ 1 hzW).trans q1; have r2 := (k3 _ 2 hzW).trans q2; have r3 := (k3 _ 3 hzW).trans q3; have r4 := (k3 _ 4 hzW).trans q4; clear hX k3 g3))
    go_wp2_with (go_at_call 74; refine (act_2 HR.out d s n v hd hs hv hv' _ p ⟨y.c, y.s, K.cyc 2⟩ ?_).mono ?_; (exact HW.out.kept HR.out (stp (st0 W).drew hb3)); rintro e w4 ⟨rfl, hP4, hm4⟩)
    go_end0
    exact ⟨rfl, hP4, (HMW.out.kept (HW.out.hB HR.out) (stp (st0 W).drew hb3)).trans hm4⟩
set_option maxRecDepth 100000 in
set_option maxHeartbeats 1600000 in
theorem step_3 (R : RS m B nr nw cr cw I T) (d s : Nat) (n v : Int) (hd : d < 8) (hs : s < 8) (hn : -16 ≤ n ∧ n ≤ 15) (hv : 0 ≤ v) (hv' : v ≤ 65535) (r : Bool) (w : World) (p : Nat) (x y : C.St σ) (hP : PI B nr nw cr cw I T w p x) (hr : (r && x.c.May) = false) (hw : x.c.Waits = false)
    (hF : Calls Tryz.prog 56 #[.pointer (some ⟨p, 0, none⟩)] w fun e w' => e = .returned (ordV 3 d s n v) ∧ PI B nr nw cr cw I T w' p y ∧ PM B T p x.s y.s w w') :
    Calls Tryz.prog 40 #[.pointer (some ⟨p, 0, none⟩), .bool r] w (AP B nr nw cr cw I T w p x (C.act m ⟨y.c, y.s, K.cyc 3⟩ 3 d s n v)) := by
  obtain ⟨_, _, _, _, _, c13, c14, _, _, _⟩ := hP.cells
  have hlt := hP.lt
  have HP := hid hP
  have HR := hid R
  have HF := hid hF
  have hi := acts_at3
  rw [hw] at c14
  clear hP R hF hw
  cases r
  · skip
    go_enter Tryz.func40, Tryz.ntmps40
    go_wp2_with (first
      | (go_at_call 56; refine HF.out.mono ?_; rintro e w1 ⟨rfl, hP1, hm1⟩; have hl1 := hP1.lt; have f1 := hP1.frozen 17; obtain ⟨_, _, _, _, _, _, _, _, _, e17⟩ := hP1.cells; have HY1 := hid hP1; clear hP1)
      | (go_at_call 57; refine (cycles_yes 3 (by decide) (by decide) _ (HR.out.shapes (HY1.out.box HR.out _).inv)).mono ?_; rintro e w2 ⟨rfl, hb2⟩; obtain ⟨k2, g2⟩ := bcell hb2; have hP2 := (HY1.out.box HR.out _).kept HR.out hb2; have hl2 := hP2.lt; have f2 := hP2.frozen 17; obtain ⟨_, _, _, _, _, _, _, _, _, h17⟩ := hP2.cells; have z2 : w1.heap.size < w2.heap.size := by have := hb2.size; simp at this; omega
         have o0 : Hid (∀ u, p ≠ w1.heap.size → (w2.setCell ⟨p, 17, none⟩ u).cell? ⟨w1.heap.size, 0, none⟩ = some (.int .i64 3)) := fun u h => (World.cell?_setCell_other _ _ _ _ (by simp)).trans ((k2 _ 0 (by simp)).trans (cell_new _ _ _ _ rfl))
         have o1 : Hid (∀ u, p ≠ w1.heap.size → (w2.setCell ⟨p, 17, none⟩ u).cell? ⟨w1.heap.size, 1, none⟩ = some (.int .i64 d)) := fun u h => (World.cell?_setCell_other _ _ _ _ (by simp)).trans ((k2 _ 1 (by simp)).trans (cell_new _ _ _ _ rfl))
         have o2 : Hid (∀ u, p ≠ w1.heap.size → (w2.setCell ⟨p, 17, none⟩ u).cell? ⟨w1.heap.size, 2, none⟩ = some (.int .i64 s)) := fun u h => (World.cell?_setCell_other _ _ _ _ (by simp)).trans ((k2 _ 2 (by simp)).trans (cell_new _ _ _ _ rfl))
         have o3 : Hid (∀ u, p ≠ w1.heap.size → (w2.setCell ⟨p, 17, none⟩ u).cell? ⟨w1.heap.size, 3, none⟩ = some (.int .i64 n)) := fun u h => (World.cell?_setCell_other _ _ _ _ (by simp)).trans ((k2 _ 3 (by simp)).trans (cell_new _ _ _ _ rfl))
         have o4 : Hid (∀ u, p ≠ w1.heap.size → (w2.setCell ⟨p, 17, none⟩ u).cell? ⟨w1.heap.size, 4, none⟩ = some (.int .i64 v)) := fun u h => (World.cell?_setCell_other _ _ _ _ (by simp)).trans ((k2 _ 4 (by simp)).trans (cell_new _ _ _ _ rfl))
         have HY2 := hid (hP2.putCyc HR.out (K.cyc 3)); have hne : p ≠ w1.heap.size := by omega
         clear hP2))
    refine cutW (fun W => PI B nr nw cr cw I T W p ⟨y.c, y.s, K.cyc 3⟩ ∧ PM B T p x.s y.s w W ∧ w1.heap.size < W.heap.size ∧ W.cell? ⟨w1.heap.size, 0, none⟩ = some (.int .i64 3) ∧ W.cell? ⟨w1.heap.size, 1, none⟩ = some (.int .i64 d) ∧ W.cell? ⟨w1.heap.size, 2, none⟩ = some (.int .i64 s) ∧ W.cell? ⟨w1.heap.size, 3, none⟩ = some (.int .i64 n) ∧ W.cell? ⟨w1.heap.size, 4, none⟩ = some (.int .i64 v)) ⟨HY2.out, ((hm1.alloc (HP.out.hB HR.out) _).kept ((HY1.out.box HR.out _).hB HR.out) hb2).set HP.out.big 17 _, by rw [setCell_size]; exact z2, o0.out _ hne, o1.out _ hne, o2.out _ hne, o3.out _ hne, o4.out _ hne⟩ ?_
    clear e17 f1 f2 h17 k2 g2 hl2 hl1 z2 hb2 hm1 HY2 HY1 c13 c14 hne
    rintro W ⟨hW, hmW, hzW, q0, q1, q2, q3, q4⟩
    have HW := hid hW
    have HMW := hid hmW
    clear hW hmW
    go_region_held3 (fun w' => w'.cell? ⟨w1.heap.size, 0, none⟩ = some (.int .i64 3))
      ((go_keep; done))
      ((go_at_call 58; refine (acts_any _).mono ?_; rintro e w3 ⟨b12, b13, b16, b17, b18, b19, b29, rfl, hX, hb3⟩; obtain ⟨k3, g3⟩ := bcell hb3; have z3 := Nat.lt_of_lt_of_le hzW hb3.size; have r0 := (k3 _ 0 hzW).trans q0; have r1 := (k3 _ 1 hzW).trans q1; have r2 := (k3 _ 2 hzW).trans q2; have r3 := (k3 _ 3 hzW).trans q3; have r4 := (k3 _ 4 hzW).trans q4; clear hX k3 g3))
    go_wp2_with (go_at_call 75; refine (act_3 HR.out d s n v hd hs hv hv' _ p ⟨y.c, y.s, K.cyc 3⟩ ?_).mono ?_; (exact HW.out.kept HR.out (stp (st0 W).drew hb3)); rintro e w4 ⟨rfl, hP4, hm4⟩)
    go_end0
    exact ⟨rfl, hP4, (HMW.out.kept (HW.out.hB HR.out) (stp (st0 W).drew hb3)).trans hm4⟩
  · simp only [Bool.true_and] at hr
    rw [hr] at c13
    clear hr
    go_enter Tryz.func40, Tryz.ntmps40
    go_wp2_with (first
      | (go_at_call 56; refine HF.out.mono ?_; rintro e w1 ⟨rfl, hP1, hm1⟩; have hl1 := hP1.lt; have f1 := hP1.frozen 17; obtain ⟨_, _, _, _, _, _, _, _, _, e17⟩ := hP1.cells; have HY1 := hid hP1; clear hP1)
      | (go_at_call 57; refine (cycles_yes 3 (by decide) (by decide) _ (HR.out.shapes (HY1.out.box HR.out _).inv)).mono ?_; rintro e w2 ⟨rfl, hb2⟩; obtain ⟨k2, g2⟩ := bcell hb2; have hP2 := (HY1.out.box HR.out _).kept HR.out hb2; have hl2 := hP2.lt; have f2 := hP2.frozen 17; obtain ⟨_, _, _, _, _, _, _, _, _, h17⟩ := hP2.cells; have z2 : w1.heap.size < w2.heap.size := by have := hb2.size; simp at this; omega
         have o0 : Hid (∀ u, p ≠ w1.heap.size → (w2.setCell ⟨p, 17, none⟩ u).cell? ⟨w1.heap.size, 0, none⟩ = some (.int .i64 3)) := fun u h => (World.cell?_setCell_other _ _ _ _ (by simp)).trans ((k2 _ 0 (by simp)).trans (cell_new _ _ _ _ rfl))
         have o1 : Hid (∀ u, p ≠ w1.heap.size → (w2.setCell ⟨p, 17, none⟩ u).cell? ⟨w1.heap.size, 1, none⟩ = some (.int .i64 d)) := fun u h => (World.cell?_setCell_other _ _ _ _ (by simp)).trans ((k2 _ 1 (by simp)).trans (cell_new _ _ _ _ rfl))
         have o2 : Hid (∀ u, p ≠ w1.heap.size → (w2.setCell ⟨p, 17, none⟩ u).cell? ⟨w1.heap.size, 2, none⟩ = some (.int .i64 s)) := fun u h => (World.cell?_setCell_other _ _ _ _ (by simp)).trans ((k2 _ 2 (by simp)).trans (cell_new _ _ _ _ rfl))
         have o3 : Hid (∀ u, p ≠ w1.heap.size → (w2.setCell ⟨p, 17, none⟩ u).cell? ⟨w1.heap.size, 3, none⟩ = some (.int .i64 n)) := fun u h => (World.cell?_setCell_other _ _ _ _ (by simp)).trans ((k2 _ 3 (by simp)).trans (cell_new _ _ _ _ rfl))
         have o4 : Hid (∀ u, p ≠ w1.heap.size → (w2.setCell ⟨p, 17, none⟩ u).cell? ⟨w1.heap.size, 4, none⟩ = some (.int .i64 v)) := fun u h => (World.cell?_setCell_other _ _ _ _ (by simp)).trans ((k2 _ 4 (by simp)).trans (cell_new _ _ _ _ rfl))
         have HY2 := hid (hP2.putCyc HR.out (K.cyc 3)); have hne : p ≠ w1.heap.size := by omega
         clear hP2))
    refine cutW (fun W => PI B nr nw cr cw I T W p ⟨y.c, y.s, K.cyc 3⟩ ∧ PM B T p x.s y.s w W ∧ w1.heap.size < W.heap.size ∧ W.cell? ⟨w1.heap.size, 0, none⟩ = some (.int .i64 3) ∧ W.cell? ⟨w1.heap.size, 1, none⟩ = some (.int .i64 d) ∧ W.cell? ⟨w1.heap.size, 2, none⟩ = some (.int .i64 s) ∧ W.cell? ⟨w1.heap.size, 3, none⟩ = some (.int .i64 n) ∧ W.cell? ⟨w1.heap.size, 4, none⟩ = some (.int .i64 v)) ⟨HY2.out, ((hm1.alloc (HP.out.hB HR.out) _).kept ((HY1.out.box HR.out _).hB HR.out) hb2).set HP.out.big 17 _, by rw [setCell_size]; exact z2, o0.out _ hne, o1.out _ hne, o2.out _ hne, o3.out _ hne, o4.out _ hne⟩ ?_
    clear e17 f1 f2 h17 k2 g2 hl2 hl1 z2 hb2 hm1 HY2 HY1 c13 c14 hne
    rintro W ⟨hW, hmW, hzW, q0, q1, q2, q3, q4⟩
    have HW := hid hW
    have HMW := hid hmW
    clear hW hmW
    go_region_held3 (fun w' => w'.cell? ⟨w1.heap.size, 0, none⟩ = some (.int .i64 3))
      ((go_keep; done))
      ((go_at_call 58; refine (acts_any _).mono ?_; rintro e w3 ⟨b12, b13, b16, b17, b18, b19, b29, rfl, hX, hb3⟩; obtain ⟨k3, g3⟩ := bcell hb3; have z3 := Nat.lt_of_lt_of_le hzW hb3.size; have r0 := (k3 _ 0 hzW).trans q0; have r1 := (k3 _ 1 hzW).trans q1; have r2 := (k3 _ 2 hzW).trans q2; have r3 := (k3 _ 3 hzW).trans q3; have r4 := (k3 _ 4 hzW).trans q4; clear hX k3 g3))
    go_wp2_with (go_at_call 75; refine (act_3 HR.out d s n v hd hs hv hv' _ p ⟨y.c, y.s, K.cyc 3⟩ ?_).mono ?_; (exact HW.out.kept HR.out (stp (st0 W).drew hb3)); rintro e w4 ⟨rfl, hP4, hm4⟩)
    go_end0
    exact ⟨rfl, hP4, (HMW.out.kept (HW.out.hB HR.out) (stp (st0 W).drew hb3)).trans hm4⟩
set_option maxRecDepth 100000 in
set_option maxHeartbeats 1600000 in
theorem step_4 (R : RS m B nr nw cr cw I T) (d s : Nat) (n v : Int) (hd : d < 8) (hs : s < 8) (hn : -16 ≤ n ∧ n ≤ 15) (hv : 0 ≤ v) (hv' : v ≤ 65535) (r : Bool) (w : World) (p : Nat) (x y : C.St σ) (hP : PI B nr nw cr cw I T w p x) (hr : (r && x.c.May) = false) (hw : x.c.Waits = false)
    (hF : Calls Tryz.prog 56 #[.pointer (some ⟨p, 0, none⟩)] w fun e w' => e = .returned (ordV 4 d s n v) ∧ PI B nr nw cr cw I T w' p y ∧ PM B T p x.s y.s w w') :
    Calls Tryz.prog 40 #[.pointer (some ⟨p, 0, none⟩), .bool r] w (AP B nr nw cr cw I T w p x (C.act m ⟨y.c, y.s, K.cyc 4⟩ 4 d s n v)) := by
  obtain ⟨_, _, _, _, _, c13, c14, _, _, _⟩ := hP.cells
  have hlt := hP.lt
  have HP := hid hP
  have HR := hid R
  have HF := hid hF
  have hi := acts_at4
  rw [hw] at c14
  clear hP R hF hw
  cases r
  · skip
    go_enter Tryz.func40, Tryz.ntmps40
    go_wp2_with (first
      | (go_at_call 56; refine HF.out.mono ?_; rintro e w1 ⟨rfl, hP1, hm1⟩; have hl1 := hP1.lt; have f1 := hP1.frozen 17; obtain ⟨_, _, _, _, _, _, _, _, _, e17⟩ := hP1.cells; have HY1 := hid hP1; clear hP1)
      | (go_at_call 57; refine (cycles_yes 4 (by decide) (by decide) _ (HR.out.shapes (HY1.out.box HR.out _).inv)).mono ?_; rintro e w2 ⟨rfl, hb2⟩; obtain ⟨k2, g2⟩ := bcell hb2; have hP2 := (HY1.out.box HR.out _).kept HR.out hb2; have hl2 := hP2.lt; have f2 := hP2.frozen 17; obtain ⟨_, _, _, _, _, _, _, _, _, h17⟩ := hP2.cells; have z2 : w1.heap.size < w2.heap.size := by have := hb2.size; simp at this; omega
         have o0 : Hid (∀ u, p ≠ w1.heap.size → (w2.setCell ⟨p, 17, none⟩ u).cell? ⟨w1.heap.size, 0, none⟩ = some (.int .i64 4)) := fun u h => (World.cell?_setCell_other _ _ _ _ (by simp)).trans ((k2 _ 0 (by simp)).trans (cell_new _ _ _ _ rfl))
         have o1 : Hid (∀ u, p ≠ w1.heap.size → (w2.setCell ⟨p, 17, none⟩ u).cell? ⟨w1.heap.size, 1, none⟩ = some (.int .i64 d)) := fun u h => (World.cell?_setCell_other _ _ _ _ (by simp)).trans ((k2 _ 1 (by simp)).trans (cell_new _ _ _ _ rfl))
         have o2 : Hid (∀ u, p ≠ w1.heap.size → (w2.setCell ⟨p, 17, none⟩ u).cell? ⟨w1.heap.size, 2, none⟩ = some (.int .i64 s)) := fun u h => (World.cell?_setCell_other _ _ _ _ (by simp)).trans ((k2 _ 2 (by simp)).trans (cell_new _ _ _ _ rfl))
         have o3 : Hid (∀ u, p ≠ w1.heap.size → (w2.setCell ⟨p, 17, none⟩ u).cell? ⟨w1.heap.size, 3, none⟩ = some (.int .i64 n)) := fun u h => (World.cell?_setCell_other _ _ _ _ (by simp)).trans ((k2 _ 3 (by simp)).trans (cell_new _ _ _ _ rfl))
         have o4 : Hid (∀ u, p ≠ w1.heap.size → (w2.setCell ⟨p, 17, none⟩ u).cell? ⟨w1.heap.size, 4, none⟩ = some (.int .i64 v)) := fun u h => (World.cell?_setCell_other _ _ _ _ (by simp)).trans ((k2 _ 4 (by simp)).trans (cell_new _ _ _ _ rfl))
         have HY2 := hid (hP2.putCyc HR.out (K.cyc 4)); have hne : p ≠ w1.heap.size := by omega
         clear hP2))
    refine cutW (fun W => PI B nr nw cr cw I T W p ⟨y.c, y.s, K.cyc 4⟩ ∧ PM B T p x.s y.s w W ∧ w1.heap.size < W.heap.size ∧ W.cell? ⟨w1.heap.size, 0, none⟩ = some (.int .i64 4) ∧ W.cell? ⟨w1.heap.size, 1, none⟩ = some (.int .i64 d) ∧ W.cell? ⟨w1.heap.size, 2, none⟩ = some (.int .i64 s) ∧ W.cell? ⟨w1.heap.size, 3, none⟩ = some (.int .i64 n) ∧ W.cell? ⟨w1.heap.size, 4, none⟩ = some (.int .i64 v)) ⟨HY2.out, ((hm1.alloc (HP.out.hB HR.out) _).kept ((HY1.out.box HR.out _).hB HR.out) hb2).set HP.out.big 17 _, by rw [setCell_size]; exact z2, o0.out _ hne, o1.out _ hne, o2.out _ hne, o3.out _ hne, o4.out _ hne⟩ ?_
    clear e17 f1 f2 h17 k2 g2 hl2 hl1 z2 hb2 hm1 HY2 HY1 c13 c14 hne
    rintro W ⟨hW, hmW, hzW, q0, q1, q2, q3, q4⟩
    have HW := hid hW
    have HMW := hid hmW
    clear hW hmW
    go_region_held3 (fun w' => w'.cell? ⟨w1.heap.size, 0, none⟩ = some (.int .i64 4))
      ((go_keep; done))
      ((go_at_call 58; refine (acts_any _).mono ?_; rintro e w3 ⟨b12, b13, b16, b17, b18, b19, b29, rfl, hX, hb3⟩; obtain ⟨k3, g3⟩ := bcell hb3; have z3 := Nat.lt_of_lt_of_le hzW hb3.size; have r0 := (k3 _ 0 hzW).trans q0; have r1 := (k3 _ 1 hzW).trans q1; have r2 := (k3 _ 2 hzW).trans q2; have r3 := (k3 _ 3 hzW).trans q3; have r4 := (k3 _ 4 hzW).trans q4; clear hX k3 g3))
    go_wp2_with (go_at_call 77; refine (act_4 HR.out d s n v hd hs hv hv' _ p ⟨y.c, y.s, K.cyc 4⟩ ?_).mono ?_; (exact HW.out.kept HR.out (stp (st0 W).drew hb3)); rintro e w4 ⟨rfl, hP4, hm4⟩)
    go_end0
    exact ⟨rfl, hP4, (HMW.out.kept (HW.out.hB HR.out) (stp (st0 W).drew hb3)).trans hm4⟩
  · simp only [Bool.true_and] at hr
    rw [hr] at c13
    clear hr
    go_enter Tryz.func40, Tryz.ntmps40
    go_wp2_with (first
      | (go_at_call 56; refine HF.out.mono ?_; rintro e w1 ⟨rfl, hP1, hm1⟩; have hl1 := hP1.lt; have f1 := hP1.frozen 17; obtain ⟨_, _, _, _, _, _, _, _, _, e17⟩ := hP1.cells; have HY1 := hid hP1; clear hP1)
      | (go_at_call 57; refine (cycles_yes 4 (by decide) (by decide) _ (HR.out.shapes (HY1.out.box HR.out _).inv)).mono ?_; rintro e w2 ⟨rfl, hb2⟩; obtain ⟨k2, g2⟩ := bcell hb2; have hP2 := (HY1.out.box HR.out _).kept HR.out hb2; have hl2 := hP2.lt; have f2 := hP2.frozen 17; obtain ⟨_, _, _, _, _, _, _, _, _, h17⟩ := hP2.cells; have z2 : w1.heap.size < w2.heap.size := by have := hb2.size; simp at this; omega
         have o0 : Hid (∀ u, p ≠ w1.heap.size → (w2.setCell ⟨p, 17, none⟩ u).cell? ⟨w1.heap.size, 0, none⟩ = some (.int .i64 4)) := fun u h => (World.cell?_setCell_other _ _ _ _ (by simp)).trans ((k2 _ 0 (by simp)).trans (cell_new _ _ _ _ rfl))
         have o1 : Hid (∀ u, p ≠ w1.heap.size → (w2.setCell ⟨p, 17, none⟩ u).cell? ⟨w1.heap.size, 1, none⟩ = some (.int .i64 d)) := fun u h => (World.cell?_setCell_other _ _ _ _ (by simp)).trans ((k2 _ 1 (by simp)).trans (cell_new _ _ _ _ rfl))
         have o2 : Hid (∀ u, p ≠ w1.heap.size → (w2.setCell ⟨p, 17, none⟩ u).cell? ⟨w1.heap.size, 2, none⟩ = some (.int .i64 s)) := fun u h => (World.cell?_setCell_other _ _ _ _ (by simp)).trans ((k2 _ 2 (by simp)).trans (cell_new _ _ _ _ rfl))
         have o3 : Hid (∀ u, p ≠ w1.heap.size → (w2.setCell ⟨p, 17, none⟩ u).cell? ⟨w1.heap.size, 3, none⟩ = some (.int .i64 n)) := fun u h => (World.cell?_setCell_other _ _ _ _ (by simp)).trans ((k2 _ 3 (by simp)).trans (cell_new _ _ _ _ rfl))
         have o4 : Hid (∀ u, p ≠ w1.heap.size → (w2.setCell ⟨p, 17, none⟩ u).cell? ⟨w1.heap.size, 4, none⟩ = some (.int .i64 v)) := fun u h => (World.cell?_setCell_other _ _ _ _ (by simp)).trans ((k2 _ 4 (by simp)).trans (cell_new _ _ _ _ rfl))
         have HY2 := hid (hP2.putCyc HR.out (K.cyc 4)); have hne : p ≠ w1.heap.size := by omega
         clear hP2))
    refine cutW (fun W => PI B nr nw cr cw I T W p ⟨y.c, y.s, K.cyc 4⟩ ∧ PM B T p x.s y.s w W ∧ w1.heap.size < W.heap.size ∧ W.cell? ⟨w1.heap.size, 0, none⟩ = some (.int .i64 4) ∧ W.cell? ⟨w1.heap.size, 1, none⟩ = some (.int .i64 d) ∧ W.cell? ⟨w1.heap.size, 2, none⟩ = some (.int .i64 s) ∧ W.cell? ⟨w1.heap.size, 3, none⟩ = some (.int .i64 n) ∧ W.cell? ⟨w1.heap.size, 4, none⟩ = some (.int .i64 v)) ⟨HY2.out, ((hm1.alloc (HP.out.hB HR.out) _).kept ((HY1.out.box HR.out _).hB HR.out) hb2).set HP.out.big 17 _, by rw [setCell_size]; exact z2, o0.out _ hne, o1.out _ hne, o2.out _ hne, o3.out _ hne, o4.out _ hne⟩ ?_
    clear e17 f1 f2 h17 k2 g2 hl2 hl1 z2 hb2 hm1 HY2 HY1 c13 c14 hne
    rintro W ⟨hW, hmW, hzW, q0, q1, q2, q3, q4⟩
    have HW := hid hW
    have HMW := hid hmW
    clear hW hmW
    go_region_held3 (fun w' => w'.cell? ⟨w1.heap.size, 0, none⟩ = some (.int .i64 4))
      ((go_keep; done))
      ((go_at_call 58; refine (acts_any _).mono ?_; rintro e w3 ⟨b12, b13, b16, b17, b18, b19, b29, rfl, hX, hb3⟩; obtain ⟨k3, g3⟩ := bcell hb3; have z3 := Nat.lt_of_lt_of_le hzW hb3.size; have r0 := (k3 _ 0 hzW).trans q0; have r1 := (k3 _ 1 hzW).trans q1; have r2 := (k3 _ 2 hzW).trans q2; have r3 := (k3 _ 3 hzW).trans q3; have r4 := (k3 _ 4 hzW).trans q4; clear hX k3 g3))
    go_wp2_with (go_at_call 77; refine (act_4 HR.out d s n v hd hs hv hv' _ p ⟨y.c, y.s, K.cyc 4⟩ ?_).mono ?_; (exact HW.out.kept HR.out (stp (st0 W).drew hb3)); rintro e w4 ⟨rfl, hP4, hm4⟩)
    go_end0
    exact ⟨rfl, hP4, (HMW.out.kept (HW.out.hB HR.out) (stp (st0 W).drew hb3)).trans hm4⟩
set_option maxRecDepth 100000 in
set_option maxHeartbeats 1600000 in
theorem step_5 (R : RS m B nr nw cr cw I T) (d s : Nat) (n v : Int) (hd : d < 8) (hs : s < 8) (hn : -16 ≤ n ∧ n ≤ 15) (hv : 0 ≤ v) (hv' : v ≤ 65535) (r : Bool) (w : World) (p : Nat) (x y : C.St σ) (hP : PI B nr nw cr cw I T w p x) (hr : (r && x.c.May) = false) (hw : x.c.Waits = false)
    (hF : Calls Tryz.prog 56 #[.pointer (some ⟨p, 0, none⟩)] w fun e w' => e = .returned (ordV 5 d s n v) ∧ PI B nr nw cr cw I T w' p y ∧ PM B T p x.s y.s w w') :
    Calls Tryz.prog 40 #[.pointer (some ⟨p, 0, none⟩), .bool r] w (AP B nr nw cr cw I T w p x (C.act m ⟨y.c, y.s, K.cyc 5⟩ 5 d s n v)) := by
  obtain ⟨_, _, _, _, _, c13, c14, _, _, _⟩ := hP.cells
  have hlt := hP.lt
  have HP := hid hP
  have HR := hid R
  have HF := hid hF
  have hi := acts_at5
  rw [hw] at c14
  clear hP R hF hw
  cases r
  · skip
    go_enter Tryz.func40, Tryz.ntmps40
    go_wp2_with (first
      | (go_at_call 56; refine HF.out.mono ?_; rintro e w1 ⟨rfl, hP1, hm1⟩; have hl1 := hP1.lt; have f1 := hP1.frozen 17; obtain ⟨_, _, _, _, _, _, _, _, _, e17⟩ := hP1.cells; have HY1 := hid hP1; clear hP1)
      | (go_at_call 57; refine (cycles_yes 5 (by decide) (by decide) _ (HR.out.shapes (HY1.out.box HR.out _).inv)).mono ?_; rintro e w2 ⟨rfl, hb2⟩; obtain ⟨k2, g2⟩ := bcell hb2; have hP2 := (HY1.out.box HR.out _).kept HR.out hb2; have hl2 := hP2.lt; have f2 := hP2.frozen 17; obtain ⟨_, _, _, _, _, _, _, _, _, h17⟩ := hP2.cells; have z2 : w1.heap.size < w2.heap.size := by have := hb2.size; simp at this; omega
         have o0 : Hid (∀ u, p ≠ w1.heap.size → (w2.setCell ⟨p, 17, none⟩ u).cell? ⟨w1.heap.size, 0, none⟩ = some (.int .i64 5)) := fun u h => (World.cell?_setCell_other _ _ _ _ (by simp)).trans ((k2 _ 0 (by simp)).trans (cell_new _ _ _ _ rfl))
         have o1 : Hid (∀ u, p ≠ w1.heap.size → (w2.setCell ⟨p, 17, none⟩ u).cell? ⟨w1.heap.size, 1, none⟩ = some (.int .i64 d)) := fun u h => (World.cell?_setCell_other _ _ _ _ (by simp)).trans ((k2 _ 1 (by simp)).trans (cell_new _ _ _ _ rfl))
         have o2 : Hid (∀ u, p ≠ w1.heap.size → (w2.setCell ⟨p, 17, none⟩ u).cell? ⟨w1.heap.size, 2, none⟩ = some (.int .i64 s)) := fun u h => (World.cell?_setCell_other _ _ _ _ (by simp)).trans ((k2 _ 2 (by simp)).trans (cell_new _ _ _ _ rfl))
         have o3 : Hid (∀ u, p ≠ w1.heap.size → (w2.setCell ⟨p, 17, none⟩ u).cell? ⟨w1.heap.size, 3, none⟩ = some (.int .i64 n)) := fun u h => (World.cell?_setCell_other _ _ _ _ (by simp)).trans ((k2 _ 3 (by simp)).trans (cell_new _ _ _ _ rfl))
         have o4 : Hid (∀ u, p ≠ w1.heap.size → (w2.setCell ⟨p, 17, none⟩ u).cell? ⟨w1.heap.size, 4, none⟩ = some (.int .i64 v)) := fun u h => (World.cell?_setCell_other _ _ _ _ (by simp)).trans ((k2 _ 4 (by simp)).trans (cell_new _ _ _ _ rfl))
         have HY2 := hid (hP2.putCyc HR.out (K.cyc 5)); have hne : p ≠ w1.heap.size := by omega
         clear hP2))
    refine cutW (fun W => PI B nr nw cr cw I T W p ⟨y.c, y.s, K.cyc 5⟩ ∧ PM B T p x.s y.s w W ∧ w1.heap.size < W.heap.size ∧ W.cell? ⟨w1.heap.size, 0, none⟩ = some (.int .i64 5) ∧ W.cell? ⟨w1.heap.size, 1, none⟩ = some (.int .i64 d) ∧ W.cell? ⟨w1.heap.size, 2, none⟩ = some (.int .i64 s) ∧ W.cell? ⟨w1.heap.size, 3, none⟩ = some (.int .i64 n) ∧ W.cell? ⟨w1.heap.size, 4, none⟩ = some (.int .i64 v)) ⟨HY2.out, ((hm1.alloc (HP.out.hB HR.out) _).kept ((HY1.out.box HR.out _).hB HR.out) hb2).set HP.out.big 17 _, by rw [setCell_size]; exact z2, o0.out _ hne, o1.out _ hne, o2.out _ hne, o3.out _ hne, o4.out _ hne⟩ ?_
    clear e17 f1 f2 h17 k2 g2 hl2 hl1 z2 hb2 hm1 HY2 HY1 c13 c14 hne
    rintro W ⟨hW, hmW, hzW, q0, q1, q2, q3, q4⟩
    have HW := hid hW
    have HMW := hid hmW
    clear hW hmW
    go_region_held3 (fun w' => w'.cell? ⟨w1.heap.size, 0, none⟩ = some (.int .i64 5))
      ((go_keep; done))
      ((go_at_call 58; refine (acts_any _).mono ?_; rintro e w3 ⟨b12, b13, b16, b17, b18, b19, b29, rfl, hX, hb3⟩; obtain ⟨k3, g3⟩ := bcell hb3; have z3 := Nat.lt_of_lt_of_le hzW hb3.size; have r0 := (k3 _ 0 hzW).trans q0; have r1 := (k3 _ 1 hzW).trans q1; have r2 := (k3 _ 2 hzW).trans q2; have r3 := (k3 _ 3 hzW).trans q3; have r4 := (k3 _ 4 hzW).trans q4; clear hX k3 g3))
    go_wp2_with (go_at_call 79; refine (act_5 HR.out d s n v hd hs hv hv' _ p ⟨y.c, y.s, K.cyc 5⟩ ?_).mono ?_; (exact HW.out.kept HR.out (stp (st0 W).drew hb3)); rintro e w4 ⟨rfl, hP4, hm4⟩)
    go_end0
    exact ⟨rfl, hP4, (HMW.out.kept (HW.out.hB HR.out) (stp (st0 W).drew hb3)).trans hm4⟩
  · simp only [Bool.true_and] at hr
    rw [hr] at c13
    clear hr
    go_enter Tryz.func40, Tryz.ntmps40
    go_wp2_with (first
      | (go_at_call 56; refine HF.out.mono ?_; rintro e w1 ⟨rfl, hP1, hm1⟩; have hl1 := hP1.lt; have f1 := hP1.frozen 17; obtain ⟨_, _, _, _, _, _, _, _, _, e17⟩ := hP1.cells; have HY1 := hid hP1; clear hP1)
      | (go_at_call 57; refine (cycles_yes 5 (by decide) (by decide) _ (HR.out.shapes (HY1.out.box HR.out _).inv)).mono ?_; rintro e w2 ⟨rfl, hb2⟩; obtain ⟨k2, g2⟩ := bcell hb2; have hP2 := (HY1.out.box HR.out _).kept HR.out hb2; have hl2 := hP2.lt; have f2 := hP2.frozen 17; obtain ⟨_, _, _, _, _, _, _, _, _, h17⟩ := hP2.cells; have z2 : w1.heap.size < w2.heap.size := by have := hb2.size; simp at this; omega
         have o0 : Hid (∀ u, p ≠ w1.heap.size → (w2.setCell ⟨p, 17, none⟩ u).cell? ⟨w1.heap.size, 0, none⟩ = some (.int .i64 5)) := fun u h => (World.cell?_setCell_other _ _ _ _ (by simp)).trans ((k2 _ 0 (by simp)).trans (cell_new _ _ _ _ rfl))
         have o1 : Hid (∀ u, p ≠ w1.heap.size → (w2.setCell ⟨p, 17, none⟩ u).cell? ⟨w1.heap.size, 1, none⟩ = some (.int .i64 d)) := fun u h => (World.cell?_setCell_other _ _ _ _ (by simp)).trans ((k2 _ 1 (by simp)).trans (cell_new _ _ _ _ rfl))
         have o2 : Hid (∀ u, p ≠ w1.heap.size → (w2.setCell ⟨p, 17, none⟩ u).cell? ⟨w1.heap.size, 2, none⟩ = some (.int .i64 s)) := fun u h => (World.cell?_setCell_other _ _ _ _ (by simp)).trans ((k2 _ 2 (by simp)).trans (cell_new _ _ _ _ rfl))
         have o3 : Hid (∀ u, p ≠ w1.heap.size → (w2.setCell ⟨p, 17, none⟩ u).cell? ⟨w1.heap.size, 3, none⟩ = some (.int .i64 n)) := fun u h => (World.cell?_setCell_other _ _ _ _ (by simp)).trans ((k2 _ 3 (by simp)).trans (cell_new _ _ _ _ rfl))
         have o4 : Hid (∀ u, p ≠ w1.heap.size → (w2.setCell ⟨p, 17, none⟩ u).cell? ⟨w1.heap.size, 4, none⟩ = some (.int .i64 v)) := fun u h => (World.cell?_setCell_other _ _ _ _ (by simp)).trans ((k2 _ 4 (by simp)).trans (cell_new _ _ _ _ rfl))
         have HY2 := hid (hP2.putCyc HR.out (K.cyc 5)); have hne : p ≠ w1.heap.size := by omega
         clear hP2))
    refine cutW (fun W => PI B nr nw cr cw I T W p ⟨y.c, y.s, K.cyc 5⟩ ∧ PM B T p x.s y.s w W ∧ w1.heap.size < W.heap.size ∧ W.cell? ⟨w1.heap.size, 0, none⟩ = some (.int .i64 5) ∧ W.cell? ⟨w1.heap.size, 1, none⟩ = some (.int .i64 d) ∧ W.cell? ⟨w1.heap.size, 2, none⟩ = some (.int .i64 s) ∧ W.cell? ⟨w1.heap.size, 3, none⟩ = some (.int .i64 n) ∧ W.cell? ⟨w1.heap.size, 4, none⟩ = some (.int .i64 v)) ⟨HY2.out, ((hm1.alloc (HP.out.hB HR.out) _).kept ((HY1.out.box HR.out _).hB HR.out) hb2).set HP.out.big 17 _, by rw [setCell_size]; exact z2, o0.out _ hne, o1.out _ hne, o2.out _ hne, o3.out _ hne, o4.out _ hne⟩ ?_
    clear e17 f1 f2 h17 k2 g2 hl2 hl1 z2 hb2 hm1 HY2 HY1 c13 c14 hne
    rintro W ⟨hW, hmW, hzW, q0, q1, q2, q3, q4⟩
    have HW := hid hW
    have HMW := hid hmW
    clear hW hmW
    go_region_held3 (fun w' => w'.cell? ⟨w1.heap.size, 0, none⟩ = some (.int .i64 5))
      ((go_keep; done))
      ((go_at_call 58; refine (acts_any _).mono ?_; rintro e w3 ⟨b12, b13, b16, b17, b18, b19, b29, rfl, hX, hb3⟩; obtain ⟨k3, g3⟩ := bcell hb3; have z3 := Nat.lt_of_lt_of_le hzW hb3.size; have r0 := (k3 _ 0 hzW).trans q0; have r1 := (k3 _ 1 hzW).trans q1; have r2 := (k3 _ 2 hzW).trans q2; have r3 := (k3 _ 3 hzW).trans q3; have r4 := (k3 _ 4 hzW).trans q4; clear hX k3 g3))
    go_wp2_with (go_at_call 79; refine (act_5 HR.out d s n v hd hs hv hv' _ p ⟨y.c, y.s, K.cyc 5⟩ ?_).mono ?_; (exact HW.out.kept HR.out (stp (st0 W).drew hb3)); rintro e w4 ⟨rfl, hP4, hm4⟩)
    go_end0
    exact ⟨rfl, hP4, (HMW.out.kept (HW.out.hB HR.out) (stp (st0 W).drew hb3)).trans hm4⟩
end
end Go.Proofs.YtombboeonffejaaGreatDoor
