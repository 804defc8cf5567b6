/-
  What one step of a processor of package cpu does, where the order is one of these: 18 19 20 21 22 23.
-/
import Derived.Test.YtombboeonffejaaGreatDoorCpuN
namespace Go.Proofs.YtombboeonffejaaGreatDoor
open Go.ChangeShapes Go.WideShapes Go.ChangeAt Go.RowKit
set_option linter.unusedVariables false

section
variable {σ : Type} {m : C.Mem σ} {B nr nw : Nat} {cr cw : Array Value} {I : World → σ → Prop} {T : σ → Nat → Prop}
set_option maxRecDepth 100000 in
set_option maxHeartbeats 1600000 in
theorem step_18 (R : RS m B nr nw cr cw I T) (d s : Nat) (n v : Int) (hd : d < 8) (hs : s < 8) (hn : -16 ≤ n ∧ n ≤ 15) (hv : 0 ≤ v) (hv' : v ≤ 65535) (r : Bool) (w : World) (p : Nat) (x y : C.St σ) (hP : PI B nr nw cr cw I T w p x) (hr : (r && x.c.May) = false) (hw : x.c.Waits = false)
    (hF : Calls Tryz.prog 56 #[.pointer (some ⟨p, 0, none⟩)] w fun e w' => e = .returned (ordV 18 d s n v) ∧ PI B nr nw cr cw I T w' p y ∧ PM B T p x.s y.s w w') :
    Calls Tryz.prog 40 #[.pointer (some ⟨p, 0, none⟩), .bool r] w (AP B nr nw cr cw I T w p x (C.act m ⟨y.c, y.s, K.cyc 18⟩ 18 d s n v)) := by
  obtain ⟨_, _, _, _, _, c13, c14, _, _, _⟩ := hP.cells
  have hlt := hP.lt
  have HP := hid hP
  have HR := hid R
  have HF := hid hF
  have hi := acts_at18
  rw [hw] at c14
  clear hP R hF hw
  cases r
  · skip
    go_enter Tryz.func40, Tryz.ntmps40
    go_wp2_with (first
      | (go_at_call 56; refine HF.out.mono ?_; rintro e w1 ⟨rfl, hP1, hm1⟩; have hl1 := hP1.lt; have f1 := hP1.frozen 17; obtain ⟨_, _, _, _, _, _, _, _, _, e17⟩ := hP1.cells; have HY1 := hid hP1; clear hP1)
      | (go_at_call 57; refine (cycles_yes 18 (by decide) (by decide) _ (HR.out.shapes (HY1.out.box HR.out _).inv)).mono ?_; rintro e w2 ⟨rfl, hb2⟩; obtain ⟨k2, g2⟩ := bcell hb2; have hP2 := (HY1.out.box HR.out _).kept HR.out hb2; have hl2 := hP2.lt; have f2 := hP2.frozen 17; obtain ⟨_, _, _, _, _, _, _, _, _, h17⟩ := hP2.cells; have z2 : w1.heap.size < w2.heap.size := by have := hb2.size; simp at this; omega
         have o0 : Hid (∀ u, p ≠ w1.heap.size → (w2.setCell ⟨p, 17, none⟩ u).cell? ⟨w1.heap.size, 0, none⟩ = some (.int .i64 18)) := fun u h => (World.cell?_setCell_other _ _ _ _ (by simp)).trans ((k2 _ 0 (by simp)).trans (cell_new _ _ _ _ rfl))
         have o1 : Hid (∀ u, p ≠ w1.heap.size → (w2.setCell ⟨p, 17, none⟩ u).cell? ⟨w1.heap.size, 1, none⟩ = some (.int .i64 d)) := fun u h => (World.cell?_setCell_other _ _ _ _ (by simp)).trans ((k2 _ 1 (by simp)).trans (cell_new _ _ _ _ rfl))
         have o2 : Hid (∀ u, p ≠ w1.heap.size → (w2.setCell ⟨p, 17, none⟩ u).cell? ⟨w1.heap.size, 2, none⟩ = some (.int .i64 s)) := fun u h => (World.cell?_setCell_other _ _ _ _ (by simp)).trans ((k2 _ 2 (by simp)).trans (cell_new _ _ _ _ rfl))
         have o3 : Hid (∀ u, p ≠ w1.heap.size → (w2.setCell ⟨p, 17, none⟩ u).cell? ⟨w1.heap.size, 3, none⟩ = some (.int .i64 n)) := fun u h => (World.cell?_setCell_other _ _ _ _ (by simp)).trans ((k2 _ 3 (by simp)).trans (cell_new _ _ _ _ rfl))
         have o4 : Hid (∀ u, p ≠ w1.heap.size → (w2.setCell ⟨p, 17, none⟩ u).cell? ⟨w1.heap.size, 4, none⟩ = some (.int .i64 v)) := fun u h => (World.cell?_setCell_other _ _ _ _ (by simp)).trans ((k2 _ 4 (by simp)).trans (cell_new _ _ _ _ rfl))
         have HY2 := hid (hP2.putCyc HR.out (K.cyc 18)); have hne : p ≠ w1.heap.size := by omega
         clear hP2))
    refine cutW (fun W => PI B nr nw cr cw I T W p ⟨y.c, y.s, K.cyc 18⟩ ∧ PM B T p x.s y.s w W ∧ w1.heap.size < W.heap.size ∧ W.cell? ⟨w1.heap.size, 0, none⟩ = some (.int .i64 18) ∧ W.cell? ⟨w1.heap.size, 1, none⟩ = some (.int .i64 d) ∧ W.cell? ⟨w1.heap.size, 2, none⟩ = some (.int .i64 s) ∧ W.cell? ⟨w1.heap.size, 3, none⟩ = some (.int .i64 n) ∧ W.cell? ⟨w1.heap.size, 4, none⟩ = some (.int .i64 v)) ⟨HY2.out, ((hm1.alloc (HP.out.hB HR.out) _).kept ((HY1.out.box HR.out _).hB HR.out) hb2).set HP.out.big 17 _, by rw [setCell_size]; exact z2, o0.out _ hne, o1.out _ hne, o2.out _ hne, o3.out _ hne, o4.out _ hne⟩ ?_
    clear e17 f1 f2 h17 k2 g2 hl2 hl1 z2 hb2 hm1 HY2 HY1 c13 c14 hne
    rintro W ⟨hW, hmW, hzW, q0, q1, q2, q3, q4⟩
    have HW := hid hW
    have HMW := hid hmW
    clear hW hmW
    go_region_held3 (fun w' => w'.cell? ⟨w1.heap.size, 0, none⟩ = some (.int .i64 18))
      ((go_keep; done))
      ((go_at_call 58; refine (acts_any _).mono ?_; rintro e w3 ⟨b12, b13, b16, b17, b18, b19, b29, rfl, hX, hb3⟩; obtain ⟨k3, g3⟩ := bcell hb3; have bx := hid (hX.2.2.2.2.1); have z3 := Nat.lt_of_lt_of_le hzW hb3.size; have r0 := (k3 _ 0 hzW).trans q0; have r1 := (k3 _ 1 hzW).trans q1; have r2 := (k3 _ 2 hzW).trans q2; have r3 := (k3 _ 3 hzW).trans q3; have r4 := (k3 _ 4 hzW).trans q4; clear hX k3 g3))
    go_wp2_with (go_at_call 121; refine (actj_18 HR.out d s n v hv hv' b18 _ p ⟨y.c, y.s, K.cyc 18⟩ (show (0 : Int) ≤ K.cyc 18 by decide +kernel) (show K.cyc 18 ≤ 100 by decide +kernel) ?_ bx.out).mono ?_; (exact HW.out.kept HR.out (stp (st0 W).drew hb3)); rintro e w4 ⟨rfl, hP4, hm4⟩)
    go_end0
    exact ⟨rfl, hP4, (HMW.out.kept (HW.out.hB HR.out) (stp (st0 W).drew hb3)).trans hm4⟩
  · simp only [Bool.true_and] at hr
    rw [hr] at c13
    clear hr
    go_enter Tryz.func40, Tryz.ntmps40
    go_wp2_with (first
      | (go_at_call 56; refine HF.out.mono ?_; rintro e w1 ⟨rfl, hP1, hm1⟩; have hl1 := hP1.lt; have f1 := hP1.frozen 17; obtain ⟨_, _, _, _, _, _, _, _, _, e17⟩ := hP1.cells; have HY1 := hid hP1; clear hP1)
      | (go_at_call 57; refine (cycles_yes 18 (by decide) (by decide) _ (HR.out.shapes (HY1.out.box HR.out _).inv)).mono ?_; rintro e w2 ⟨rfl, hb2⟩; obtain ⟨k2, g2⟩ := bcell hb2; have hP2 := (HY1.out.box HR.out _).kept HR.out hb2; have hl2 := hP2.lt; have f2 := hP2.frozen 17; obtain ⟨_, _, _, _, _, _, _, _, _, h17⟩ := hP2.cells; have z2 : w1.heap.size < w2.heap.size := by have := hb2.size; simp at this; omega
         have o0 : Hid (∀ u, p ≠ w1.heap.size → (w2.setCell ⟨p, 17, none⟩ u).cell? ⟨w1.heap.size, 0, none⟩ = some (.int .i64 18)) := fun u h => (World.cell?_setCell_other _ _ _ _ (by simp)).trans ((k2 _ 0 (by simp)).trans (cell_new _ _ _ _ rfl))
         have o1 : Hid (∀ u, p ≠ w1.heap.size → (w2.setCell ⟨p, 17, none⟩ u).cell? ⟨w1.heap.size, 1, none⟩ = some (.int .i64 d)) := fun u h => (World.cell?_setCell_other _ _ _ _ (by simp)).trans ((k2 _ 1 (by simp)).trans (cell_new _ _ _ _ rfl))
         have o2 : Hid (∀ u, p ≠ w1.heap.size → (w2.setCell ⟨p, 17, none⟩ u).cell? ⟨w1.heap.size, 2, none⟩ = some (.int .i64 s)) := fun u h => (World.cell?_setCell_other _ _ _ _ (by simp)).trans ((k2 _ 2 (by simp)).trans (cell_new _ _ _ _ rfl))
         have o3 : Hid (∀ u, p ≠ w1.heap.size → (w2.setCell ⟨p, 17, none⟩ u).cell? ⟨w1.heap.size, 3, none⟩ = some (.int .i64 n)) := fun u h => (World.cell?_setCell_other _ _ _ _ (by simp)).trans ((k2 _ 3 (by simp)).trans (cell_new _ _ _ _ rfl))
         have o4 : Hid (∀ u, p ≠ w1.heap.size → (w2.setCell ⟨p, 17, none⟩ u).cell? ⟨w1.heap.size, 4, none⟩ = some (.int .i64 v)) := fun u h => (World.cell?_setCell_other _ _ _ _ (by simp)).trans ((k2 _ 4 (by simp)).trans (cell_new _ _ _ _ rfl))
         have HY2 := hid (hP2.putCyc HR.out (K.cyc 18)); have hne : p ≠ w1.heap.size := by omega
         clear hP2))
    refine cutW (fun W => PI B nr nw cr cw I T W p ⟨y.c, y.s, K.cyc 18⟩ ∧ PM B T p x.s y.s w W ∧ w1.heap.size < W.heap.size ∧ W.cell? ⟨w1.heap.size, 0, none⟩ = some (.int .i64 18) ∧ W.cell? ⟨w1.heap.size, 1, none⟩ = some (.int .i64 d) ∧ W.cell? ⟨w1.heap.size, 2, none⟩ = some (.int .i64 s) ∧ W.cell? ⟨w1.heap.size, 3, none⟩ = some (.int .i64 n) ∧ W.cell? ⟨w1.heap.size, 4, none⟩ = some (.int .i64 v)) ⟨HY2.out, ((hm1.alloc (HP.out.hB HR.out) _).kept ((HY1.out.box HR.out _).hB HR.out) hb2).set HP.out.big 17 _, by rw [setCell_size]; exact z2, o0.out _ hne, o1.out _ hne, o2.out _ hne, o3.out _ hne, o4.out _ hne⟩ ?_
    clear e17 f1 f2 h17 k2 g2 hl2 hl1 z2 hb2 hm1 HY2 HY1 c13 c14 hne
    rintro W ⟨hW, hmW, hzW, q0, q1, q2, q3, q4⟩
    have HW := hid hW
    have HMW := hid hmW
    clear hW hmW
    go_region_held3 (fun w' => w'.cell? ⟨w1.heap.size, 0, none⟩ = some (.int .i64 18))
      ((go_keep; done))
      ((go_at_call 58; refine (acts_any _).mono ?_; rintro e w3 ⟨b12, b13, b16, b17, b18, b19, b29, rfl, hX, hb3⟩; obtain ⟨k3, g3⟩ := bcell hb3; have bx := hid (hX.2.2.2.2.1); have z3 := Nat.lt_of_lt_of_le hzW hb3.size; have r0 := (k3 _ 0 hzW).trans q0; have r1 := (k3 _ 1 hzW).trans q1; have r2 := (k3 _ 2 hzW).trans q2; have r3 := (k3 _ 3 hzW).trans q3; have r4 := (k3 _ 4 hzW).trans q4; clear hX k3 g3))
    go_wp2_with (go_at_call 121; refine (actj_18 HR.out d s n v hv hv' b18 _ p ⟨y.c, y.s, K.cyc 18⟩ (show (0 : Int) ≤ K.cyc 18 by decide +kernel) (show K.cyc 18 ≤ 100 by decide +kernel) ?_ bx.out).mono ?_; (exact HW.out.kept HR.out (stp (st0 W).drew hb3)); rintro e w4 ⟨rfl, hP4, hm4⟩)
    go_end0
    exact ⟨rfl, hP4, (HMW.out.kept (HW.out.hB HR.out) (stp (st0 W).drew hb3)).trans hm4⟩
set_option maxRecDepth 100000 in
set_option maxHeartbeats 1600000 in
theorem step_19 (R : RS m B nr nw cr cw I T) (d s : Nat) (n v : Int) (hd : d < 8) (hs : s < 8) (hn : -16 ≤ n ∧ n ≤ 15) (hv : 0 ≤ v) (hv' : v ≤ 65535) (r : Bool) (w : World) (p : Nat) (x y : C.St σ) (hP : PI B nr nw cr cw I T w p x) (hr : (r && x.c.May) = false) (hw : x.c.Waits = false)
    (hF : Calls Tryz.prog 56 #[.pointer (some ⟨p, 0, none⟩)] w fun e w' => e = .returned (ordV 19 d s n v) ∧ PI B nr nw cr cw I T w' p y ∧ PM B T p x.s y.s w w') :
    Calls Tryz.prog 40 #[.pointer (some ⟨p, 0, none⟩), .bool r] w (AP B nr nw cr cw I T w p x (C.act m ⟨y.c, y.s, K.cyc 19⟩ 19 d s n v)) := by
  obtain ⟨_, _, _, _, _, c13, c14, _, _, _⟩ := hP.cells
  have hlt := hP.lt
  have HP := hid hP
  have HR := hid R
  have HF := hid hF
  have hi := acts_at19
  rw [hw] at c14
  clear hP R hF hw
  cases r
  · skip
    go_enter Tryz.func40, Tryz.ntmps40
    go_wp2_with (first
      | (go_at_call 56; refine HF.out.mono ?_; rintro e w1 ⟨rfl, hP1, hm1⟩; have hl1 := hP1.lt; have f1 := hP1.frozen 17; obtain ⟨_, _, _, _, _, _, _, _, _, e17⟩ := hP1.cells; have HY1 := hid hP1; clear hP1)
      | (go_at_call 57; refine (cycles_yes 19 (by decide) (by decide) _ (HR.out.shapes (HY1.out.box HR.out _).inv)).mono ?_; rintro e w2 ⟨rfl, hb2⟩; obtain ⟨k2, g2⟩ := bcell hb2; have hP2 := (HY1.out.box HR.out _).kept HR.out hb2; have hl2 := hP2.lt; have f2 := hP2.frozen 17; obtain ⟨_, _, _, _, _, _, _, _, _, h17⟩ := hP2.cells; have z2 : w1.heap.size < w2.heap.size := by have := hb2.size; simp at this; omega
         have o0 : Hid (∀ u, p ≠ w1.heap.size → (w2.setCell ⟨p, 17, none⟩ u).cell? ⟨w1.heap.size, 0, none⟩ = some (.int .i64 19)) := fun u h => (World.cell?_setCell_other _ _ _ _ (by simp)).trans ((k2 _ 0 (by simp)).trans (cell_new _ _ _ _ rfl))
         have o1 : Hid (∀ u, p ≠ w1.heap.size → (w2.setCell ⟨p, 17, none⟩ u).cell? ⟨w1.heap.size, 1, none⟩ = some (.int .i64 d)) := fun u h => (World.cell?_setCell_other _ _ _ _ (by simp)).trans ((k2 _ 1 (by simp)).trans (cell_new _ _ _ _ rfl))
         have o2 : Hid (∀ u, p ≠ w1.heap.size → (w2.setCell ⟨p, 17, none⟩ u).cell? ⟨w1.heap.size, 2, none⟩ = some (.int .i64 s)) := fun u h => (World.cell?_setCell_other _ _ _ _ (by simp)).trans ((k2 _ 2 (by simp)).trans (cell_new _ _ _ _ rfl))
         have o3 : Hid (∀ u, p ≠ w1.heap.size → (w2.setCell ⟨p, 17, none⟩ u).cell? ⟨w1.heap.size, 3, none⟩ = some (.int .i64 n)) := fun u h => (World.cell?_setCell_other _ _ _ _ (by simp)).trans ((k2 _ 3 (by simp)).trans (cell_new _ _ _ _ rfl))
         have o4 : Hid (∀ u, p ≠ w1.heap.size → (w2.setCell ⟨p, 17, none⟩ u).cell? ⟨w1.heap.size, 4, none⟩ = some (.int .i64 v)) := fun u h => (World.cell?_setCell_other _ _ _ _ (by simp)).trans ((k2 _ 4 (by simp)).trans (cell_new _ _ _ _ rfl))
         have HY2 := hid (hP2.putCyc HR.out (K.cyc 19)); have hne : p ≠ w1.heap.size := by omega
         clear hP2))
    refine cutW (fun W => PI B nr nw cr cw I T W p ⟨y.c, y.s, K.cyc 19⟩ ∧ PM B T p x.s y.s w W ∧ w1.heap.size < W.heap.size ∧ W.cell? ⟨w1.heap.size, 0, none⟩ = some (.int .i64 19) ∧ W.cell? ⟨w1.heap.size, 1, none⟩ = some (.int .i64 d) ∧ W.cell? ⟨w1.heap.size, 2, none⟩ = some (.int .i64 s) ∧ W.cell? ⟨w1.heap.size, 3, none⟩ = some (.int .i64 n) ∧ W.cell? ⟨w1.heap.size, 4, none⟩ = some (.int .i64 v)) ⟨HY2.out, ((hm1.alloc (HP.out.hB HR.out) _).kept ((HY1.out.box HR.out _).hB HR.out) hb2).set HP.out.big 17 _, by rw [setCell_size]; exact z2, o0.out _ hne, o1.out _ hne, o2.out _ hne, o3.out _ hne, o4.out _ hne⟩ ?_
    clear e17 f1 f2 h17 k2 g2 hl2 hl1 z2 hb2 hm1 HY2 HY1 c13 c14 hne
    rintro W ⟨hW, hmW, hzW, q0, q1, q2, q3, q4⟩
    have HW := hid hW
    have HMW := hid hmW
    clear hW hmW
    go_region_held3 (fun w' => w'.cell? ⟨w1.heap.size, 0, none⟩ = some (.int .i64 19))
      ((go_keep; done))
      ((go_at_call 58; refine (acts_any _).mono ?_; rintro e w3 ⟨b12, b13, b16, b17, b18, b19, b29, rfl, hX, hb3⟩; obtain ⟨k3, g3⟩ := bcell hb3; have bx := hid (hX.2.2.2.2.2.1); have z3 := Nat.lt_of_lt_of_le hzW hb3.size; have r0 := (k3 _ 0 hzW).trans q0; have r1 := (k3 _ 1 hzW).trans q1; have r2 := (k3 _ 2 hzW).trans q2; have r3 := (k3 _ 3 hzW).trans q3; have r4 := (k3 _ 4 hzW).trans q4; clear hX k3 g3))
    go_wp2_with (go_at_call 121; refine (actj_19 HR.out d s n v hv hv' b19 _ p ⟨y.c, y.s, K.cyc 19⟩ (show (0 : Int) ≤ K.cyc 19 by decide +kernel) (show K.cyc 19 ≤ 100 by decide +kernel) ?_ bx.out).mono ?_; (exact HW.out.kept HR.out (stp (st0 W).drew hb3)); rintro e w4 ⟨rfl, hP4, hm4⟩)
    go_end0
    exact ⟨rfl, hP4, (HMW.out.kept (HW.out.hB HR.out) (stp (st0 W).drew hb3)).trans hm4⟩
  · simp only [Bool.true_and] at hr
    rw [hr] at c13
    clear hr
    go_enter Tryz.func40, Tryz.ntmps40
    go_wp2_with (first
      | (go_at_call 56; refine HF.out.mono ?_; rintro e w1 ⟨rfl, hP1, hm1⟩; have hl1 := hP1.lt; have f1 := hP1.frozen 17; obtain ⟨_, _, _, _, _, _, _, _, _, e17⟩ := hP1.cells; have HY1 := hid hP1; clear hP1)
      | (go_at_call 57; refine (cycles_yes 19 (by decide) (by decide) _ (HR.out.shapes (HY1.out.box HR.out _).inv)).mono ?_; rintro e w2 ⟨rfl, hb2⟩; obtain ⟨k2, g2⟩ := bcell hb2; have hP2 := (HY1.out.box HR.out _).kept HR.out hb2; have hl2 := hP2.lt; have f2 := hP2.frozen 17; obtain ⟨_, _, _, _, _, _, _, _, _, h17⟩ := hP2.cells; have z2 : w1.heap.size < w2.heap.size := by have := hb2.size; simp at this; omega
         have o0 : Hid (∀ u, p ≠ w1.heap.size → (w2.setCell ⟨p, 17, none⟩ u).cell? ⟨w1.heap.size, 0, none⟩ = some (.int .i64 19)) := fun u h => (World.cell?_setCell_other _ _ _ _ (by simp)).trans ((k2 _ 0 (by simp)).trans (cell_new _ _ _ _ rfl))
         have o1 : Hid (∀ u, p ≠ w1.heap.size → (w2.setCell ⟨p, 17, none⟩ u).cell? ⟨w1.heap.size, 1, none⟩ = some (.int .i64 d)) := fun u h => (World.cell?_setCell_other _ _ _ _ (by simp)).trans ((k2 _ 1 (by simp)).trans (cell_new _ _ _ _ rfl))
         have o2 : Hid (∀ u, p ≠ w1.heap.size → (w2.setCell ⟨p, 17, none⟩ u).cell? ⟨w1.heap.size, 2, none⟩ = some (.int .i64 s)) := fun u h => (World.cell?_setCell_other _ _ _ _ (by simp)).trans ((k2 _ 2 (by simp)).trans (cell_new _ _ _ _ rfl))
         have o3 : Hid (∀ u, p ≠ w1.heap.size → (w2.setCell ⟨p, 17, none⟩ u).cell? ⟨w1.heap.size, 3, none⟩ = some (.int .i64 n)) := fun u h => (World.cell?_setCell_other _ _ _ _ (by simp)).trans ((k2 _ 3 (by simp)).trans (cell_new _ _ _ _ rfl))
         have o4 : Hid (∀ u, p ≠ w1.heap.size → (w2.setCell ⟨p, 17, none⟩ u).cell? ⟨w1.heap.size, 4, none⟩ = some (.int .i64 v)) := fun u h => (World.cell?_setCell_other _ _ _ _ (by simp)).trans ((k2 _ 4 (by simp)).trans (cell_new _ _ _ _ rfl))
         have HY2 := hid (hP2.putCyc HR.out (K.cyc 19)); have hne : p ≠ w1.heap.size := by omega
         clear hP2))
    refine cutW (fun W => PI B nr nw cr cw I T W p ⟨y.c, y.s, K.cyc 19⟩ ∧ PM B T p x.s y.s w W ∧ w1.heap.size < W.heap.size ∧ W.cell? ⟨w1.heap.size, 0, none⟩ = some (.int .i64 19) ∧ W.cell? ⟨w1.heap.size, 1, none⟩ = some (.int .i64 d) ∧ W.cell? ⟨w1.heap.size, 2, none⟩ = some (.int .i64 s) ∧ W.cell? ⟨w1.heap.size, 3, none⟩ = some (.int .i64 n) ∧ W.cell? ⟨w1.heap.size, 4, none⟩ = some (.int .i64 v)) ⟨HY2.out, ((hm1.alloc (HP.out.hB HR.out) _).kept ((HY1.out.box HR.out _).hB HR.out) hb2).set HP.out.big 17 _, by rw [setCell_size]; exact z2, o0.out _ hne, o1.out _ hne, o2.out _ hne, o3.out _ hne, o4.out _ hne⟩ ?_
    clear e17 f1 f2 h17 k2 g2 hl2 hl1 z2 hb2 hm1 HY2 HY1 c13 c14 hne
    rintro W ⟨hW, hmW, hzW, q0, q1, q2, q3, q4⟩
    have HW := hid hW
    have HMW := hid hmW
    clear hW hmW
    go_region_held3 (fun w' => w'.cell? ⟨w1.heap.size, 0, none⟩ = some (.int .i64 19))
      ((go_keep; done))
      ((go_at_call 58; refine (acts_any _).mono ?_; rintro e w3 ⟨b12, b13, b16, b17, b18, b19, b29, rfl, hX, hb3⟩; obtain ⟨k3, g3⟩ := bcell hb3; have bx := hid (hX.2.2.2.2.2.1); have z3 := Nat.lt_of_lt_of_le hzW hb3.size; have r0 := (k3 _ 0 hzW).trans q0; have r1 := (k3 _ 1 hzW).trans q1; have r2 := (k3 _ 2 hzW).trans q2; have r3 := (k3 _ 3 hzW).trans q3; have r4 := (k3 _ 4 hzW).trans q4; clear hX k3 g3))
    go_wp2_with (go_at_call 121; refine (actj_19 HR.out d s n v hv hv' b19 _ p ⟨y.c, y.s, K.cyc 19⟩ (show (0 : Int) ≤ K.cyc 19 by decide +kernel) (show K.cyc 19 ≤ 100 by decide +kernel) ?_ bx.out).mono ?_; (exact HW.out.kept HR.out (stp (st0 W).drew hb3)); rintro e w4 ⟨rfl, hP4, hm4⟩)
    go_end0
    exact ⟨rfl, hP4, (HMW.out.kept (HW.out.hB HR.out) (stp (st0 W).drew hb3)).trans hm4⟩
set_option maxRecDepth 100000 in
set_option maxHeartbeats 1600000 in
theorem step_20 (R : RS m B nr nw cr cw I T) (d s : Nat) (n v : Int) (hd : d < 8) (hs : s < 8) (hn : -16 ≤ n ∧ n ≤ 15) (hv : 0 ≤ v) (hv' : v ≤ 65535) (r : Bool) (w : World) (p : Nat) (x y : C.St σ) (hP : PI B nr nw cr cw I T w p x) (hr : (r && x.c.May) = false) (hw : x.c.Waits = false)
    (hF : Calls Tryz.prog 56 #[.pointer (some ⟨p, 0, none⟩)] w fun e w' => e = .returned (ordV 20 d s n v) ∧ PI B nr nw cr cw I T w' p y ∧ PM B T p x.s y.s w w') :
    Calls Tryz.prog 40 #[.pointer (some ⟨p, 0, none⟩), .bool r] w (AP B nr nw cr cw I T w p x (C.act m ⟨y.c, y.s, K.cyc 20⟩ 20 d s n v)) := by
  obtain ⟨_, _, _, _, _, c13, c14, _, _, _⟩ := hP.cells
  have hlt := hP.lt
  have HP := hid hP
  have HR := hid R
  have HF := hid hF
  have hi := acts_at20
  rw [hw] at c14
  clear hP R hF hw
  cases r
  · skip
    go_enter Tryz.func40, Tryz.ntmps40
    go_wp2_with (first
      | (go_at_call 56; refine HF.out.mono ?_; rintro e w1 ⟨rfl, hP1, hm1⟩; have hl1 := hP1.lt; have f1 := hP1.frozen 17; obtain ⟨_, _, _, _, _, _, _, _, _, e17⟩ := hP1.cells; have HY1 := hid hP1; clear hP1)
      | (go_at_call 57; refine (cycles_yes 20 (by decide) (by decide) _ (HR.out.shapes (HY1.out.box HR.out _).inv)).mono ?_; rintro e w2 ⟨rfl, hb2⟩; obtain ⟨k2, g2⟩ := bcell hb2; have hP2 := (HY1.out.box HR.out _).kept HR.out hb2; have hl2 := hP2.lt; have f2 := hP2.frozen 17; obtain ⟨_, _, _, _, _, _, _, _, _, h17⟩ := hP2.cells; have z2 : w1.heap.size < w2.heap.size := by have := hb2.size; simp at this; omega
         have o0 : Hid (∀ u, p ≠ w1.heap.size → (w2.setCell ⟨p, 17, none⟩ u).cell? ⟨w1.heap.size, 0, none⟩ = some (.int .i64 20)) := fun u h => (World.cell?_setCell_other _ _ _ _ (by simp)).trans ((k2 _ 0 (by simp)).trans (cell_new _ _ _ _ rfl))
         have o1 : Hid (∀ u, p ≠ w1.heap.size → (w2.setCell ⟨p, 17, none⟩ u).cell? ⟨w1.heap.size, 1, none⟩ = some (.int .i64 d)) := fun u h => (World.cell?_setCell_other _ _ _ _ (by simp)).trans ((k2 _ 1 (by simp)).trans (cell_new _ _ _ _ rfl))
         have o2 : Hid (∀ u, p ≠ w1.heap.size → (w2.setCell ⟨p, 17, none⟩ u).cell? ⟨w1.heap.size, 2, none⟩ = some (.int .i64 s)) := fun u h => (World.cell?_setCell_other _ _ _ _ (by simp)).trans ((k2 _ 2 (by simp)).trans (cell_new _ _ _ _ rfl))
         have o3 : Hid (∀ u, p ≠ w1.heap.size → (w2.setCell ⟨p, 17, none⟩ u).cell? ⟨w1.heap.size, 3, none⟩ = some (.int .i64 n)) := fun u h => (World.cell?_setCell_other _ _ _ _ (by simp)).trans ((k2 _ 3 (by simp)).trans (cell_new _ _ _ _ rfl))
         have o4 : Hid (∀ u, p ≠ w1.heap.size → (w2.setCell ⟨p, 17, none⟩ u).cell? ⟨w1.heap.size, 4, none⟩ = some (.int .i64 v)) := fun u h => (World.cell?_setCell_other _ _ _ _ (by simp)).trans ((k2 _ 4 (by simp)).trans (cell_new _ _ _ _ rfl))
         have HY2 := hid (hP2.putCyc HR.out (K.cyc 20)); have hne : p ≠ w1.heap.size := by omega
         clear hP2))
    refine cutW (fun W => PI B nr nw cr cw I T W p ⟨y.c, y.s, K.cyc 20⟩ ∧ PM B T p x.s y.s w W ∧ w1.heap.size < W.heap.size ∧ W.cell? ⟨w1.heap.size, 0, none⟩ = some (.int .i64 20) ∧ W.cell? ⟨w1.heap.size, 1, none⟩ = some (.int .i64 d) ∧ W.cell? ⟨w1.heap.size, 2, none⟩ = some (.int .i64 s) ∧ W.cell? ⟨w1.heap.size, 3, none⟩ = some (.int .i64 n) ∧ W.cell? ⟨w1.heap.size, 4, none⟩ = some (.int .i64 v)) ⟨HY2.out, ((hm1.alloc (HP.out.hB HR.out) _).kept ((HY1.out.box HR.out _).hB HR.out) hb2).set HP.out.big 17 _, by rw [setCell_size]; exact z2, o0.out _ hne, o1.out _ hne, o2.out _ hne, o3.out _ hne, o4.out _ hne⟩ ?_
    clear e17 f1 f2 h17 k2 g2 hl2 hl1 z2 hb2 hm1 HY2 HY1 c13 c14 hne
    rintro W ⟨hW, hmW, hzW, q0, q1, q2, q3, q4⟩
    have HW := hid hW
    have HMW := hid hmW
    clear hW hmW
    go_region_held3 (fun w' => w'.cell? ⟨w1.heap.size, 0, none⟩ = some (.int .i64 20))
      ((go_keep; done))
      ((go_at_call 58; refine (acts_any _).mono ?_; rintro e w3 ⟨b12, b13, b16, b17, b18, b19, b29, rfl, hX, hb3⟩; obtain ⟨k3, g3⟩ := bcell hb3; have z3 := Nat.lt_of_lt_of_le hzW hb3.size; have r0 := (k3 _ 0 hzW).trans q0; have r1 := (k3 _ 1 hzW).trans q1; have r2 := (k3 _ 2 hzW).trans q2; have r3 := (k3 _ 3 hzW).trans q3; have r4 := (k3 _ 4 hzW).trans q4; clear hX k3 g3))
    go_wp2_with (go_at_call 94; refine (act_20 HR.out d s n v hd hs hv hv' _ p ⟨y.c, y.s, K.cyc 20⟩ ?_).mono ?_; (exact HW.out.kept HR.out (stp (st0 W).drew hb3)); rintro e w4 ⟨rfl, hP4, hm4⟩)
    go_end0
    exact ⟨rfl, hP4, (HMW.out.kept (HW.out.hB HR.out) (stp (st0 W).drew hb3)).trans hm4⟩
  · simp only [Bool.true_and] at hr
    rw [hr] at c13
    clear hr
    go_enter Tryz.func40, Tryz.ntmps40
    go_wp2_with (first
      | (go_at_call 56; refine HF.out.mono ?_; rintro e w1 ⟨rfl, hP1, hm1⟩; have hl1 := hP1.lt; have f1 := hP1.frozen 17; obtain ⟨_, _, _, _, _, _, _, _, _, e17⟩ := hP1.cells; have HY1 := hid hP1; clear hP1)
      | (go_at_call 57; refine (cycles_yes 20 (by decide) (by decide) _ (HR.out.shapes (HY1.out.box HR.out _).inv)).mono ?_; rintro e w2 ⟨rfl, hb2⟩; obtain ⟨k2, g2⟩ := bcell hb2; have hP2 := (HY1.out.box HR.out _).kept HR.out hb2; have hl2 := hP2.lt; have f2 := hP2.frozen 17; obtain ⟨_, _, _, _, _, _, _, _, _, h17⟩ := hP2.cells; have z2 : w1.heap.size < w2.heap.size := by have := hb2.size; simp at this; omega
         have o0 : Hid (∀ u, p ≠ w1.heap.size → (w2.setCell ⟨p, 17, none⟩ u).cell? ⟨w1.heap.size, 0, none⟩ = some (.int .i64 20)) := fun u h => (World.cell?_setCell_other _ _ _ _ (by simp)).trans ((k2 _ 0 (by simp)).trans (cell_new _ _ _ _ rfl))
         have o1 : Hid (∀ u, p ≠ w1.heap.size → (w2.setCell ⟨p, 17, none⟩ u).cell? ⟨w1.heap.size, 1, none⟩ = some (.int .i64 d)) := fun u h => (World.cell?_setCell_other _ _ _ _ (by simp)).trans ((k2 _ 1 (by simp)).trans (cell_new _ _ _ _ rfl))
         have o2 : Hid (∀ u, p ≠ w1.heap.size → (w2.setCell ⟨p, 17, none⟩ u).cell? ⟨w1.heap.size, 2, none⟩ = some (.int .i64 s)) := fun u h => (World.cell?_setCell_other _ _ _ _ (by simp)).trans ((k2 _ 2 (by simp)).trans (cell_new _ _ _ _ rfl))
         have o3 : Hid (∀ u, p ≠ w1.heap.size → (w2.setCell ⟨p, 17, none⟩ u).cell? ⟨w1.heap.size, 3, none⟩ = some (.int .i64 n)) := fun u h => (World.cell?_setCell_other _ _ _ _ (by simp)).trans ((k2 _ 3 (by simp)).trans (cell_new _ _ _ _ rfl))
         have o4 : Hid (∀ u, p ≠ w1.heap.size → (w2.setCell ⟨p, 17, none⟩ u).cell? ⟨w1.heap.size, 4, none⟩ = some (.int .i64 v)) := fun u h => (World.cell?_setCell_other _ _ _ _ (by simp)).trans ((k2 _ 4 (by simp)).trans (cell_new _ _ _ _ rfl))
         have HY2 := hid (hP2.putCyc HR.out (K.cyc 20)); have hne : p ≠ w1.heap.size := by omega
         clear hP2))
    refine cutW (fun W => PI B nr nw cr cw I T W p ⟨y.c, y.s, K.cyc 20⟩ ∧ PM B T p x.s y.s w W ∧ w1.heap.size < W.heap.size ∧ W.cell? ⟨w1.heap.size, 0, none⟩ = some (.int .i64 20) ∧ W.cell? ⟨w1.heap.size, 1, none⟩ = some (.int .i64 d) ∧ W.cell? ⟨w1.heap.size, 2, none⟩ = some (.int .i64 s) ∧ W.cell? ⟨w1.heap.size, 3, none⟩ = some (.int .i64 n) ∧ W.cell? ⟨w1.heap.size, 4, none⟩ = some (.int .i64 v)) ⟨HY2.out, ((hm1.alloc (HP.out.hB HR.out) _).kept ((HY1.out.box HR.out _).hB HR.out) hb2).set HP.out.big 17 _, by rw [setCell_size]; exact z2, o0.out _ hne, o1.out _ hne, o2.out _ hne, o3.out _ hne, o4.out _ hne⟩ ?_
    clear e17 f1 f2 h17 k2 g2 hl2 hl1 z2 hb2 hm1 HY2 HY1 c13 c14 hne
    rintro W ⟨hW, hmW, hzW, q0, q1, q2, q3, q4⟩
    have HW := hid hW
    have HMW := hid hmW
    clear hW hmW
    go_region_held3 (fun w' => w'.cell? ⟨w1.heap.size, 0, none⟩ = some (.int .i64 20))
      ((go_keep; done))
      ((go_at_call 58; refine (acts_any _).mono ?_; rintro e w3 ⟨b12, b13, b16, b17, b18, b19, b29, rfl, hX, hb3⟩; obtain ⟨k3, g3⟩ := bcell hb3; have z3 := Nat.lt_of_lt_of_le hzW hb3.size; have r0 := (k3 _ 0 hzW).trans q0; have r1 := (k3 _ 1 hzW).trans q1; have r2 := (k3 _ 2 hzW).trans q2; have r3 := (k3 _ 3 hzW).trans q3; have r4 := (k3 _ 4 hzW).trans q4; clear hX k3 g3))
    go_wp2_with (go_at_call 94; refine (act_20 HR.out d s n v hd hs hv hv' _ p ⟨y.c, y.s, K.cyc 20⟩ ?_).mono ?_; (exact HW.out.kept HR.out (stp (st0 W).drew hb3)); rintro e w4 ⟨rfl, hP4, hm4⟩)
    go_end0
    exact ⟨rfl, hP4, (HMW.out.kept (HW.out.hB HR.out) (stp (st0 W).drew hb3)).trans hm4⟩
set_option maxRecDepth 100000 in
set_option maxHeartbeats 1600000 in
theorem step_21 (R : RS m B nr nw cr cw I T) (d s : Nat) (n v : Int) (hd : d < 8) (hs : s < 8) (hn : -16 ≤ n ∧ n ≤ 15) (hv : 0 ≤ v) (hv' : v ≤ 65535) (r : Bool) (w : World) (p : Nat) (x y : C.St σ) (hP : PI B nr nw cr cw I T w p x) (hr : (r && x.c.May) = false) (hw : x.c.Waits = false)
    (hF : Calls Tryz.prog 56 #[.pointer (some ⟨p, 0, none⟩)] w fun e w' => e = .returned (ordV 21 d s n v) ∧ PI B nr nw cr cw I T w' p y ∧ PM B T p x.s y.s w w') :
    Calls Tryz.prog 40 #[.pointer (some ⟨p, 0, none⟩), .bool r] w (AP B nr nw cr cw I T w p x (C.act m ⟨y.c, y.s, K.cyc 21⟩ 21 d s n v)) := by
  obtain ⟨_, _, _, _, _, c13, c14, _, _, _⟩ := hP.cells
  have hlt := hP.lt
  have HP := hid hP
  have HR := hid R
  have HF := hid hF
  have hi := acts_at21
  rw [hw] at c14
  clear hP R hF hw
  cases r
  · skip
    go_enter Tryz.func40, Tryz.ntmps40
    go_wp2_with (first
      | (go_at_call 56; refine HF.out.mono ?_; rintro e w1 ⟨rfl, hP1, hm1⟩; have hl1 := hP1.lt; have f1 := hP1.frozen 17; obtain ⟨_, _, _, _, _, _, _, _, _, e17⟩ := hP1.cells; have HY1 := hid hP1; clear hP1)
      | (go_at_call 57; refine (cycles_yes 21 (by decide) (by decide) _ (HR.out.shapes (HY1.out.box HR.out _).inv)).mono ?_; rintro e w2 ⟨rfl, hb2⟩; obtain ⟨k2, g2⟩ := bcell hb2; have hP2 := (HY1.out.box HR.out _).kept HR.out hb2; have hl2 := hP2.lt; have f2 := hP2.frozen 17; obtain ⟨_, _, _, _, _, _, _, _, _, h17⟩ := hP2.cells; have z2 : w1.heap.size < w2.heap.size := by have := hb2.size; simp at this; omega
         have o0 : Hid (∀ u, p ≠ w1.heap.size → (w2.setCell ⟨p, 17, none⟩ u).cell? ⟨w1.heap.size, 0, none⟩ = some (.int .i64 21)) := fun u h => (World.cell?_setCell_other _ _ _ _ (by simp)).trans ((k2 _ 0 (by simp)).trans (cell_new _ _ _ _ rfl))
         have o1 : Hid (∀ u, p ≠ w1.heap.size → (w2.setCell ⟨p, 17, none⟩ u).cell? ⟨w1.heap.size, 1, none⟩ = some (.int .i64 d)) := fun u h => (World.cell?_setCell_other _ _ _ _ (by simp)).trans ((k2 _ 1 (by simp)).trans (cell_new _ _ _ _ rfl))
         have o2 : Hid (∀ u, p ≠ w1.heap.size → (w2.setCell ⟨p, 17, none⟩ u).cell? ⟨w1.heap.size, 2, none⟩ = some (.int .i64 s)) := fun u h => (World.cell?_setCell_other _ _ _ _ (by simp)).trans ((k2 _ 2 (by simp)).trans (cell_new _ _ _ _ rfl))
         have o3 : Hid (∀ u, p ≠ w1.heap.size → (w2.setCell ⟨p, 17, none⟩ u).cell? ⟨w1.heap.size, 3, none⟩ = some (.int .i64 n)) := fun u h => (World.cell?_setCell_other _ _ _ _ (by simp)).trans ((k2 _ 3 (by simp)).trans (cell_new _ _ _ _ rfl))
         have o4 : Hid (∀ u, p ≠ w1.heap.size → (w2.setCell ⟨p, 17, none⟩ u).cell? ⟨w1.heap.size, 4, none⟩ = some (.int .i64 v)) := fun u h => (World.cell?_setCell_other _ _ _ _ (by simp)).trans ((k2 _ 4 (by simp)).trans (cell_new _ _ _ _ rfl))
         have HY2 := hid (hP2.putCyc HR.out (K.cyc 21)); have hne : p ≠ w1.heap.size := by omega
         clear hP2))
    refine cutW (fun W => PI B nr nw cr cw I T W p ⟨y.c, y.s, K.cyc 21⟩ ∧ PM B T p x.s y.s w W ∧ w1.heap.size < W.heap.size ∧ W.cell? ⟨w1.heap.size, 0, none⟩ = some (.int .i64 21) ∧ W.cell? ⟨w1.heap.size, 1, none⟩ = some (.int .i64 d) ∧ W.cell? ⟨w1.heap.size, 2, none⟩ = some (.int .i64 s) ∧ W.cell? ⟨w1.heap.size, 3, none⟩ = some (.int .i64 n) ∧ W.cell? ⟨w1.heap.size, 4, none⟩ = some (.int .i64 v)) ⟨HY2.out, ((hm1.alloc (HP.out.hB HR.out) _).kept ((HY1.out.box HR.out _).hB HR.out) hb2).set HP.out.big 17 _, by rw [setCell_size]; exact z2, o0.out _ hne, o1.out _ hne, o2.out _ hne, o3.out _ hne, o4.out _ hne⟩ ?_
    clear e17 f1 f2 h17 k2 g2 hl2 hl1 z2 hb2 hm1 HY2 HY1 c13 c14 hne
    rintro W ⟨hW, hmW, hzW, q0, q1, q2, q3, q4⟩
    have HW := hid hW
    have HMW := hid hmW
    clear hW hmW
    go_region_held3 (fun w' => w'.cell? ⟨w1.heap.size, 0, none⟩ = some (.int .i64 21))
      ((go_keep; done))
      ((go_at_call 58; refine (acts_any _).mono ?_; rintro e w3 ⟨b12, b13, b16, b17, b18, b19, b29, rfl, hX, hb3⟩; obtain ⟨k3, g3⟩ := bcell hb3; have z3 := Nat.lt_of_lt_of_le hzW hb3.size; have r0 := (k3 _ 0 hzW).trans q0; have r1 := (k3 _ 1 hzW).trans q1; have r2 := (k3 _ 2 hzW).trans q2; have r3 := (k3 _ 3 hzW).trans q3; have r4 := (k3 _ 4 hzW).trans q4; clear hX k3 g3))
    go_wp2_with (go_at_call 95; refine (act_21 HR.out d s n v hd hs hv hv' _ p ⟨y.c, y.s, K.cyc 21⟩ ?_).mono ?_; (exact HW.out.kept HR.out (stp (st0 W).drew hb3)); rintro e w4 ⟨rfl, hP4, hm4⟩)
    go_end0
    exact ⟨rfl, hP4, (HMW.out.kept (HW.out.hB HR.out) (stp (st0 W).drew hb3)).trans hm4⟩
  · simp only [Bool.true_and] at hr
    rw [hr] at c13
    clear hr
    go_enter Tryz.func40, Tryz.ntmps40
    go_wp2_with (first
      | (go_at_call 56; refine HF.out.mono ?_; rintro e w1 ⟨rfl, hP1, hm1⟩; have hl1 := hP1.lt; have f1 := hP1.frozen 17; obtain ⟨_, _, _, _, _, _, _, _, _, e17⟩ := hP1.cells; have HY1 := hid hP1; clear hP1)
      | (go_at_call 57; refine (cycles_yes 21 (by decide) (by decide) _ (HR.out.shapes (HY1.out.box HR.out _).inv)).mono ?_; rintro e w2 ⟨rfl, hb2⟩; obtain ⟨k2, g2⟩ := bcell hb2; have hP2 := (HY1.out.box HR.out _).kept HR.out hb2; have hl2 := hP2.lt; have f2 := hP2.frozen 17; obtain ⟨_, _, _, _, _, _, _, _, _, h17⟩ := hP2.cells; have z2 : w1.heap.size < w2.heap.size := by have := hb2.size; simp at this; omega
         have o0 : Hid (∀ u, p ≠ w1.heap.size → (w2.setCell ⟨p, 17, none⟩ u).cell? ⟨w1.heap.size, 0, none⟩ = some (.int .i64 21)) := fun u h => (World.cell?_setCell_other _ _ _ _ (by simp)).trans ((k2 _ 0 (by simp)).trans (cell_new _ _ _ _ rfl))
         have o1 : Hid (∀ u, p ≠ w1.heap.size → (w2.setCell ⟨p, 17, none⟩ u).cell? ⟨w1.heap.size, 1, none⟩ = some (.int .i64 d)) := fun u h => (World.cell?_setCell_other _ _ _ _ (by simp)).trans ((k2 _ 1 (by simp)).trans (cell_new _ _ _ _ rfl))
         have o2 : Hid (∀ u, p ≠ w1.heap.size → (w2.setCell ⟨p, 17, none⟩ u).cell? ⟨w1.heap.size, 2, none⟩ = some (.int .i64 s)) := fun u h => (World.cell?_setCell_other _ _ _ _ (by simp)).trans ((k2 _ 2 (by simp)).trans (cell_new _ _ _ _ rfl))
         have o3 : Hid (∀ u, p ≠ w1.heap.size → (w2.setCell ⟨p, 17, none⟩ u).cell? ⟨w1.heap.size, 3, none⟩ = some (.int .i64 n)) := fun u h => (World.cell?_setCell_other _ _ _ _ (by simp)).trans ((k2 _ 3 (by simp)).trans (cell_new _ _ _ _ rfl))
         have o4 : Hid (∀ u, p ≠ w1.heap.size → (w2.setCell ⟨p, 17, none⟩ u).cell? ⟨w1.heap.size, 4, none⟩ = some (.int .i64 v)) := fun u h => (World.cell?_setCell_other _ _ _ _ (by simp)).trans ((k2 _ 4 (by simp)).trans (cell_new _ _ _ _ rfl))
         have HY2 := hid (hP2.putCyc HR.out (K.cyc 21)); have hne : p ≠ w1.heap.size := by omega
         clear hP2))
    refine cutW (fun W => PI B nr nw cr cw I T W p ⟨y.c, y.s, K.cyc 21⟩ ∧ PM B T p x.s y.s w W ∧ w1.heap.size < W.heap.size ∧ W.cell? ⟨w1.heap.size, 0, none⟩ = some (.int .i64 21) ∧ W.cell? ⟨w1.heap.size, 1, none⟩ = some (.int .i64 d) ∧ W.cell? ⟨w1.heap.size, 2, none⟩ = some (.int .i64 s) ∧ W.cell? ⟨w1.heap.size, 3, none⟩ = some (.int .i64 n) ∧ W.cell? ⟨w1.heap.size, 4, none⟩ = some (.int .i64 v)) ⟨HY2.out, ((hm1.alloc (HP.out.hB HR.out) _).kept ((HY1.out.box HR.out _).hB HR.out) hb2).set HP.out.big 17 _, by rw [setCell_size]; exact z2, o0.out _ hne, o1.out _ hne, o2.out _ hne, o3.out _ hne, o4.out _ hne⟩ ?_
    clear e17 f1 f2 h17 k2 g2 hl2 hl1 z2 hb2 hm1 HY2 HY1 c13 c14 hne
    rintro W ⟨hW, hmW, hzW, q0, q1, q2, q3, q4⟩
    have HW := hid hW
    have HMW := hid hmW
    clear hW hmW
    go_region_held3 (fun w' => w'.cell? ⟨w1.heap.size, 0, none⟩ = some (.int .i64 21))
      ((go_keep; done))
      ((go_at_call 58; refine (acts_any _).mono ?_; rintro e w3 ⟨b12, b13, b16, b17, b18, b19, b29, rfl, hX, hb3⟩; obtain ⟨k3, g3⟩ := bcell hb3; have z3 := Nat.lt_of_lt_of_le hzW hb3.size; have r0 := (k3 _ 0 hzW).trans q0; have r1 := (k3 _ 1 hzW).trans q1; have r2 := (k3 _ 2 hzW).trans q2; have r3 := (k3 _ 3 hzW).trans q3; have r4 := (k3 _ 4 hzW).trans q4; clear hX k3 g3))
    go_wp2_with (go_at_call 95; refine (act_21 HR.out d s n v hd hs hv hv' _ p ⟨y.c, y.s, K.cyc 21⟩ ?_).mono ?_; (exact HW.out.kept HR.out (stp (st0 W).drew hb3)); rintro e w4 ⟨rfl, hP4, hm4⟩)
    go_end0
    exact ⟨rfl, hP4, (HMW.out.kept (HW.out.hB HR.out) (stp (st0 W).drew hb3)).trans hm4⟩
set_option maxRecDepth 100000 in
set_option maxHeartbeats 1600000 in
theorem step_22 (R : RS m B nr nw cr cw I T) (d s : Nat) (n v : Int) (hd : d < 8) (hs : s < 8) (hn : -16 ≤ n ∧ n ≤ 15) (hv : 0 ≤ v) (hv' : v ≤ 65535) (r : Bool) (w : World) (p : Nat) (x y : C.St σ) (hP : PI B nr nw cr cw I T w p x) (hr : (r && x.c.May) = false) (hw : x.c.Waits = false)
    (hF : Calls Tryz.prog 56 #[.pointer (some ⟨p, 0, none⟩)] w fun e w' => e = .returned (ordV 22 d s n v) ∧ PI B nr nw cr cw I T w' p y ∧ PM B T p x.s y.s w w') :
    Calls Tryz.prog 40 #[.pointer (some ⟨p, 0, none⟩), .bool r] w (AP B nr nw cr cw I T w p x (C.act m ⟨y.c, y.s, K.cyc 22⟩ 22 d s n v)) := by
  obtain ⟨_, _, _, _, _, c13, c14, _, _, _⟩ := hP.cells
  have hlt := hP.lt
  have HP := hid hP
  have HR := hid R
  have HF := hid hF
  have hi := acts_at22
  rw [hw] at c14
  clear hP R hF hw
  cases r
  · skip
    go_enter Tryz.func40, Tryz.ntmps40
    go_wp2_with (first
      | (go_at_call 56; refine HF.out.mono ?_; rintro e w1 ⟨rfl, hP1, hm1⟩; have hl1 := hP1.lt; have f1 := hP1.frozen 17; obtain ⟨_, _, _, _, _, _, _, _, _, e17⟩ := hP1.cells; have HY1 := hid hP1; clear hP1)
      | (go_at_call 57; refine (cycles_yes 22 (by decide) (by decide) _ (HR.out.shapes (HY1.out.box HR.out _).inv)).mono ?_; rintro e w2 ⟨rfl, hb2⟩; obtain ⟨k2, g2⟩ := bcell hb2; have hP2 := (HY1.out.box HR.out _).kept HR.out hb2; have hl2 := hP2.lt; have f2 := hP2.frozen 17; obtain ⟨_, _, _, _, _, _, _, _, _, h17⟩ := hP2.cells; have z2 : w1.heap.size < w2.heap.size := by have := hb2.size; simp at this; omega
         have o0 : Hid (∀ u, p ≠ w1.heap.size → (w2.setCell ⟨p, 17, none⟩ u).cell? ⟨w1.heap.size, 0, none⟩ = some (.int .i64 22)) := fun u h => (World.cell?_setCell_other _ _ _ _ (by simp)).trans ((k2 _ 0 (by simp)).trans (cell_new _ _ _ _ rfl))
         have o1 : Hid (∀ u, p ≠ w1.heap.size → (w2.setCell ⟨p, 17, none⟩ u).cell? ⟨w1.heap.size, 1, none⟩ = some (.int .i64 d)) := fun u h => (World.cell?_setCell_other _ _ _ _ (by simp)).trans ((k2 _ 1 (by simp)).trans (cell_new _ _ _ _ rfl))
         have o2 : Hid (∀ u, p ≠ w1.heap.size → (w2.setCell ⟨p, 17, none⟩ u).cell? ⟨w1.heap.size, 2, none⟩ = some (.int .i64 s)) := fun u h => (World.cell?_setCell_other _ _ _ _ (by simp)).trans ((k2 _ 2 (by simp)).trans (cell_new _ _ _ _ rfl))
         have o3 : Hid (∀ u, p ≠ w1.heap.size → (w2.setCell ⟨p, 17, none⟩ u).cell? ⟨w1.heap.size, 3, none⟩ = some (.int .i64 n)) := fun u h => (World.cell?_setCell_other _ _ _ _ (by simp)).trans ((k2 _ 3 (by simp)).trans (cell_new _ _ _ _ rfl))
         have o4 : Hid (∀ u, p ≠ w1.heap.size → (w2.setCell ⟨p, 17, none⟩ u).cell? ⟨w1.heap.size, 4, none⟩ = some (.int .i64 v)) := fun u h => (World.cell?_setCell_other _ _ _ _ (by simp)).trans ((k2 _ 4 (by simp)).trans (cell_new _ _ _ _ rfl))
         have HY2 := hid (hP2.putCyc HR.out (K.cyc 22)); have hne : p ≠ w1.heap.size := by omega
         clear hP2))
    refine cutW (fun W => PI B nr nw cr cw I T W p ⟨y.c, y.s, K.cyc 22⟩ ∧ PM B T p x.s y.s w W ∧ w1.heap.size < W.heap.size ∧ W.cell? ⟨w1.heap.size, 0, none⟩ = some (.int .i64 22) ∧ W.cell? ⟨w1.heap.size, 1, none⟩ = some (.int .i64 d) ∧ W.cell? ⟨w1.heap.size, 2, none⟩ = some (.int .i64 s) ∧ W.cell? ⟨w1.heap.size, 3, none⟩ = some (.int .i64 n) ∧ W.cell? ⟨w1.heap.size, 4, none⟩ = some (.int .i64 v)) ⟨HY2.out, ((hm1.alloc (HP.out.hB HR.out) _).kept ((HY1.out.box HR.out _).hB HR.out) hb2).set HP.out.big 17 _, by rw [setCell_size]; exact z2, o0.out _ hne, o1.out _ hne, o2.out _ hne, o3.out _ hne, o4.out _ hne⟩ ?_
    clear e17 f1 f2 h17 k2 g2 hl2 hl1 z2 hb2 hm1 HY2 HY1 c13 c14 hne
    rintro W ⟨hW, hmW, hzW, q0, q1, q2, q3, q4⟩
    have HW := hid hW
    have HMW := hid hmW
    clear hW hmW
    go_region_held3 (fun w' => w'.cell? ⟨w1.heap.size, 0, none⟩ = some (.int .i64 22))
      ((go_keep; done))
      ((go_at_call 58; refine (acts_any _).mono ?_; rintro e w3 ⟨b12, b13, b16, b17, b18, b19, b29, rfl, hX, hb3⟩; obtain ⟨k3, g3⟩ := bcell hb3; have z3 := Nat.lt_of_lt_of_le hzW hb3.size; have r0 := (k3 _ 0 hzW).trans q0; have r1 := (k3 _ 1 hzW).trans q1; have r2 := (k3 _ 2 hzW).trans q2; have r3 := (k3 _ 3 hzW).trans q3; have r4 := (k3 _ 4 hzW).trans q4; clear hX k3 g3))
    go_wp2_with (go_at_call 97; refine (act_22 HR.out d s n v hd hs hv hv' _ p ⟨y.c, y.s, K.cyc 22⟩ ?_).mono ?_; (exact HW.out.kept HR.out (stp (st0 W).drew hb3)); rintro e w4 ⟨rfl, hP4, hm4⟩)
    go_end0
    exact ⟨rfl, hP4, (HMW.out.kept (HW.out.hB HR.out) (stp (st0 W).drew hb3)).trans hm4⟩
  · simp only [Bool.true_and] at hr
    rw [hr] at c13
    clear hr
    go_enter Tryz.func40, Tryz.ntmps40
    go_wp2_with (first
      | (go_at_call 56; refine HF.out.mono ?_; rintro e w1 ⟨rfl, hP1, hm1⟩; have hl1 := hP1.lt; have f1 := hP1.frozen 17; obtain ⟨_, _, _, _, _, _, _, _, _, e17⟩ := hP1.cells; have HY1 := hid hP1; clear hP1)
      | (go_at_call 57; refine (cycles_yes 22 (by decide) (by decide) _ (HR.out.shapes (HY1.out.box HR.out _).inv)).mono ?_; rintro e w2 ⟨rfl, hb2⟩; obtain ⟨k2, g2⟩ := bcell hb2; have hP2 := (HY1.out.box HR.out _).kept HR.out hb2; have hl2 := hP2.lt; have f2 := hP2.frozen 17; obtain ⟨_, _, _, _, _, _, _, _, _, h17⟩ := hP2.cells; have z2 : w1.heap.size < w2.heap.size := by have := hb2.size; simp at this; omega
         have o0 : Hid (∀ u, p ≠ w1.heap.size → (w2.setCell ⟨p, 17, none⟩ u).cell? ⟨w1.heap.size, 0, none⟩ = some (.int .i64 22)) := fun u h => (World.cell?_setCell_other _ _ _ _ (by simp)).trans ((k2 _ 0 (by simp)).trans (cell_new _ _ _ _ rfl))
         have o1 : Hid (∀ u, p ≠ w1.heap.size → (w2.setCell ⟨p, 17, none⟩ u).cell? ⟨w1.heap.size, 1, none⟩ = some (.int .i64 d)) := fun u h => (World.cell?_setCell_other _ _ _ _ (by simp)).trans ((k2 _ 1 (by simp)).trans (cell_new _ _ _ _ rfl))
         have o2 : Hid (∀ u, p ≠ w1.heap.size → (w2.setCell ⟨p, 17, none⟩ u).cell? ⟨w1.heap.size, 2, none⟩ = some (.int .i64 s)) := fun u h => (World.cell?_setCell_other _ _ _ _ (by simp)).trans ((k2 _ 2 (by simp)).trans (cell_new _ _ _ _ rfl))
         have o3 : Hid (∀ u, p ≠ w1.heap.size → (w2.setCell ⟨p, 17, none⟩ u).cell? ⟨w1.heap.size, 3, none⟩ = some (.int .i64 n)) := fun u h => (World.cell?_setCell_other _ _ _ _ (by simp)).trans ((k2 _ 3 (by simp)).trans (cell_new _ _ _ _ rfl))
         have o4 : Hid (∀ u, p ≠ w1.heap.size → (w2.setCell ⟨p, 17, none⟩ u).cell? ⟨w1.heap.size, 4, none⟩ = some (.int .i64 v)) := fun u h => (World.cell?_setCell_other _ _ _ _ (by simp)).trans ((k2 _ 4 (by simp)).trans (cell_new _ _ _ _ rfl))
         have HY2 := hid (hP2.putCyc HR.out (K.cyc 22)); have hne : p ≠ w1.heap.size := by omega
         clear hP2))
    refine cutW (fun W => PI B nr nw cr cw I T W p ⟨y.c, y.s, K.cyc 22⟩ ∧ PM B T p x.s y.s w W ∧ w1.heap.size < W.heap.size ∧ W.cell? ⟨w1.heap.size, 0, none⟩ = some (.int .i64 22) ∧ W.cell? ⟨w1.heap.size, 1, none⟩ = some (.int .i64 d) ∧ W.cell? ⟨w1.heap.size, 2, none⟩ = some (.int .i64 s) ∧ W.cell? ⟨w1.heap.size, 3, none⟩ = some (.int .i64 n) ∧ W.cell? ⟨w1.heap.size, 4, none⟩ = some (.int .i64 v)) ⟨HY2.out, ((hm1.alloc (HP.out.hB HR.out) _).kept ((HY1.out.box HR.out _).hB HR.out) hb2).set HP.out.big 17 _, by rw [setCell_size]; exact z2, o0.out _ hne, o1.out _ hne, o2.out _ hne, o3.out _ hne, o4.out _ hne⟩ ?_
    clear e17 f1 f2 h17 k2 g2 hl2 hl1 z2 hb2 hm1 HY2 HY1 c13 c14 hne
    rintro W ⟨hW, hmW, hzW, q0, q1, q2, q3, q4⟩
    have HW := hid hW
    have HMW := hid hmW
    clear hW hmW
    go_region_held3 (fun w' => w'.cell? ⟨w1.heap.size, 0, none⟩ = some (.int .i64 22))
      ((go_keep; done))
      ((go_at_call 58; refine (acts_any _).mono ?_; rintro e w3 ⟨b12, b13, b16, b17, b18, b19, b29, rfl, hX, hb3⟩; obtain ⟨k3, g3⟩ := bcell hb3; have z3 := Nat.lt_of_lt_of_le hzW hb3.size; have r0 := (k3 _ 0 hzW).trans q0; have r1 := (k3 _ 1 hzW).trans q1; have r2 := (k3 _ 2 hzW).trans q2; have r3 := (k3 _ 3 hzW).trans q3; have r4 := (k3 _ 4 hzW).trans q4; clear hX k3 g3))
    go_wp2_with (go_at_call 97; refine (act_22 HR.out d s n v hd hs hv hv' _ p ⟨y.c, y.s, K.cyc 22⟩ ?_).mono ?_; (exact HW.out.kept HR.out (stp (st0 W).drew hb3)); rintro e w4 ⟨rfl, hP4, hm4⟩)
    go_end0
    exact ⟨rfl, hP4, (HMW.out.kept (HW.out.hB HR.out) (stp (st0 W).drew hb3)).trans hm4⟩
set_option maxRecDepth 100000 in
set_option maxHeartbeats 1600000 in
theorem step_23 (R : RS m B nr nw cr cw I T) (d s : Nat) (n v : Int) (hd : d < 8) (hs : s < 8) (hn : -16 ≤ n ∧ n ≤ 15) (hv : 0 ≤ v) (hv' : v ≤ 65535) (r : Bool) (w : World) (p : Nat) (x y : C.St σ) (hP : PI B nr nw cr cw I T w p x) (hr : (r && x.c.May) = false) (hw : x.c.Waits = false)
    (hF : Calls Tryz.prog 56 #[.pointer (some ⟨p, 0, none⟩)] w fun e w' => e = .returned (ordV 23 d s n v) ∧ PI B nr nw cr cw I T w' p y ∧ PM B T p x.s y.s w w') :
    Calls Tryz.prog 40 #[.pointer (some ⟨p, 0, none⟩), .bool r] w (AP B nr nw cr cw I T w p x (C.act m ⟨y.c, y.s, K.cyc 23⟩ 23 d s n v)) := by
  obtain ⟨_, _, _, _, _, c13, c14, _, _, _⟩ := hP.cells
  have hlt := hP.lt
  have HP := hid hP
  have HR := hid R
  have HF := hid hF
  have hi := acts_at23
  rw [hw] at c14
  clear hP R hF hw
  cases r
  · skip
    go_enter Tryz.func40, Tryz.ntmps40
    go_wp2_with (first
      | (go_at_call 56; refine HF.out.mono ?_; rintro e w1 ⟨rfl, hP1, hm1⟩; have hl1 := hP1.lt; have f1 := hP1.frozen 17; obtain ⟨_, _, _, _, _, _, _, _, _, e17⟩ := hP1.cells; have HY1 := hid hP1; clear hP1)
      | (go_at_call 57; refine (cycles_yes 23 (by decide) (by decide) _ (HR.out.shapes (HY1.out.box HR.out _).inv)).mono ?_; rintro e w2 ⟨rfl, hb2⟩; obtain ⟨k2, g2⟩ := bcell hb2; have hP2 := (HY1.out.box HR.out _).kept HR.out hb2; have hl2 := hP2.lt; have f2 := hP2.frozen 17; obtain ⟨_, _, _, _, _, _, _, _, _, h17⟩ := hP2.cells; have z2 : w1.heap.size < w2.heap.size := by have := hb2.size; simp at this; omega
         have o0 : Hid (∀ u, p ≠ w1.heap.size → (w2.setCell ⟨p, 17, none⟩ u).cell? ⟨w1.heap.size, 0, none⟩ = some (.int .i64 23)) := fun u h => (World.cell?_setCell_other _ _ _ _ (by simp)).trans ((k2 _ 0 (by simp)).trans (cell_new _ _ _ _ rfl))
         have o1 : Hid (∀ u, p ≠ w1.heap.size → (w2.setCell ⟨p, 17, none⟩ u).cell? ⟨w1.heap.size, 1, none⟩ = some (.int .i64 d)) := fun u h => (World.cell?_setCell_other _ _ _ _ (by simp)).trans ((k2 _ 1 (by simp)).trans (cell_new _ _ _ _ rfl))
         have o2 : Hid (∀ u, p ≠ w1.heap.size → (w2.setCell ⟨p, 17, none⟩ u).cell? ⟨w1.heap.size, 2, none⟩ = some (.int .i64 s)) := fun u h => (World.cell?_setCell_other _ _ _ _ (by simp)).trans ((k2 _ 2 (by simp)).trans (cell_new _ _ _ _ rfl))
         have o3 : Hid (∀ u, p ≠ w1.heap.size → (w2.setCell ⟨p, 17, none⟩ u).cell? ⟨w1.heap.size, 3, none⟩ = some (.int .i64 n)) := fun u h => (World.cell?_setCell_other _ _ _ _ (by simp)).trans ((k2 _ 3 (by simp)).trans (cell_new _ _ _ _ rfl))
         have o4 : Hid (∀ u, p ≠ w1.heap.size → (w2.setCell ⟨p, 17, none⟩ u).cell? ⟨w1.heap.size, 4, none⟩ = some (.int .i64 v)) := fun u h => (World.cell?_setCell_other _ _ _ _ (by simp)).trans ((k2 _ 4 (by simp)).trans (cell_new _ _ _ _ rfl))
         have HY2 := hid (hP2.putCyc HR.out (K.cyc 23)); have hne : p ≠ w1.heap.size := by omega
         clear hP2))
    refine cutW (fun W => PI B nr nw cr cw I T W p ⟨y.c, y.s, K.cyc 23⟩ ∧ PM B T p x.s y.s w W ∧ w1.heap.size < W.heap.size ∧ W.cell? ⟨w1.heap.size, 0, none⟩ = some (.int .i64 23) ∧ W.cell? ⟨w1.heap.size, 1, none⟩ = some (.int .i64 d) ∧ W.cell? ⟨w1.heap.size, 2, none⟩ = some (.int .i64 s) ∧ W.cell? ⟨w1.heap.size, 3, none⟩ = some (.int .i64 n) ∧ W.cell? ⟨w1.heap.size, 4, none⟩ = some (.int .i64 v)) ⟨HY2.out, ((hm1.alloc (HP.out.hB HR.out) _).kept ((HY1.out.box HR.out _).hB HR.out) hb2).set HP.out.big 17 _, by rw [setCell_size]; exact z2, o0.out _ hne, o1.out _ hne, o2.out _ hne, o3.out _ hne, o4.out _ hne⟩ ?_
    clear e17 f1 f2 h17 k2 g2 hl2 hl1 z2 hb2 hm1 HY2 HY1 c13 c14 hne
    rintro W ⟨hW, hmW, hzW, q0, q1, q2, q3, q4⟩
    have HW := hid hW
    have HMW := hid hmW
    clear hW hmW
    go_region_held3 (fun w' => w'.cell? ⟨w1.heap.size, 0, none⟩ = some (.int .i64 23))
      ((go_keep; done))
      ((go_at_call 58; refine (acts_any _).mono ?_; rintro e w3 ⟨b12, b13, b16, b17, b18, b19, b29, rfl, hX, hb3⟩; obtain ⟨k3, g3⟩ := bcell hb3; have z3 := Nat.lt_of_lt_of_le hzW hb3.size; have r0 := (k3 _ 0 hzW).trans q0; have r1 := (k3 _ 1 hzW).trans q1; have r2 := (k3 _ 2 hzW).trans q2; have r3 := (k3 _ 3 hzW).trans q3; have r4 := (k3 _ 4 hzW).trans q4; clear hX k3 g3))
    go_wp2_with (go_at_call 98; refine (act_23 HR.out d s n v hd hs hv hv' _ p ⟨y.c, y.s, K.cyc 23⟩ ?_).mono ?_; (exact HW.out.kept HR.out (stp (st0 W).drew hb3)); rintro e w4 ⟨rfl, hP4, hm4⟩)
    go_end0
    exact ⟨rfl, hP4, (HMW.out.kept (HW.out.hB HR.out) (stp (st0 W).drew hb3)).trans hm4⟩
  · simp only [Bool.true_and] at hr
    rw [hr] at c13
    clear hr
    go_enter Tryz.func40, Tryz.ntmps40
    go_wp2_with (first
      | (go_at_call 56; refine HF.out.mono ?_; rintro e w1 ⟨rfl, hP1, hm1⟩; have hl1 := hP1.lt; have f1 := hP1.frozen 17; obtain ⟨_, _, _, _, _, _, _, _, _, e17⟩ := hP1.cells; have HY1 := hid hP1; clear hP1)
      | (go_at_call 57; refine (cycles_yes 23 (by decide) (by decide) _ (HR.out.shapes (HY1.out.box HR.out _).inv)).mono ?_; rintro e w2 ⟨rfl, hb2⟩; obtain ⟨k2, g2⟩ := bcell hb2; have hP2 := (HY1.out.box HR.out _).kept HR.out hb2; have hl2 := hP2.lt; have f2 := hP2.frozen 17; obtain ⟨_, _, _, _, _, _, _, _, _, h17⟩ := hP2.cells; have z2 : w1.heap.size < w2.heap.size := by have := hb2.size; simp at this; omega
         have o0 : Hid (∀ u, p ≠ w1.heap.size → (w2.setCell ⟨p, 17, none⟩ u).cell? ⟨w1.heap.size, 0, none⟩ = some (.int .i64 23)) := fun u h => (World.cell?_setCell_other _ _ _ _ (by simp)).trans ((k2 _ 0 (by simp)).trans (cell_new _ _ _ _ rfl))
         have o1 : Hid (∀ u, p ≠ w1.heap.size → (w2.setCell ⟨p, 17, none⟩ u).cell? ⟨w1.heap.size, 1, none⟩ = some (.int .i64 d)) := fun u h => (World.cell?_setCell_other _ _ _ _ (by simp)).trans ((k2 _ 1 (by simp)).trans (cell_new _ _ _ _ rfl))
         have o2 : Hid (∀ u, p ≠ w1.heap.size → (w2.setCell ⟨p, 17, none⟩ u).cell? ⟨w1.heap.size, 2, none⟩ = some (.int .i64 s)) := fun u h => (World.cell?_setCell_other _ _ _ _ (by simp)).trans ((k2 _ 2 (by simp)).trans (cell_new _ _ _ _ rfl))
         have o3 : Hid (∀ u, p ≠ w1.heap.size → (w2.setCell ⟨p, 17, none⟩ u).cell? ⟨w1.heap.size, 3, none⟩ = some (.int .i64 n)) := fun u h => (World.cell?_setCell_other _ _ _ _ (by simp)).trans ((k2 _ 3 (by simp)).trans (cell_new _ _ _ _ rfl))
         have o4 : Hid (∀ u, p ≠ w1.heap.size → (w2.setCell ⟨p, 17, none⟩ u).cell? ⟨w1.heap.size, 4, none⟩ = some (.int .i64 v)) := fun u h => (World.cell?_setCell_other _ _ _ _ (by simp)).trans ((k2 _ 4 (by simp)).trans (cell_new _ _ _ _ rfl))
         have HY2 := hid (hP2.putCyc HR.out (K.cyc 23)); have hne : p ≠ w1.heap.size := by omega
         clear hP2))
    refine cutW (fun W => PI B nr nw cr cw I T W p ⟨y.c, y.s, K.cyc 23⟩ ∧ PM B T p x.s y.s w W ∧ w1.heap.size < W.heap.size ∧ W.cell? ⟨w1.heap.size, 0, none⟩ = some (.int .i64 23) ∧ W.cell? ⟨w1.heap.size, 1, none⟩ = some (.int .i64 d) ∧ W.cell? ⟨w1.heap.size, 2, none⟩ = some (.int .i64 s) ∧ W.cell? ⟨w1.heap.size, 3, none⟩ = some (.int .i64 n) ∧ W.cell? ⟨w1.heap.size, 4, none⟩ = some (.int .i64 v)) ⟨HY2.out, ((hm1.alloc (HP.out.hB HR.out) _).kept ((HY1.out.box HR.out _).hB HR.out) hb2).set HP.out.big 17 _, by rw [setCell_size]; exact z2, o0.out _ hne, o1.out _ hne, o2.out _ hne, o3.out _ hne, o4.out _ hne⟩ ?_
    clear e17 f1 f2 h17 k2 g2 hl2 hl1 z2 hb2 hm1 HY2 HY1 c13 c14 hne
    rintro W ⟨hW, hmW, hzW, q0, q1, q2, q3, q4⟩
    have HW := hid hW
    have HMW := hid hmW
    clear hW hmW
    go_region_held3 (fun w' => w'.cell? ⟨w1.heap.size, 0, none⟩ = some (.int .i64 23))
      ((go_keep; done))
      ((go_at_call 58; refine (acts_any _).mono ?_; rintro e w3 ⟨b12, b13, b16, b17, b18, b19, b29, rfl, hX, hb3⟩; obtain ⟨k3, g3⟩ := bcell hb3; have z3 := Nat.lt_of_lt_of_le hzW hb3.size; have r0 := (k3 _ 0 hzW).trans q0; have r1 := (k3 _ 1 hzW).trans q1; have r2 := (k3 _ 2 hzW).trans q2; have r3 := (k3 _ 3 hzW).trans q3; have r4 := (k3 _ 4 hzW).trans q4; clear hX k3 g3))
    go_wp2_with (go_at_call 98; refine (act_23 HR.out d s n v hd hs hv hv' _ p ⟨y.c, y.s, K.cyc 23⟩ ?_).mono ?_; (exact HW.out.kept HR.out (stp (st0 W).drew hb3)); rintro e w4 ⟨rfl, hP4, hm4⟩)
    go_end0
    exact ⟨rfl, hP4, (HMW.out.kept (HW.out.hB HR.out) (stp (st0 W).drew hb3)).trans hm4⟩
end
end Go.Proofs.YtombboeonffejaaGreatDoor
