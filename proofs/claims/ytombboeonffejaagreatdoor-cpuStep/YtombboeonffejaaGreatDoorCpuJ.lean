/-
  What the orders of package cpu do that jump.
-/
import Derived.Test.YtombboeonffejaaGreatDoorCpuH
namespace Go.Proofs.YtombboeonffejaaGreatDoor
open Go.ChangeShapes Go.WideShapes Go.ChangeAt Go.RowKit
set_option linter.unusedVariables false

section
variable {σ : Type} {m : C.Mem σ} {B nr nw : Nat} {cr cw : Array Value} {I : World → σ → Prop} {T : σ → Nat → Prop}
set_option maxRecDepth 100000 in
set_option maxHeartbeats 1600000 in
theorem jt_true (R : RS m B nr nw cr cw I T) (k d s : Nat) (n v : Int) (hv : 0 ≤ v) (hv' : v ≤ 65535) (b : Nat) (w : World) (p : Nat) (x : C.St σ) (hx0 : 0 ≤ x.n) (hx1 : x.n ≤ 100) (hP : PI B nr nw cr cw I T w p x) (hb : w.cell? ⟨b, 0, none⟩ = some (fv 90 #[])) (ht : (true) = true) :
    Calls Tryz.prog 121 #[.pointer (some ⟨p, 0, none⟩), ordV k d s n v, .pointer (some ⟨b, 0, none⟩)] w (AP B nr nw cr cw I T w p x (C.jump x v)) := by
  have hlt := hP.lt
  have hne : p ≠ w.heap.size := by omega
  have hlt1 : p < w.heap.size + 1 := by omega
  have hbl : b < w.heap.size := World.block_lt_of_cell? w _ hb
  have hbne : b ≠ w.heap.size := by omega
  have hbl1 : b < w.heap.size + 1 := by omega
  have hw : IntKind.u16.wrap v = v := by rw [u16w]; omega
  have HP := hid hP
  have HR := hid R
  obtain ⟨c8, c9, c10, c11, c12, c13, c14, c15, c16, c17⟩ := hP.cells
  obtain ⟨c0, c1, c2, c3, c4, c5, c6, c7⟩ := hP.regs
  have HC : Hid (∀ W : World, Calls Tryz.prog 90 #[cpuV x.c] W fun e w' => e = .returned (.bool true) ∧ Below W.heap.size W w') := fun W => (jt_pred x.c W).mono fun _ _ hh => ⟨hh.1.trans (ret_b ht), hh.2⟩
  clear hP R ht
  go_enter Tryz.func121, Tryz.ntmps121
  go_wp2
  go_region_held3 (fun w' => w'.cell? ⟨b, 0, none⟩ = some (fv 90 #[]) ∧ w'.cell? ⟨p, 0, none⟩ = some (.int .u16 (x.c.r 0)) ∧ w'.cell? ⟨p, 1, none⟩ = some (.int .u16 (x.c.r 1)) ∧ w'.cell? ⟨p, 2, none⟩ = some (.int .u16 (x.c.r 2)) ∧ w'.cell? ⟨p, 3, none⟩ = some (.int .u16 (x.c.r 3)) ∧ w'.cell? ⟨p, 4, none⟩ = some (.int .u16 (x.c.r 4)) ∧ w'.cell? ⟨p, 5, none⟩ = some (.int .u16 (x.c.r 5)) ∧ w'.cell? ⟨p, 6, none⟩ = some (.int .u16 (x.c.r 6)) ∧ w'.cell? ⟨p, 7, none⟩ = some (.int .u16 (x.c.r 7)) ∧ w'.cell? ⟨p, 8, none⟩ = some (.int .u16 x.c.PC) ∧ w'.cell? ⟨p, 9, none⟩ = some (.bool x.c.Z) ∧ w'.cell? ⟨p, 10, none⟩ = some (.bool x.c.N) ∧ w'.cell? ⟨p, 11, none⟩ = some (.bool x.c.C) ∧ w'.cell? ⟨p, 12, none⟩ = some (.bool x.c.V) ∧ w'.cell? ⟨p, 13, none⟩ = some (.bool x.c.May) ∧ w'.cell? ⟨p, 14, none⟩ = some (.bool x.c.Waits))
    ((go_keep; done))
    ((go_at_call 90; refine (HC.out _).mono ?_; rintro e w2 ⟨rfl, hb2⟩; obtain ⟨k2, f2⟩ := bcell hb2))
  have hbw := stp (stA (st0 w) (.cells #[.int .i64 k, .int .i64 d, .int .i64 s, .int .i64 n, .int .i64 v] 64)).drew hb2
  have hP1 := HP.out.kept HR.out hbw
  obtain ⟨e8, e9, e10, e11, e12, e13, e14, e15, e16, e17⟩ := hP1.cells
  have ef := hP1.frozen
  have el := hP1.lt
  have q4 : w2.cell? ⟨w.heap.size, 4, none⟩ = some (.int .i64 v) := (k2 _ 4 (by simp)).trans (by simp)
  have ql : w.heap.size < w2.heap.size := by have := hb2.size; simp at this; omega
  have HP1 := hid hP1
  have HBW := hid hbw
  clear hP1 hbw k2 f2
  go_wp2
  go_end0
  exact ⟨rfl, (HP1.out.putPC HR.out v hv hv').putCyc HR.out _, (((PM.refl B T p x.s w).kept (HP.out.hB HR.out) HBW.out).set HP.out.big 8 _).set HP.out.big 17 _⟩
set_option maxRecDepth 100000 in
set_option maxHeartbeats 1600000 in
theorem jz_true (R : RS m B nr nw cr cw I T) (k d s : Nat) (n v : Int) (hv : 0 ≤ v) (hv' : v ≤ 65535) (b : Nat) (w : World) (p : Nat) (x : C.St σ) (hx0 : 0 ≤ x.n) (hx1 : x.n ≤ 100) (hP : PI B nr nw cr cw I T w p x) (hb : w.cell? ⟨b, 0, none⟩ = some (fv 91 #[])) (ht : (x.c.Z) = true) :
    Calls Tryz.prog 121 #[.pointer (some ⟨p, 0, none⟩), ordV k d s n v, .pointer (some ⟨b, 0, none⟩)] w (AP B nr nw cr cw I T w p x (C.jump x v)) := by
  have hlt := hP.lt
  have hne : p ≠ w.heap.size := by omega
  have hlt1 : p < w.heap.size + 1 := by omega
  have hbl : b < w.heap.size := World.block_lt_of_cell? w _ hb
  have hbne : b ≠ w.heap.size := by omega
  have hbl1 : b < w.heap.size + 1 := by omega
  have hw : IntKind.u16.wrap v = v := by rw [u16w]; omega
  have HP := hid hP
  have HR := hid R
  obtain ⟨c8, c9, c10, c11, c12, c13, c14, c15, c16, c17⟩ := hP.cells
  obtain ⟨c0, c1, c2, c3, c4, c5, c6, c7⟩ := hP.regs
  have HC : Hid (∀ W : World, Calls Tryz.prog 91 #[cpuV x.c] W fun e w' => e = .returned (.bool true) ∧ Below W.heap.size W w') := fun W => (jz_pred x.c W).mono fun _ _ hh => ⟨hh.1.trans (ret_b ht), hh.2⟩
  clear hP R ht
  go_enter Tryz.func121, Tryz.ntmps121
  go_wp2
  go_region_held3 (fun w' => w'.cell? ⟨b, 0, none⟩ = some (fv 91 #[]) ∧ w'.cell? ⟨p, 0, none⟩ = some (.int .u16 (x.c.r 0)) ∧ w'.cell? ⟨p, 1, none⟩ = some (.int .u16 (x.c.r 1)) ∧ w'.cell? ⟨p, 2, none⟩ = some (.int .u16 (x.c.r 2)) ∧ w'.cell? ⟨p, 3, none⟩ = some (.int .u16 (x.c.r 3)) ∧ w'.cell? ⟨p, 4, none⟩ = some (.int .u16 (x.c.r 4)) ∧ w'.cell? ⟨p, 5, none⟩ = some (.int .u16 (x.c.r 5)) ∧ w'.cell? ⟨p, 6, none⟩ = some (.int .u16 (x.c.r 6)) ∧ w'.cell? ⟨p, 7, none⟩ = some (.int .u16 (x.c.r 7)) ∧ w'.cell? ⟨p, 8, none⟩ = some (.int .u16 x.c.PC) ∧ w'.cell? ⟨p, 9, none⟩ = some (.bool x.c.Z) ∧ w'.cell? ⟨p, 10, none⟩ = some (.bool x.c.N) ∧ w'.cell? ⟨p, 11, none⟩ = some (.bool x.c.C) ∧ w'.cell? ⟨p, 12, none⟩ = some (.bool x.c.V) ∧ w'.cell? ⟨p, 13, none⟩ = some (.bool x.c.May) ∧ w'.cell? ⟨p, 14, none⟩ = some (.bool x.c.Waits))
    ((go_keep; done))
    ((go_at_call 91; refine (HC.out _).mono ?_; rintro e w2 ⟨rfl, hb2⟩; obtain ⟨k2, f2⟩ := bcell hb2))
  have hbw := stp (stA (st0 w) (.cells #[.int .i64 k, .int .i64 d, .int .i64 s, .int .i64 n, .int .i64 v] 64)).drew hb2
  have hP1 := HP.out.kept HR.out hbw
  obtain ⟨e8, e9, e10, e11, e12, e13, e14, e15, e16, e17⟩ := hP1.cells
  have ef := hP1.frozen
  have el := hP1.lt
  have q4 : w2.cell? ⟨w.heap.size, 4, none⟩ = some (.int .i64 v) := (k2 _ 4 (by simp)).trans (by simp)
  have ql : w.heap.size < w2.heap.size := by have := hb2.size; simp at this; omega
  have HP1 := hid hP1
  have HBW := hid hbw
  clear hP1 hbw k2 f2
  go_wp2
  go_end0
  exact ⟨rfl, (HP1.out.putPC HR.out v hv hv').putCyc HR.out _, (((PM.refl B T p x.s w).kept (HP.out.hB HR.out) HBW.out).set HP.out.big 8 _).set HP.out.big 17 _⟩
set_option maxRecDepth 100000 in
set_option maxHeartbeats 1600000 in
theorem jz_false (R : RS m B nr nw cr cw I T) (k d s : Nat) (n v : Int) (hv : 0 ≤ v) (hv' : v ≤ 65535) (b : Nat) (w : World) (p : Nat) (x : C.St σ) (hx0 : 0 ≤ x.n) (hx1 : x.n ≤ 100) (hP : PI B nr nw cr cw I T w p x) (hb : w.cell? ⟨b, 0, none⟩ = some (fv 91 #[])) (ht : (x.c.Z) = false) :
    Calls Tryz.prog 121 #[.pointer (some ⟨p, 0, none⟩), ordV k d s n v, .pointer (some ⟨b, 0, none⟩)] w (AP B nr nw cr cw I T w p x (x)) := by
  have hlt := hP.lt
  have hne : p ≠ w.heap.size := by omega
  have hlt1 : p < w.heap.size + 1 := by omega
  have hbl : b < w.heap.size := World.block_lt_of_cell? w _ hb
  have hbne : b ≠ w.heap.size := by omega
  have hbl1 : b < w.heap.size + 1 := by omega
  have hw : IntKind.u16.wrap v = v := by rw [u16w]; omega
  have HP := hid hP
  have HR := hid R
  obtain ⟨c8, c9, c10, c11, c12, c13, c14, c15, c16, c17⟩ := hP.cells
  obtain ⟨c0, c1, c2, c3, c4, c5, c6, c7⟩ := hP.regs
  have HC : Hid (∀ W : World, Calls Tryz.prog 91 #[cpuV x.c] W fun e w' => e = .returned (.bool false) ∧ Below W.heap.size W w') := fun W => (jz_pred x.c W).mono fun _ _ hh => ⟨hh.1.trans (ret_b ht), hh.2⟩
  clear hP R ht
  go_enter Tryz.func121, Tryz.ntmps121
  go_wp2
  go_region_held3 (fun w' => w'.cell? ⟨b, 0, none⟩ = some (fv 91 #[]) ∧ w'.cell? ⟨p, 0, none⟩ = some (.int .u16 (x.c.r 0)) ∧ w'.cell? ⟨p, 1, none⟩ = some (.int .u16 (x.c.r 1)) ∧ w'.cell? ⟨p, 2, none⟩ = some (.int .u16 (x.c.r 2)) ∧ w'.cell? ⟨p, 3, none⟩ = some (.int .u16 (x.c.r 3)) ∧ w'.cell? ⟨p, 4, none⟩ = some (.int .u16 (x.c.r 4)) ∧ w'.cell? ⟨p, 5, none⟩ = some (.int .u16 (x.c.r 5)) ∧ w'.cell? ⟨p, 6, none⟩ = some (.int .u16 (x.c.r 6)) ∧ w'.cell? ⟨p, 7, none⟩ = some (.int .u16 (x.c.r 7)) ∧ w'.cell? ⟨p, 8, none⟩ = some (.int .u16 x.c.PC) ∧ w'.cell? ⟨p, 9, none⟩ = some (.bool x.c.Z) ∧ w'.cell? ⟨p, 10, none⟩ = some (.bool x.c.N) ∧ w'.cell? ⟨p, 11, none⟩ = some (.bool x.c.C) ∧ w'.cell? ⟨p, 12, none⟩ = some (.bool x.c.V) ∧ w'.cell? ⟨p, 13, none⟩ = some (.bool x.c.May) ∧ w'.cell? ⟨p, 14, none⟩ = some (.bool x.c.Waits))
    ((go_keep; done))
    ((go_at_call 91; refine (HC.out _).mono ?_; rintro e w2 ⟨rfl, hb2⟩; obtain ⟨k2, f2⟩ := bcell hb2))
  have hbw := stp (stA (st0 w) (.cells #[.int .i64 k, .int .i64 d, .int .i64 s, .int .i64 n, .int .i64 v] 64)).drew hb2
  have hP1 := HP.out.kept HR.out hbw
  obtain ⟨e8, e9, e10, e11, e12, e13, e14, e15, e16, e17⟩ := hP1.cells
  have ef := hP1.frozen
  have el := hP1.lt
  have q4 : w2.cell? ⟨w.heap.size, 4, none⟩ = some (.int .i64 v) := (k2 _ 4 (by simp)).trans (by simp)
  have ql : w.heap.size < w2.heap.size := by have := hb2.size; simp at this; omega
  have HP1 := hid hP1
  have HBW := hid hbw
  clear hP1 hbw k2 f2
  go_wp2
  go_end0
  exact ⟨rfl, HP1.out, (PM.refl B T p x.s w).kept (HP.out.hB HR.out) HBW.out⟩
set_option maxRecDepth 100000 in
set_option maxHeartbeats 1600000 in
theorem jn_true (R : RS m B nr nw cr cw I T) (k d s : Nat) (n v : Int) (hv : 0 ≤ v) (hv' : v ≤ 65535) (b : Nat) (w : World) (p : Nat) (x : C.St σ) (hx0 : 0 ≤ x.n) (hx1 : x.n ≤ 100) (hP : PI B nr nw cr cw I T w p x) (hb : w.cell? ⟨b, 0, none⟩ = some (fv 92 #[])) (ht : (x.c.N) = true) :
    Calls Tryz.prog 121 #[.pointer (some ⟨p, 0, none⟩), ordV k d s n v, .pointer (some ⟨b, 0, none⟩)] w (AP B nr nw cr cw I T w p x (C.jump x v)) := by
  have hlt := hP.lt
  have hne : p ≠ w.heap.size := by omega
  have hlt1 : p < w.heap.size + 1 := by omega
  have hbl : b < w.heap.size := World.block_lt_of_cell? w _ hb
  have hbne : b ≠ w.heap.size := by omega
  have hbl1 : b < w.heap.size + 1 := by omega
  have hw : IntKind.u16.wrap v = v := by rw [u16w]; omega
  have HP := hid hP
  have HR := hid R
  obtain ⟨c8, c9, c10, c11, c12, c13, c14, c15, c16, c17⟩ := hP.cells
  obtain ⟨c0, c1, c2, c3, c4, c5, c6, c7⟩ := hP.regs
  have HC : Hid (∀ W : World, Calls Tryz.prog 92 #[cpuV x.c] W fun e w' => e = .returned (.bool true) ∧ Below W.heap.size W w') := fun W => (jn_pred x.c W).mono fun _ _ hh => ⟨hh.1.trans (ret_b ht), hh.2⟩
  clear hP R ht
  go_enter Tryz.func121, Tryz.ntmps121
  go_wp2
  go_region_held3 (fun w' => w'.cell? ⟨b, 0, none⟩ = some (fv 92 #[]) ∧ w'.cell? ⟨p, 0, none⟩ = some (.int .u16 (x.c.r 0)) ∧ w'.cell? ⟨p, 1, none⟩ = some (.int .u16 (x.c.r 1)) ∧ w'.cell? ⟨p, 2, none⟩ = some (.int .u16 (x.c.r 2)) ∧ w'.cell? ⟨p, 3, none⟩ = some (.int .u16 (x.c.r 3)) ∧ w'.cell? ⟨p, 4, none⟩ = some (.int .u16 (x.c.r 4)) ∧ w'.cell? ⟨p, 5, none⟩ = some (.int .u16 (x.c.r 5)) ∧ w'.cell? ⟨p, 6, none⟩ = some (.int .u16 (x.c.r 6)) ∧ w'.cell? ⟨p, 7, none⟩ = some (.int .u16 (x.c.r 7)) ∧ w'.cell? ⟨p, 8, none⟩ = some (.int .u16 x.c.PC) ∧ w'.cell? ⟨p, 9, none⟩ = some (.bool x.c.Z) ∧ w'.cell? ⟨p, 10, none⟩ = some (.bool x.c.N) ∧ w'.cell? ⟨p, 11, none⟩ = some (.bool x.c.C) ∧ w'.cell? ⟨p, 12, none⟩ = some (.bool x.c.V) ∧ w'.cell? ⟨p, 13, none⟩ = some (.bool x.c.May) ∧ w'.cell? ⟨p, 14, none⟩ = some (.bool x.c.Waits))
    ((go_keep; done))
    ((go_at_call 92; refine (HC.out _).mono ?_; rintro e w2 ⟨rfl, hb2⟩; obtain ⟨k2, f2⟩ := bcell hb2))
  have hbw := stp (stA (st0 w) (.cells #[.int .i64 k, .int .i64 d, .int .i64 s, .int .i64 n, .int .i64 v] 64)).drew hb2
  have hP1 := HP.out.kept HR.out hbw
  obtain ⟨e8, e9, e10, e11, e12, e13, e14, e15, e16, e17⟩ := hP1.cells
  have ef := hP1.frozen
  have el := hP1.lt
  have q4 : w2.cell? ⟨w.heap.size, 4, none⟩ = some (.int .i64 v) := (k2 _ 4 (by simp)).trans (by simp)
  have ql : w.heap.size < w2.heap.size := by have := hb2.size; simp at this; omega
  have HP1 := hid hP1
  have HBW := hid hbw
  clear hP1 hbw k2 f2
  go_wp2
  go_end0
  exact ⟨rfl, (HP1.out.putPC HR.out v hv hv').putCyc HR.out _, (((PM.refl B T p x.s w).kept (HP.out.hB HR.out) HBW.out).set HP.out.big 8 _).set HP.out.big 17 _⟩
set_option maxRecDepth 100000 in
set_option maxHeartbeats 1600000 in
theorem jn_false (R : RS m B nr nw cr cw I T) (k d s : Nat) (n v : Int) (hv : 0 ≤ v) (hv' : v ≤ 65535) (b : Nat) (w : World) (p : Nat) (x : C.St σ) (hx0 : 0 ≤ x.n) (hx1 : x.n ≤ 100) (hP : PI B nr nw cr cw I T w p x) (hb : w.cell? ⟨b, 0, none⟩ = some (fv 92 #[])) (ht : (x.c.N) = false) :
    Calls Tryz.prog 121 #[.pointer (some ⟨p, 0, none⟩), ordV k d s n v, .pointer (some ⟨b, 0, none⟩)] w (AP B nr nw cr cw I T w p x (x)) := by
  have hlt := hP.lt
  have hne : p ≠ w.heap.size := by omega
  have hlt1 : p < w.heap.size + 1 := by omega
  have hbl : b < w.heap.size := World.block_lt_of_cell? w _ hb
  have hbne : b ≠ w.heap.size := by omega
  have hbl1 : b < w.heap.size + 1 := by omega
  have hw : IntKind.u16.wrap v = v := by rw [u16w]; omega
  have HP := hid hP
  have HR := hid R
  obtain ⟨c8, c9, c10, c11, c12, c13, c14, c15, c16, c17⟩ := hP.cells
  obtain ⟨c0, c1, c2, c3, c4, c5, c6, c7⟩ := hP.regs
  have HC : Hid (∀ W : World, Calls Tryz.prog 92 #[cpuV x.c] W fun e w' => e = .returned (.bool false) ∧ Below W.heap.size W w') := fun W => (jn_pred x.c W).mono fun _ _ hh => ⟨hh.1.trans (ret_b ht), hh.2⟩
  clear hP R ht
  go_enter Tryz.func121, Tryz.ntmps121
  go_wp2
  go_region_held3 (fun w' => w'.cell? ⟨b, 0, none⟩ = some (fv 92 #[]) ∧ w'.cell? ⟨p, 0, none⟩ = some (.int .u16 (x.c.r 0)) ∧ w'.cell? ⟨p, 1, none⟩ = some (.int .u16 (x.c.r 1)) ∧ w'.cell? ⟨p, 2, none⟩ = some (.int .u16 (x.c.r 2)) ∧ w'.cell? ⟨p, 3, none⟩ = some (.int .u16 (x.c.r 3)) ∧ w'.cell? ⟨p, 4, none⟩ = some (.int .u16 (x.c.r 4)) ∧ w'.cell? ⟨p, 5, none⟩ = some (.int .u16 (x.c.r 5)) ∧ w'.cell? ⟨p, 6, none⟩ = some (.int .u16 (x.c.r 6)) ∧ w'.cell? ⟨p, 7, none⟩ = some (.int .u16 (x.c.r 7)) ∧ w'.cell? ⟨p, 8, none⟩ = some (.int .u16 x.c.PC) ∧ w'.cell? ⟨p, 9, none⟩ = some (.bool x.c.Z) ∧ w'.cell? ⟨p, 10, none⟩ = some (.bool x.c.N) ∧ w'.cell? ⟨p, 11, none⟩ = some (.bool x.c.C) ∧ w'.cell? ⟨p, 12, none⟩ = some (.bool x.c.V) ∧ w'.cell? ⟨p, 13, none⟩ = some (.bool x.c.May) ∧ w'.cell? ⟨p, 14, none⟩ = some (.bool x.c.Waits))
    ((go_keep; done))
    ((go_at_call 92; refine (HC.out _).mono ?_; rintro e w2 ⟨rfl, hb2⟩; obtain ⟨k2, f2⟩ := bcell hb2))
  have hbw := stp (stA (st0 w) (.cells #[.int .i64 k, .int .i64 d, .int .i64 s, .int .i64 n, .int .i64 v] 64)).drew hb2
  have hP1 := HP.out.kept HR.out hbw
  obtain ⟨e8, e9, e10, e11, e12, e13, e14, e15, e16, e17⟩ := hP1.cells
  have ef := hP1.frozen
  have el := hP1.lt
  have q4 : w2.cell? ⟨w.heap.size, 4, none⟩ = some (.int .i64 v) := (k2 _ 4 (by simp)).trans (by simp)
  have ql : w.heap.size < w2.heap.size := by have := hb2.size; simp at this; omega
  have HP1 := hid hP1
  have HBW := hid hbw
  clear hP1 hbw k2 f2
  go_wp2
  go_end0
  exact ⟨rfl, HP1.out, (PM.refl B T p x.s w).kept (HP.out.hB HR.out) HBW.out⟩
set_option maxRecDepth 100000 in
set_option maxHeartbeats 1600000 in
theorem jc_true (R : RS m B nr nw cr cw I T) (k d s : Nat) (n v : Int) (hv : 0 ≤ v) (hv' : v ≤ 65535) (b : Nat) (w : World) (p : Nat) (x : C.St σ) (hx0 : 0 ≤ x.n) (hx1 : x.n ≤ 100) (hP : PI B nr nw cr cw I T w p x) (hb : w.cell? ⟨b, 0, none⟩ = some (fv 93 #[])) (ht : (x.c.C) = true) :
    Calls Tryz.prog 121 #[.pointer (some ⟨p, 0, none⟩), ordV k d s n v, .pointer (some ⟨b, 0, none⟩)] w (AP B nr nw cr cw I T w p x (C.jump x v)) := by
  have hlt := hP.lt
  have hne : p ≠ w.heap.size := by omega
  have hlt1 : p < w.heap.size + 1 := by omega
  have hbl : b < w.heap.size := World.block_lt_of_cell? w _ hb
  have hbne : b ≠ w.heap.size := by omega
  have hbl1 : b < w.heap.size + 1 := by omega
  have hw : IntKind.u16.wrap v = v := by rw [u16w]; omega
  have HP := hid hP
  have HR := hid R
  obtain ⟨c8, c9, c10, c11, c12, c13, c14, c15, c16, c17⟩ := hP.cells
  obtain ⟨c0, c1, c2, c3, c4, c5, c6, c7⟩ := hP.regs
  have HC : Hid (∀ W : World, Calls Tryz.prog 93 #[cpuV x.c] W fun e w' => e = .returned (.bool true) ∧ Below W.heap.size W w') := fun W => (jc_pred x.c W).mono fun _ _ hh => ⟨hh.1.trans (ret_b ht), hh.2⟩
  clear hP R ht
  go_enter Tryz.func121, Tryz.ntmps121
  go_wp2
  go_region_held3 (fun w' => w'.cell? ⟨b, 0, none⟩ = some (fv 93 #[]) ∧ w'.cell? ⟨p, 0, none⟩ = some (.int .u16 (x.c.r 0)) ∧ w'.cell? ⟨p, 1, none⟩ = some (.int .u16 (x.c.r 1)) ∧ w'.cell? ⟨p, 2, none⟩ = some (.int .u16 (x.c.r 2)) ∧ w'.cell? ⟨p, 3, none⟩ = some (.int .u16 (x.c.r 3)) ∧ w'.cell? ⟨p, 4, none⟩ = some (.int .u16 (x.c.r 4)) ∧ w'.cell? ⟨p, 5, none⟩ = some (.int .u16 (x.c.r 5)) ∧ w'.cell? ⟨p, 6, none⟩ = some (.int .u16 (x.c.r 6)) ∧ w'.cell? ⟨p, 7, none⟩ = some (.int .u16 (x.c.r 7)) ∧ w'.cell? ⟨p, 8, none⟩ = some (.int .u16 x.c.PC) ∧ w'.cell? ⟨p, 9, none⟩ = some (.bool x.c.Z) ∧ w'.cell? ⟨p, 10, none⟩ = some (.bool x.c.N) ∧ w'.cell? ⟨p, 11, none⟩ = some (.bool x.c.C) ∧ w'.cell? ⟨p, 12, none⟩ = some (.bool x.c.V) ∧ w'.cell? ⟨p, 13, none⟩ = some (.bool x.c.May) ∧ w'.cell? ⟨p, 14, none⟩ = some (.bool x.c.Waits))
    ((go_keep; done))
    ((go_at_call 93; refine (HC.out _).mono ?_; rintro e w2 ⟨rfl, hb2⟩; obtain ⟨k2, f2⟩ := bcell hb2))
  have hbw := stp (stA (st0 w) (.cells #[.int .i64 k, .int .i64 d, .int .i64 s, .int .i64 n, .int .i64 v] 64)).drew hb2
  have hP1 := HP.out.kept HR.out hbw
  obtain ⟨e8, e9, e10, e11, e12, e13, e14, e15, e16, e17⟩ := hP1.cells
  have ef := hP1.frozen
  have el := hP1.lt
  have q4 : w2.cell? ⟨w.heap.size, 4, none⟩ = some (.int .i64 v) := (k2 _ 4 (by simp)).trans (by simp)
  have ql : w.heap.size < w2.heap.size := by have := hb2.size; simp at this; omega
  have HP1 := hid hP1
  have HBW := hid hbw
  clear hP1 hbw k2 f2
  go_wp2
  go_end0
  exact ⟨rfl, (HP1.out.putPC HR.out v hv hv').putCyc HR.out _, (((PM.refl B T p x.s w).kept (HP.out.hB HR.out) HBW.out).set HP.out.big 8 _).set HP.out.big 17 _⟩
set_option maxRecDepth 100000 in
set_option maxHeartbeats 1600000 in
theorem jc_false (R : RS m B nr nw cr cw I T) (k d s : Nat) (n v : Int) (hv : 0 ≤ v) (hv' : v ≤ 65535) (b : Nat) (w : World) (p : Nat) (x : C.St σ) (hx0 : 0 ≤ x.n) (hx1 : x.n ≤ 100) (hP : PI B nr nw cr cw I T w p x) (hb : w.cell? ⟨b, 0, none⟩ = some (fv 93 #[])) (ht : (x.c.C) = false) :
    Calls Tryz.prog 121 #[.pointer (some ⟨p, 0, none⟩), ordV k d s n v, .pointer (some ⟨b, 0, none⟩)] w (AP B nr nw cr cw I T w p x (x)) := by
  have hlt := hP.lt
  have hne : p ≠ w.heap.size := by omega
  have hlt1 : p < w.heap.size + 1 := by omega
  have hbl : b < w.heap.size := World.block_lt_of_cell? w _ hb
  have hbne : b ≠ w.heap.size := by omega
  have hbl1 : b < w.heap.size + 1 := by omega
  have hw : IntKind.u16.wrap v = v := by rw [u16w]; omega
  have HP := hid hP
  have HR := hid R
  obtain ⟨c8, c9, c10, c11, c12, c13, c14, c15, c16, c17⟩ := hP.cells
  obtain ⟨c0, c1, c2, c3, c4, c5, c6, c7⟩ := hP.regs
  have HC : Hid (∀ W : World, Calls Tryz.prog 93 #[cpuV x.c] W fun e w' => e = .returned (.bool false) ∧ Below W.heap.size W w') := fun W => (jc_pred x.c W).mono fun _ _ hh => ⟨hh.1.trans (ret_b ht), hh.2⟩
  clear hP R ht
  go_enter Tryz.func121, Tryz.ntmps121
  go_wp2
  go_region_held3 (fun w' => w'.cell? ⟨b, 0, none⟩ = some (fv 93 #[]) ∧ w'.cell? ⟨p, 0, none⟩ = some (.int .u16 (x.c.r 0)) ∧ w'.cell? ⟨p, 1, none⟩ = some (.int .u16 (x.c.r 1)) ∧ w'.cell? ⟨p, 2, none⟩ = some (.int .u16 (x.c.r 2)) ∧ w'.cell? ⟨p, 3, none⟩ = some (.int .u16 (x.c.r 3)) ∧ w'.cell? ⟨p, 4, none⟩ = some (.int .u16 (x.c.r 4)) ∧ w'.cell? ⟨p, 5, none⟩ = some (.int .u16 (x.c.r 5)) ∧ w'.cell? ⟨p, 6, none⟩ = some (.int .u16 (x.c.r 6)) ∧ w'.cell? ⟨p, 7, none⟩ = some (.int .u16 (x.c.r 7)) ∧ w'.cell? ⟨p, 8, none⟩ = some (.int .u16 x.c.PC) ∧ w'.cell? ⟨p, 9, none⟩ = some (.bool x.c.Z) ∧ w'.cell? ⟨p, 10, none⟩ = some (.bool x.c.N) ∧ w'.cell? ⟨p, 11, none⟩ = some (.bool x.c.C) ∧ w'.cell? ⟨p, 12, none⟩ = some (.bool x.c.V) ∧ w'.cell? ⟨p, 13, none⟩ = some (.bool x.c.May) ∧ w'.cell? ⟨p, 14, none⟩ = some (.bool x.c.Waits))
    ((go_keep; done))
    ((go_at_call 93; refine (HC.out _).mono ?_; rintro e w2 ⟨rfl, hb2⟩; obtain ⟨k2, f2⟩ := bcell hb2))
  have hbw := stp (stA (st0 w) (.cells #[.int .i64 k, .int .i64 d, .int .i64 s, .int .i64 n, .int .i64 v] 64)).drew hb2
  have hP1 := HP.out.kept HR.out hbw
  obtain ⟨e8, e9, e10, e11, e12, e13, e14, e15, e16, e17⟩ := hP1.cells
  have ef := hP1.frozen
  have el := hP1.lt
  have q4 : w2.cell? ⟨w.heap.size, 4, none⟩ = some (.int .i64 v) := (k2 _ 4 (by simp)).trans (by simp)
  have ql : w.heap.size < w2.heap.size := by have := hb2.size; simp at this; omega
  have HP1 := hid hP1
  have HBW := hid hbw
  clear hP1 hbw k2 f2
  go_wp2
  go_end0
  exact ⟨rfl, HP1.out, (PM.refl B T p x.s w).kept (HP.out.hB HR.out) HBW.out⟩
set_option maxRecDepth 100000 in
set_option maxHeartbeats 1600000 in
theorem jnz_true (R : RS m B nr nw cr cw I T) (k d s : Nat) (n v : Int) (hv : 0 ≤ v) (hv' : v ≤ 65535) (b : Nat) (w : World) (p : Nat) (x : C.St σ) (hx0 : 0 ≤ x.n) (hx1 : x.n ≤ 100) (hP : PI B nr nw cr cw I T w p x) (hb : w.cell? ⟨b, 0, none⟩ = some (fv 104 #[])) (ht : (!x.c.Z) = true) :
    Calls Tryz.prog 121 #[.pointer (some ⟨p, 0, none⟩), ordV k d s n v, .pointer (some ⟨b, 0, none⟩)] w (AP B nr nw cr cw I T w p x (C.jump x v)) := by
  have hlt := hP.lt
  have hne : p ≠ w.heap.size := by omega
  have hlt1 : p < w.heap.size + 1 := by omega
  have hbl : b < w.heap.size := World.block_lt_of_cell? w _ hb
  have hbne : b ≠ w.heap.size := by omega
  have hbl1 : b < w.heap.size + 1 := by omega
  have hw : IntKind.u16.wrap v = v := by rw [u16w]; omega
  have HP := hid hP
  have HR := hid R
  obtain ⟨c8, c9, c10, c11, c12, c13, c14, c15, c16, c17⟩ := hP.cells
  obtain ⟨c0, c1, c2, c3, c4, c5, c6, c7⟩ := hP.regs
  have HC : Hid (∀ W : World, Calls Tryz.prog 104 #[cpuV x.c] W fun e w' => e = .returned (.bool true) ∧ Below W.heap.size W w') := fun W => (jnz_pred x.c W).mono fun _ _ hh => ⟨hh.1.trans (ret_b ht), hh.2⟩
  clear hP R ht
  go_enter Tryz.func121, Tryz.ntmps121
  go_wp2
  go_region_held3 (fun w' => w'.cell? ⟨b, 0, none⟩ = some (fv 104 #[]) ∧ w'.cell? ⟨p, 0, none⟩ = some (.int .u16 (x.c.r 0)) ∧ w'.cell? ⟨p, 1, none⟩ = some (.int .u16 (x.c.r 1)) ∧ w'.cell? ⟨p, 2, none⟩ = some (.int .u16 (x.c.r 2)) ∧ w'.cell? ⟨p, 3, none⟩ = some (.int .u16 (x.c.r 3)) ∧ w'.cell? ⟨p, 4, none⟩ = some (.int .u16 (x.c.r 4)) ∧ w'.cell? ⟨p, 5, none⟩ = some (.int .u16 (x.c.r 5)) ∧ w'.cell? ⟨p, 6, none⟩ = some (.int .u16 (x.c.r 6)) ∧ w'.cell? ⟨p, 7, none⟩ = some (.int .u16 (x.c.r 7)) ∧ w'.cell? ⟨p, 8, none⟩ = some (.int .u16 x.c.PC) ∧ w'.cell? ⟨p, 9, none⟩ = some (.bool x.c.Z) ∧ w'.cell? ⟨p, 10, none⟩ = some (.bool x.c.N) ∧ w'.cell? ⟨p, 11, none⟩ = some (.bool x.c.C) ∧ w'.cell? ⟨p, 12, none⟩ = some (.bool x.c.V) ∧ w'.cell? ⟨p, 13, none⟩ = some (.bool x.c.May) ∧ w'.cell? ⟨p, 14, none⟩ = some (.bool x.c.Waits))
    ((go_keep; done))
    ((go_at_call 104; refine (HC.out _).mono ?_; rintro e w2 ⟨rfl, hb2⟩; obtain ⟨k2, f2⟩ := bcell hb2))
  have hbw := stp (stA (st0 w) (.cells #[.int .i64 k, .int .i64 d, .int .i64 s, .int .i64 n, .int .i64 v] 64)).drew hb2
  have hP1 := HP.out.kept HR.out hbw
  obtain ⟨e8, e9, e10, e11, e12, e13, e14, e15, e16, e17⟩ := hP1.cells
  have ef := hP1.frozen
  have el := hP1.lt
  have q4 : w2.cell? ⟨w.heap.size, 4, none⟩ = some (.int .i64 v) := (k2 _ 4 (by simp)).trans (by simp)
  have ql : w.heap.size < w2.heap.size := by have := hb2.size; simp at this; omega
  have HP1 := hid hP1
  have HBW := hid hbw
  clear hP1 hbw k2 f2
  go_wp2
  go_end0
  exact ⟨rfl, (HP1.out.putPC HR.out v hv hv').putCyc HR.out _, (((PM.refl B T p x.s w).kept (HP.out.hB HR.out) HBW.out).set HP.out.big 8 _).set HP.out.big 17 _⟩
set_option maxRecDepth 100000 in
set_option maxHeartbeats 1600000 in
theorem jnz_false (R : RS m B nr nw cr cw I T) (k d s : Nat) (n v : Int) (hv : 0 ≤ v) (hv' : v ≤ 65535) (b : Nat) (w : World) (p : Nat) (x : C.St σ) (hx0 : 0 ≤ x.n) (hx1 : x.n ≤ 100) (hP : PI B nr nw cr cw I T w p x) (hb : w.cell? ⟨b, 0, none⟩ = some (fv 104 #[])) (ht : (!x.c.Z) = false) :
    Calls Tryz.prog 121 #[.pointer (some ⟨p, 0, none⟩), ordV k d s n v, .pointer (some ⟨b, 0, none⟩)] w (AP B nr nw cr cw I T w p x (x)) := by
  have hlt := hP.lt
  have hne : p ≠ w.heap.size := by omega
  have hlt1 : p < w.heap.size + 1 := by omega
  have hbl : b < w.heap.size := World.block_lt_of_cell? w _ hb
  have hbne : b ≠ w.heap.size := by omega
  have hbl1 : b < w.heap.size + 1 := by omega
  have hw : IntKind.u16.wrap v = v := by rw [u16w]; omega
  have HP := hid hP
  have HR := hid R
  obtain ⟨c8, c9, c10, c11, c12, c13, c14, c15, c16, c17⟩ := hP.cells
  obtain ⟨c0, c1, c2, c3, c4, c5, c6, c7⟩ := hP.regs
  have HC : Hid (∀ W : World, Calls Tryz.prog 104 #[cpuV x.c] W fun e w' => e = .returned (.bool false) ∧ Below W.heap.size W w') := fun W => (jnz_pred x.c W).mono fun _ _ hh => ⟨hh.1.trans (ret_b ht), hh.2⟩
  clear hP R ht
  go_enter Tryz.func121, Tryz.ntmps121
  go_wp2
  go_region_held3 (fun w' => w'.cell? ⟨b, 0, none⟩ = some (fv 104 #[]) ∧ w'.cell? ⟨p, 0, none⟩ = some (.int .u16 (x.c.r 0)) ∧ w'.cell? ⟨p, 1, none⟩ = some (.int .u16 (x.c.r 1)) ∧ w'.cell? ⟨p, 2, none⟩ = some (.int .u16 (x.c.r 2)) ∧ w'.cell? ⟨p, 3, none⟩ = some (.int .u16 (x.c.r 3)) ∧ w'.cell? ⟨p, 4, none⟩ = some (.int .u16 (x.c.r 4)) ∧ w'.cell? ⟨p, 5, none⟩ = some (.int .u16 (x.c.r 5)) ∧ w'.cell? ⟨p, 6, none⟩ = some (.int .u16 (x.c.r 6)) ∧ w'.cell? ⟨p, 7, none⟩ = some (.int .u16 (x.c.r 7)) ∧ w'.cell? ⟨p, 8, none⟩ = some (.int .u16 x.c.PC) ∧ w'.cell? ⟨p, 9, none⟩ = some (.bool x.c.Z) ∧ w'.cell? ⟨p, 10, none⟩ = some (.bool x.c.N) ∧ w'.cell? ⟨p, 11, none⟩ = some (.bool x.c.C) ∧ w'.cell? ⟨p, 12, none⟩ = some (.bool x.c.V) ∧ w'.cell? ⟨p, 13, none⟩ = some (.bool x.c.May) ∧ w'.cell? ⟨p, 14, none⟩ = some (.bool x.c.Waits))
    ((go_keep; done))
    ((go_at_call 104; refine (HC.out _).mono ?_; rintro e w2 ⟨rfl, hb2⟩; obtain ⟨k2, f2⟩ := bcell hb2))
  have hbw := stp (stA (st0 w) (.cells #[.int .i64 k, .int .i64 d, .int .i64 s, .int .i64 n, .int .i64 v] 64)).drew hb2
  have hP1 := HP.out.kept HR.out hbw
  obtain ⟨e8, e9, e10, e11, e12, e13, e14, e15, e16, e17⟩ := hP1.cells
  have ef := hP1.frozen
  have el := hP1.lt
  have q4 : w2.cell? ⟨w.heap.size, 4, none⟩ = some (.int .i64 v) := (k2 _ 4 (by simp)).trans (by simp)
  have ql : w.heap.size < w2.heap.size := by have := hb2.size; simp at this; omega
  have HP1 := hid hP1
  have HBW := hid hbw
  clear hP1 hbw k2 f2
  go_wp2
  go_end0
  exact ⟨rfl, HP1.out, (PM.refl B T p x.s w).kept (HP.out.hB HR.out) HBW.out⟩
end
end Go.Proofs.YtombboeonffejaaGreatDoor
