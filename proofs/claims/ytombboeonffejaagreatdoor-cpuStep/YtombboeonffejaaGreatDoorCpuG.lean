/-
  What the orders of package cpu do that reckon, jump, push and pop.
-/
import Derived.Test.YtombboeonffejaaGreatDoorCpuF
namespace Go.Proofs.YtombboeonffejaaGreatDoor
open Go.ChangeShapes Go.WideShapes Go.ChangeAt Go.RowKit
set_option linter.unusedVariables false

section
variable {σ : Type} {m : C.Mem σ} {B nr nw : Nat} {cr cw : Array Value} {I : World → σ → Prop} {T : σ → Nat → Prop}
set_option maxRecDepth 100000 in
set_option maxHeartbeats 1600000 in
theorem act_both (R : RS m B nr nw cr cw I T) (k : Nat) (hk : isFl k) (d s : Nat) (n v : Int) (hd : d < 8) (hs : s < 8) (hn : -16 ≤ n ∧ n ≤ 15) (w : World) (p : Nat) (x : C.St σ) (hP : PI B nr nw cr cw I T w p x) :
    Calls Tryz.prog 82 #[.pointer (some ⟨p, 0, none⟩), ordV k d s n v] w (AP B nr nw cr cw I T w p x (C.both x k d s)) := by
  have hlt := hP.lt
  have hne : p ≠ w.heap.size := by omega
  have hlt1 : p < w.heap.size + 1 := by omega
  have hd0 : (0 : Int) ≤ d := by omega
  have hd8 : (d : Int) < 8 := by omega
  have hs0 : (0 : Int) ≤ s := by omega
  have hs8 : (s : Int) < 8 := by omega
  have cd := hP.reg d hd
  have cs := hP.reg s hs
  have rd := C.Cpu.r_bd hP.ok d
  have rs := C.Cpu.r_bd hP.ok s
  have HP := hid hP
  have HR := hid R
  have HB := hid (hP.box R (.cells #[.int .i64 ((k : Nat) : Int), .int .i64 d, .int .i64 s, .int .i64 n, .int .i64 v] 64))
  have HM := hid (PM.box R hP (.cells #[.int .i64 ((k : Nat) : Int), .int .i64 d, .int .i64 s, .int .i64 n, .int .i64 v] 64))
  have HS : Hid (∀ (W : World) (u : Value), (W.cell? ⟨w.heap.size, 0, none⟩ = some (.int .i64 k) ∧ W.cell? ⟨w.heap.size, 1, none⟩ = some (.int .i64 d) ∧ W.cell? ⟨w.heap.size, 2, none⟩ = some (.int .i64 s) ∧ W.cell? ⟨w.heap.size, 3, none⟩ = some (.int .i64 n) ∧ W.cell? ⟨w.heap.size, 4, none⟩ = some (.int .i64 v)) → ((W.setCell ⟨p, d, none⟩ u).cell? ⟨w.heap.size, 0, none⟩ = some (.int .i64 k) ∧ (W.setCell ⟨p, d, none⟩ u).cell? ⟨w.heap.size, 1, none⟩ = some (.int .i64 d) ∧ (W.setCell ⟨p, d, none⟩ u).cell? ⟨w.heap.size, 2, none⟩ = some (.int .i64 s) ∧ (W.setCell ⟨p, d, none⟩ u).cell? ⟨w.heap.size, 3, none⟩ = some (.int .i64 n) ∧ (W.setCell ⟨p, d, none⟩ u).cell? ⟨w.heap.size, 4, none⟩ = some (.int .i64 v))) := by
    rintro W u ⟨h1, h2, h3, h4, h5⟩
    exact ⟨(World.cell?_setCell_other _ _ _ _ (by simp <;> omega)).trans h1, (World.cell?_setCell_other _ _ _ _ (by simp <;> omega)).trans h2, (World.cell?_setCell_other _ _ _ _ (by simp <;> omega)).trans h3, (World.cell?_setCell_other _ _ _ _ (by simp <;> omega)).trans h4, (World.cell?_setCell_other _ _ _ _ (by simp <;> omega)).trans h5⟩
  clear hP R
  go_enter Tryz.func82, Tryz.ntmps82
  go_wp2
  go_region_with ((go_at_call 87; refine (reckon_any HR.out k d s n v (x.c.r s) hk hd rs.1 rs.2 _ p x ?_).mono ?_; (exact HB.out.same HR.out rfl); rintro e w2 ⟨rfl, hP2, hm2⟩; obtain ⟨hz2, hq2⟩ := HP.out.boxS HR.out hm2 rfl; have cs2 : w2.cell? ⟨p, s, none⟩ = some (.int .u16 (x.c.r s)) := hP2.reg s hs; have cd2 := hP2.reg d hd; have f2 := hP2.frozen d; have z2 := hP2.lt; have HRP := hid hP2; clear hP2))
  all_goals go_wp2
  all_goals go_end0
  all_goals exact ⟨rfl, ((HRP.out.putR HR.out d hd _ (flN_bd k hk _ _ rd.1 rd.2 rs.1 rs.2).1 (flN_bd k hk _ _ rd.1 rd.2 rs.1 rs.2).2)).same HR.out rfl, ((HM.out.drew.trans hm2).set HP.out.big d _)⟩
set_option maxRecDepth 100000 in
set_option maxHeartbeats 1600000 in
theorem act_14 (R : RS m B nr nw cr cw I T) (d s : Nat) (n v : Int) (hd : d < 8) (hs : s < 8) (hn : -16 ≤ n ∧ n ≤ 15) (w : World) (p : Nat) (x : C.St σ) (hP : PI B nr nw cr cw I T w p x) :
    Calls Tryz.prog 86 #[.pointer (some ⟨p, 0, none⟩), ordV 14 d s n v] w (AP B nr nw cr cw I T w p x (C.act m x 14 d s n v)) := by
  have hlt := hP.lt
  have hne : p ≠ w.heap.size := by omega
  have hlt1 : p < w.heap.size + 1 := by omega
  have hd0 : (0 : Int) ≤ d := by omega
  have hd8 : (d : Int) < 8 := by omega
  have hs0 : (0 : Int) ≤ s := by omega
  have hs8 : (s : Int) < 8 := by omega
  have cd := hP.reg d hd
  have cs := hP.reg s hs
  have rd := C.Cpu.r_bd hP.ok d
  have rs := C.Cpu.r_bd hP.ok s
  have HP := hid hP
  have HR := hid R
  have HB := hid (hP.box R (.cells #[.int .i64 ((14 : Nat) : Int), .int .i64 d, .int .i64 s, .int .i64 n, .int .i64 v] 64))
  have HM := hid (PM.box R hP (.cells #[.int .i64 ((14 : Nat) : Int), .int .i64 d, .int .i64 s, .int .i64 n, .int .i64 v] 64))
  have hk : isFl 14 := Or.inr (Or.inr (Or.inr (Or.inl rfl)))
  clear hP R
  go_enter Tryz.func86, Tryz.ntmps86
  go_wp2
  go_region_held3 (fun w' => w'.cell? ⟨w.heap.size, 0, none⟩ = some (.int .i64 14) ∧ w'.cell? ⟨w.heap.size, 1, none⟩ = some (.int .i64 d) ∧ w'.cell? ⟨w.heap.size, 2, none⟩ = some (.int .i64 s) ∧ w'.cell? ⟨w.heap.size, 3, none⟩ = some (.int .i64 n) ∧ w'.cell? ⟨w.heap.size, 4, none⟩ = some (.int .i64 v) ∧ w'.cell? ⟨p, s, none⟩ = some (.int .u16 (x.c.r s)))
    ((go_keep; done))
    ((go_at_call 87; refine (reckon_any HR.out 14 d s n v (x.c.r s) hk hd rs.1 rs.2 _ p x ?_).mono ?_; (exact HB.out.same HR.out rfl); rintro e w2 ⟨rfl, hP2, hm2⟩; obtain ⟨hz2, hq2⟩ := HP.out.boxS HR.out hm2 rfl; have cs2 : w2.cell? ⟨p, s, none⟩ = some (.int .u16 (x.c.r s)) := hP2.reg s hs; have cd2 := hP2.reg d hd; have f2 := hP2.frozen d; have z2 := hP2.lt; have HRP := hid hP2; clear hP2))
  go_wp2
  go_end0
  exact ⟨rfl, HRP.out.same HR.out rfl, HM.out.drew.trans hm2⟩
set_option maxRecDepth 100000 in
set_option maxHeartbeats 1600000 in
theorem act_15 (R : RS m B nr nw cr cw I T) (d s : Nat) (n v : Int) (hd : d < 8) (hs : s < 8) (hn : -16 ≤ n ∧ n ≤ 15) (w : World) (p : Nat) (x : C.St σ) (hP : PI B nr nw cr cw I T w p x) :
    Calls Tryz.prog 88 #[.pointer (some ⟨p, 0, none⟩), ordV 15 d s n v] w (AP B nr nw cr cw I T w p x (C.act m x 15 d s n v)) := by
  have hlt := hP.lt
  have hne : p ≠ w.heap.size := by omega
  have hlt1 : p < w.heap.size + 1 := by omega
  have hd0 : (0 : Int) ≤ d := by omega
  have hd8 : (d : Int) < 8 := by omega
  have hs0 : (0 : Int) ≤ s := by omega
  have hs8 : (s : Int) < 8 := by omega
  have cd := hP.reg d hd
  have cs := hP.reg s hs
  have rd := C.Cpu.r_bd hP.ok d
  have rs := C.Cpu.r_bd hP.ok s
  have HP := hid hP
  have HR := hid R
  have HB := hid (hP.box R (.cells #[.int .i64 ((15 : Nat) : Int), .int .i64 d, .int .i64 s, .int .i64 n, .int .i64 v] 64))
  have HM := hid (PM.box R hP (.cells #[.int .i64 ((15 : Nat) : Int), .int .i64 d, .int .i64 s, .int .i64 n, .int .i64 v] 64))
  have hk : isFl 15 := Or.inr (Or.inl rfl)
  have hw := u16w n
  have hnw : 0 ≤ n % 65536 ∧ n % 65536 ≤ 65535 := by omega
  have HS : Hid (∀ (W : World) (u : Value), (W.cell? ⟨w.heap.size, 0, none⟩ = some (.int .i64 15) ∧ W.cell? ⟨w.heap.size, 1, none⟩ = some (.int .i64 d) ∧ W.cell? ⟨w.heap.size, 2, none⟩ = some (.int .i64 s) ∧ W.cell? ⟨w.heap.size, 3, none⟩ = some (.int .i64 n) ∧ W.cell? ⟨w.heap.size, 4, none⟩ = some (.int .i64 v)) → ((W.setCell ⟨p, d, none⟩ u).cell? ⟨w.heap.size, 0, none⟩ = some (.int .i64 15) ∧ (W.setCell ⟨p, d, none⟩ u).cell? ⟨w.heap.size, 1, none⟩ = some (.int .i64 d) ∧ (W.setCell ⟨p, d, none⟩ u).cell? ⟨w.heap.size, 2, none⟩ = some (.int .i64 s) ∧ (W.setCell ⟨p, d, none⟩ u).cell? ⟨w.heap.size, 3, none⟩ = some (.int .i64 n) ∧ (W.setCell ⟨p, d, none⟩ u).cell? ⟨w.heap.size, 4, none⟩ = some (.int .i64 v))) := by
    rintro W u ⟨h1, h2, h3, h4, h5⟩
    exact ⟨(World.cell?_setCell_other _ _ _ _ (by simp <;> omega)).trans h1, (World.cell?_setCell_other _ _ _ _ (by simp <;> omega)).trans h2, (World.cell?_setCell_other _ _ _ _ (by simp <;> omega)).trans h3, (World.cell?_setCell_other _ _ _ _ (by simp <;> omega)).trans h4, (World.cell?_setCell_other _ _ _ _ (by simp <;> omega)).trans h5⟩
  clear hP R
  go_enter Tryz.func88, Tryz.ntmps88
  go_wp2
  go_region_held3 (fun w' => w'.cell? ⟨w.heap.size, 0, none⟩ = some (.int .i64 15) ∧ w'.cell? ⟨w.heap.size, 1, none⟩ = some (.int .i64 d) ∧ w'.cell? ⟨w.heap.size, 2, none⟩ = some (.int .i64 s) ∧ w'.cell? ⟨w.heap.size, 3, none⟩ = some (.int .i64 n) ∧ w'.cell? ⟨w.heap.size, 4, none⟩ = some (.int .i64 v))
    (first | (go_keep; done) | exact HS.out _ _ (by assumption))
    ((go_at_call 87; refine (reckon_any HR.out 15 d s n v (n % 65536) hk hd hnw.1 hnw.2 _ p x ?_).mono ?_; (exact HB.out.same HR.out rfl); rintro e w2 ⟨rfl, hP2, hm2⟩; obtain ⟨hz2, hq2⟩ := HP.out.boxS HR.out hm2 rfl; have cs2 : w2.cell? ⟨p, s, none⟩ = some (.int .u16 (x.c.r s)) := hP2.reg s hs; have cd2 := hP2.reg d hd; have f2 := hP2.frozen d; have z2 := hP2.lt; have HRP := hid hP2; clear hP2))
  go_wp2
  go_end0
  exact ⟨rfl, ((HRP.out.putR HR.out d hd _ (flN_bd 15 hk _ _ rd.1 rd.2 hnw.1 hnw.2).1 (flN_bd 15 hk _ _ rd.1 rd.2 hnw.1 hnw.2).2)).same HR.out rfl, ((HM.out.drew.trans hm2).set HP.out.big d _)⟩
set_option maxRecDepth 100000 in
set_option maxHeartbeats 1600000 in
theorem act_20 (R : RS m B nr nw cr cw I T) (d s : Nat) (n v : Int) (hd : d < 8) (hs : s < 8) (hv : 0 ≤ v) (hv' : v ≤ 65535) (w : World) (p : Nat) (x : C.St σ) (hP : PI B nr nw cr cw I T w p x) :
    Calls Tryz.prog 94 #[.pointer (some ⟨p, 0, none⟩), ordV 20 d s n v] w (AP B nr nw cr cw I T w p x (C.act m x 20 d s n v)) := by
  have hlt := hP.lt
  have hne : p ≠ w.heap.size := by omega
  have hlt1 : p < w.heap.size + 1 := by omega
  have hd0 : (0 : Int) ≤ d := by omega
  have hd8 : (d : Int) < 8 := by omega
  have hs0 : (0 : Int) ≤ s := by omega
  have hs8 : (s : Int) < 8 := by omega
  have cd := hP.reg d hd
  have cs := hP.reg s hs
  have rd := C.Cpu.r_bd hP.ok d
  have rs := C.Cpu.r_bd hP.ok s
  have HP := hid hP
  have HR := hid R
  have HB := hid (hP.box R (.cells #[.int .i64 ((20 : Nat) : Int), .int .i64 d, .int .i64 s, .int .i64 n, .int .i64 v] 64))
  have HM := hid (PM.box R hP (.cells #[.int .i64 ((20 : Nat) : Int), .int .i64 d, .int .i64 s, .int .i64 n, .int .i64 v] 64))
  obtain ⟨c8, _, _, _, _, _, _, c15, c16, _⟩ := hP.cells
  have hw : IntKind.u16.wrap v = v := by rw [u16w]; omega
  have HK := hid hP.ok
  clear hP R
  go_enter Tryz.func94, Tryz.ntmps94
  go_wp2_with (go_at_call 67; refine (push_any HR.out x.c.PC HK.out.2.2.1 HK.out.2.2.2 _ p x ?_).mono ?_; (exact HB.out); rintro e w2 ⟨rfl, hP2, hm2⟩; obtain ⟨hz2, hq2⟩ := HP.out.boxS HR.out hm2 rfl; have q4 := hq2 4; have f2 := hP2.frozen 8; have z2 := hP2.lt; obtain ⟨e8, _, _, _, _, _, _, _, _, _⟩ := hP2.cells; have HRP := hid hP2; clear hP2)
  go_end0
  exact ⟨rfl, HRP.out.putPC HR.out v hv hv', (HM.out.trans hm2).set HP.out.big 8 _⟩
set_option maxRecDepth 100000 in
set_option maxHeartbeats 1600000 in
theorem act_21 (R : RS m B nr nw cr cw I T) (d s : Nat) (n v : Int) (hd : d < 8) (hs : s < 8) (hv : 0 ≤ v) (hv' : v ≤ 65535) (w : World) (p : Nat) (x : C.St σ) (hP : PI B nr nw cr cw I T w p x) :
    Calls Tryz.prog 95 #[.pointer (some ⟨p, 0, none⟩), ordV 21 d s n v] w (AP B nr nw cr cw I T w p x (C.act m x 21 d s n v)) := by
  have hlt := hP.lt
  have hne : p ≠ w.heap.size := by omega
  have hlt1 : p < w.heap.size + 1 := by omega
  have hd0 : (0 : Int) ≤ d := by omega
  have hd8 : (d : Int) < 8 := by omega
  have hs0 : (0 : Int) ≤ s := by omega
  have hs8 : (s : Int) < 8 := by omega
  have cd := hP.reg d hd
  have cs := hP.reg s hs
  have rd := C.Cpu.r_bd hP.ok d
  have rs := C.Cpu.r_bd hP.ok s
  have HP := hid hP
  have HR := hid R
  have HB := hid (hP.box R (.cells #[.int .i64 ((21 : Nat) : Int), .int .i64 d, .int .i64 s, .int .i64 n, .int .i64 v] 64))
  have HM := hid (PM.box R hP (.cells #[.int .i64 ((21 : Nat) : Int), .int .i64 d, .int .i64 s, .int .i64 n, .int .i64 v] 64))
  clear hP R
  go_enter Tryz.func95, Tryz.ntmps95
  go_wp2_with (go_at_call 96; refine (pop_any HR.out _ p x ?_).mono ?_; (exact HB.out); rintro e w2 ⟨rfl, hP2, hm2⟩; have f2 := hP2.frozen 8; have z2 := hP2.lt; obtain ⟨e8, _, _, _, _, _, _, _, _, _⟩ := hP2.cells; have HRP := hid hP2; clear hP2)
  go_end0
  exact ⟨rfl, HRP.out.putPC HR.out _ (HR.out.word _ _).1 (HR.out.word _ _).2, (HM.out.trans hm2).set HP.out.big 8 _⟩
set_option maxRecDepth 100000 in
set_option maxHeartbeats 1600000 in
theorem act_22 (R : RS m B nr nw cr cw I T) (d s : Nat) (n v : Int) (hd : d < 8) (hs : s < 8) (hv : 0 ≤ v) (hv' : v ≤ 65535) (w : World) (p : Nat) (x : C.St σ) (hP : PI B nr nw cr cw I T w p x) :
    Calls Tryz.prog 97 #[.pointer (some ⟨p, 0, none⟩), ordV 22 d s n v] w (AP B nr nw cr cw I T w p x (C.act m x 22 d s n v)) := by
  have hlt := hP.lt
  have hne : p ≠ w.heap.size := by omega
  have hlt1 : p < w.heap.size + 1 := by omega
  have hd0 : (0 : Int) ≤ d := by omega
  have hd8 : (d : Int) < 8 := by omega
  have hs0 : (0 : Int) ≤ s := by omega
  have hs8 : (s : Int) < 8 := by omega
  have cd := hP.reg d hd
  have cs := hP.reg s hs
  have rd := C.Cpu.r_bd hP.ok d
  have rs := C.Cpu.r_bd hP.ok s
  have HP := hid hP
  have HR := hid R
  have HB := hid (hP.box R (.cells #[.int .i64 ((22 : Nat) : Int), .int .i64 d, .int .i64 s, .int .i64 n, .int .i64 v] 64))
  have HM := hid (PM.box R hP (.cells #[.int .i64 ((22 : Nat) : Int), .int .i64 d, .int .i64 s, .int .i64 n, .int .i64 v] 64))
  clear hP R
  go_enter Tryz.func97, Tryz.ntmps97
  go_wp2
  go_region_with ((go_at_call 67; refine (push_any HR.out (x.c.r s) rs.1 rs.2 _ p x ?_).mono ?_; (exact HB.out.same HR.out rfl); rintro e w2 ⟨rfl, hP2, hm2⟩; obtain ⟨hz2, hq2⟩ := HP.out.boxS HR.out hm2 rfl; have HRP := hid hP2; clear hP2))
  all_goals go_wp2
  all_goals go_end0
  all_goals exact ⟨rfl, HRP.out.same HR.out rfl, HM.out.drew.trans hm2⟩
set_option maxRecDepth 100000 in
set_option maxHeartbeats 1600000 in
theorem act_23 (R : RS m B nr nw cr cw I T) (d s : Nat) (n v : Int) (hd : d < 8) (hs : s < 8) (hv : 0 ≤ v) (hv' : v ≤ 65535) (w : World) (p : Nat) (x : C.St σ) (hP : PI B nr nw cr cw I T w p x) :
    Calls Tryz.prog 98 #[.pointer (some ⟨p, 0, none⟩), ordV 23 d s n v] w (AP B nr nw cr cw I T w p x (C.act m x 23 d s n v)) := by
  have hlt := hP.lt
  have hne : p ≠ w.heap.size := by omega
  have hlt1 : p < w.heap.size + 1 := by omega
  have hd0 : (0 : Int) ≤ d := by omega
  have hd8 : (d : Int) < 8 := by omega
  have hs0 : (0 : Int) ≤ s := by omega
  have hs8 : (s : Int) < 8 := by omega
  have cd := hP.reg d hd
  have cs := hP.reg s hs
  have rd := C.Cpu.r_bd hP.ok d
  have rs := C.Cpu.r_bd hP.ok s
  have HP := hid hP
  have HR := hid R
  have HB := hid (hP.box R (.cells #[.int .i64 ((23 : Nat) : Int), .int .i64 d, .int .i64 s, .int .i64 n, .int .i64 v] 64))
  have HM := hid (PM.box R hP (.cells #[.int .i64 ((23 : Nat) : Int), .int .i64 d, .int .i64 s, .int .i64 n, .int .i64 v] 64))
  clear hP R
  go_enter Tryz.func98, Tryz.ntmps98
  go_wp2_with (go_at_call 96; refine (pop_any HR.out _ p x ?_).mono ?_; (exact HB.out); rintro e w2 ⟨rfl, hP2, hm2⟩; obtain ⟨hz2, hq2⟩ := HP.out.boxS HR.out hm2 rfl; have q1 := hq2 1; have cd2 := hP2.reg d hd; have f2 := hP2.frozen d; have z2 := hP2.lt; have HRP := hid hP2; clear hP2)
  go_region
  go_wp2
  go_end0
  exact ⟨rfl, (HRP.out.putR HR.out d hd _ (HR.out.word _ _).1 (HR.out.word _ _).2).same HR.out rfl, ((HM.out.trans hm2).set HP.out.big d _).drew⟩
set_option maxRecDepth 100000 in
set_option maxHeartbeats 1600000 in
theorem act_24 (R : RS m B nr nw cr cw I T) (d s : Nat) (n v : Int) (hd : d < 8) (hs : s < 8) (hv : 0 ≤ v) (hv' : v ≤ 65535) (w : World) (p : Nat) (x : C.St σ) (hP : PI B nr nw cr cw I T w p x) :
    Calls Tryz.prog 99 #[.pointer (some ⟨p, 0, none⟩), ordV 24 d s n v] w (AP B nr nw cr cw I T w p x (C.act m x 24 d s n v)) := by
  have hlt := hP.lt
  have hne : p ≠ w.heap.size := by omega
  have hlt1 : p < w.heap.size + 1 := by omega
  have hd0 : (0 : Int) ≤ d := by omega
  have hd8 : (d : Int) < 8 := by omega
  have hs0 : (0 : Int) ≤ s := by omega
  have hs8 : (s : Int) < 8 := by omega
  have cd := hP.reg d hd
  have cs := hP.reg s hs
  have rd := C.Cpu.r_bd hP.ok d
  have rs := C.Cpu.r_bd hP.ok s
  have HP := hid hP
  have HR := hid R
  have HB := hid (hP.box R (.cells #[.int .i64 ((24 : Nat) : Int), .int .i64 d, .int .i64 s, .int .i64 n, .int .i64 v] 64))
  have HM := hid (PM.box R hP (.cells #[.int .i64 ((24 : Nat) : Int), .int .i64 d, .int .i64 s, .int .i64 n, .int .i64 v] 64))
  have hf := hP.frozen 13
  obtain ⟨_, _, _, _, _, c13, c14, _, _, _⟩ := hP.cells
  clear hP R
  go_enter Tryz.func99, Tryz.ntmps99
  go_wp2
  go_end0
  exact ⟨rfl, ((HP.out.putMay HR.out true).box HR.out _).same HR.out rfl, ((PM.refl B T p x.s w).set HP.out.big 13 _).alloc (HP.out.hB HR.out) _⟩
set_option maxRecDepth 100000 in
set_option maxHeartbeats 1600000 in
theorem act_25 (R : RS m B nr nw cr cw I T) (d s : Nat) (n v : Int) (hd : d < 8) (hs : s < 8) (hv : 0 ≤ v) (hv' : v ≤ 65535) (w : World) (p : Nat) (x : C.St σ) (hP : PI B nr nw cr cw I T w p x) :
    Calls Tryz.prog 100 #[.pointer (some ⟨p, 0, none⟩), ordV 25 d s n v] w (AP B nr nw cr cw I T w p x (C.act m x 25 d s n v)) := by
  have hlt := hP.lt
  have hne : p ≠ w.heap.size := by omega
  have hlt1 : p < w.heap.size + 1 := by omega
  have hd0 : (0 : Int) ≤ d := by omega
  have hd8 : (d : Int) < 8 := by omega
  have hs0 : (0 : Int) ≤ s := by omega
  have hs8 : (s : Int) < 8 := by omega
  have cd := hP.reg d hd
  have cs := hP.reg s hs
  have rd := C.Cpu.r_bd hP.ok d
  have rs := C.Cpu.r_bd hP.ok s
  have HP := hid hP
  have HR := hid R
  have HB := hid (hP.box R (.cells #[.int .i64 ((25 : Nat) : Int), .int .i64 d, .int .i64 s, .int .i64 n, .int .i64 v] 64))
  have HM := hid (PM.box R hP (.cells #[.int .i64 ((25 : Nat) : Int), .int .i64 d, .int .i64 s, .int .i64 n, .int .i64 v] 64))
  have hf := hP.frozen 13
  obtain ⟨_, _, _, _, _, c13, c14, _, _, _⟩ := hP.cells
  clear hP R
  go_enter Tryz.func100, Tryz.ntmps100
  go_wp2
  go_end0
  exact ⟨rfl, ((HP.out.putMay HR.out false).box HR.out _).same HR.out rfl, ((PM.refl B T p x.s w).set HP.out.big 13 _).alloc (HP.out.hB HR.out) _⟩
set_option maxRecDepth 100000 in
set_option maxHeartbeats 1600000 in
theorem act_27 (R : RS m B nr nw cr cw I T) (d s : Nat) (n v : Int) (hd : d < 8) (hs : s < 8) (hv : 0 ≤ v) (hv' : v ≤ 65535) (w : World) (p : Nat) (x : C.St σ) (hP : PI B nr nw cr cw I T w p x) :
    Calls Tryz.prog 103 #[.pointer (some ⟨p, 0, none⟩), ordV 27 d s n v] w (AP B nr nw cr cw I T w p x (C.act m x 27 d s n v)) := by
  have hlt := hP.lt
  have hne : p ≠ w.heap.size := by omega
  have hlt1 : p < w.heap.size + 1 := by omega
  have hd0 : (0 : Int) ≤ d := by omega
  have hd8 : (d : Int) < 8 := by omega
  have hs0 : (0 : Int) ≤ s := by omega
  have hs8 : (s : Int) < 8 := by omega
  have cd := hP.reg d hd
  have cs := hP.reg s hs
  have rd := C.Cpu.r_bd hP.ok d
  have rs := C.Cpu.r_bd hP.ok s
  have HP := hid hP
  have HR := hid R
  have HB := hid (hP.box R (.cells #[.int .i64 ((27 : Nat) : Int), .int .i64 d, .int .i64 s, .int .i64 n, .int .i64 v] 64))
  have HM := hid (PM.box R hP (.cells #[.int .i64 ((27 : Nat) : Int), .int .i64 d, .int .i64 s, .int .i64 n, .int .i64 v] 64))
  have hf := hP.frozen 14
  obtain ⟨_, _, _, _, _, c13, c14, _, _, _⟩ := hP.cells
  clear hP R
  go_enter Tryz.func103, Tryz.ntmps103
  go_wp2
  go_end0
  exact ⟨rfl, ((HP.out.putWaits HR.out true).box HR.out _).same HR.out rfl, ((PM.refl B T p x.s w).set HP.out.big 14 _).alloc (HP.out.hB HR.out) _⟩
set_option maxRecDepth 100000 in
set_option maxHeartbeats 1600000 in
theorem act_26 (R : RS m B nr nw cr cw I T) (d s : Nat) (n v : Int) (hd : d < 8) (hs : s < 8) (hv : 0 ≤ v) (hv' : v ≤ 65535) (w : World) (p : Nat) (x : C.St σ) (hP : PI B nr nw cr cw I T w p x) :
    Calls Tryz.prog 101 #[.pointer (some ⟨p, 0, none⟩), ordV 26 d s n v] w (AP B nr nw cr cw I T w p x (C.act m x 26 d s n v)) := by
  have hlt := hP.lt
  have hne : p ≠ w.heap.size := by omega
  have hlt1 : p < w.heap.size + 1 := by omega
  have hd0 : (0 : Int) ≤ d := by omega
  have hd8 : (d : Int) < 8 := by omega
  have hs0 : (0 : Int) ≤ s := by omega
  have hs8 : (s : Int) < 8 := by omega
  have cd := hP.reg d hd
  have cs := hP.reg s hs
  have rd := C.Cpu.r_bd hP.ok d
  have rs := C.Cpu.r_bd hP.ok s
  have HP := hid hP
  have HR := hid R
  have HB := hid (hP.box R (.cells #[.int .i64 ((26 : Nat) : Int), .int .i64 d, .int .i64 s, .int .i64 n, .int .i64 v] 64))
  have HM := hid (PM.box R hP (.cells #[.int .i64 ((26 : Nat) : Int), .int .i64 d, .int .i64 s, .int .i64 n, .int .i64 v] 64))
  clear hP R
  go_enter Tryz.func101, Tryz.ntmps101
  go_wp2_with (go_at_call 102; refine (comeBack_any HR.out _ p x ?_).mono ?_; (exact HB.out); rintro e w2 ⟨rfl, hP2, hm2⟩; have HRP := hid hP2; clear hP2)
  go_end0
  exact ⟨rfl, HRP.out, HM.out.trans hm2⟩
set_option maxRecDepth 100000 in
set_option maxHeartbeats 1600000 in
theorem act_31 (R : RS m B nr nw cr cw I T) (d s : Nat) (n v : Int) (hd : d < 8) (hs : s < 8) (hv : 0 ≤ v) (hv' : v ≤ 65535) (w : World) (p : Nat) (x : C.St σ) (hP : PI B nr nw cr cw I T w p x) :
    Calls Tryz.prog 105 #[.pointer (some ⟨p, 0, none⟩), ordV 31 d s n v] w (AP B nr nw cr cw I T w p x (C.act m x 31 d s n v)) := by
  have hlt := hP.lt
  have hne : p ≠ w.heap.size := by omega
  have hlt1 : p < w.heap.size + 1 := by omega
  have hd0 : (0 : Int) ≤ d := by omega
  have hd8 : (d : Int) < 8 := by omega
  have hs0 : (0 : Int) ≤ s := by omega
  have hs8 : (s : Int) < 8 := by omega
  have cd := hP.reg d hd
  have cs := hP.reg s hs
  have rd := C.Cpu.r_bd hP.ok d
  have rs := C.Cpu.r_bd hP.ok s
  have HP := hid hP
  have HR := hid R
  have HB := hid (hP.box R (.cells #[.int .i64 ((31 : Nat) : Int), .int .i64 d, .int .i64 s, .int .i64 n, .int .i64 v] 64))
  have HM := hid (PM.box R hP (.cells #[.int .i64 ((31 : Nat) : Int), .int .i64 d, .int .i64 s, .int .i64 n, .int .i64 v] 64))
  clear hP R
  go_enter Tryz.func105, Tryz.ntmps105
  go_wp2_with (go_at_call 55; refine (leave_any HR.out 4 (by omega) (by omega) _ p x ?_).mono ?_; (exact HB.out); rintro e w2 ⟨rfl, hP2, hm2⟩; have HRP := hid hP2; clear hP2)
  go_end0
  exact ⟨rfl, HRP.out, HM.out.trans hm2⟩
end
end Go.Proofs.YtombboeonffejaaGreatDoor
