/-
  Parts of a proof, joined.
-/
import Derived.Test.YtbhpfkjfijdmaaaGreatDoorZv09
namespace Go.Proofs.YtbhpfkjfijdmaaaGreatDoor
open Go.ChangeShapes Go.WideShapes Go.ChangeAt Go.RowKit
set_option linter.unusedVariables false
set_option maxRecDepth 100000
set_option maxHeartbeats 1600000
section
variable {σ : Type} {m : C.Mem σ} {B nr nw : Nat} {cr cw : Array Value × Array Value} {I : World -> σ -> Prop} {T : σ -> Nat -> Prop}
theorem step_gen0 (R:RS m B nr nw cr cw I T) (k:Nat) (hk:k < 32) (hk30:k ≠ 30) (g:Nat) (hcf:∀ (a:Array Value) (w:World),(callFunc g a).run Tryz.prog w = .ok (.enter g a) w)
 (hi:∀ (b12 b13 b16 b17 b18 b19 b29:Nat) (w:World),(Instr.index 261 (.agg (actsL b12 b13 b16 b17 b18 b19 b29)) (.int .i64 k)).run Tryz.prog w = .ok (fv g #[]) w)
 (d s:Nat) (n v:Int) (r:Bool) (w:World) (p:Nat) (x y:C.St σ) (hP:PI B nr nw cr cw I T w p x) (hr:(r && x.c.May)=false) (hw:x.c.Waits=false)
 (hF:Calls Tryz.prog 174 #[.pointer (some ⟨p,0,none⟩)] w fun e w'=>e = .returned (ordV k d s n v)/\PI B nr nw cr cw I T w' p y/\PM B T p x.s y.s w w')
 (hA:∀ (W:World) (b12 b13 b16 b17 b18 b19 b29:Nat),boxes W b12 b13 b16 b17 b18 b19 b29->PI B nr nw cr cw I T W p ⟨y.c,y.s,K.cyc k⟩->Calls Tryz.prog g #[.pointer (some ⟨p,0,none⟩),ordV k d s n v] W (AP B nr nw cr cw I T W p ⟨y.c,y.s,K.cyc k⟩ (C.act m ⟨y.c,y.s,K.cyc k⟩ k d s n v))) :
 Calls Tryz.prog 141 #[.pointer (some ⟨p,0,none⟩),.bool r] w (AP B nr nw cr cw I T w p x (C.act m ⟨y.c,y.s,K.cyc k⟩ k d s n v)):=by
 obtain ⟨_,_,_,_,_,c13,c14,_,_,_⟩:=hP.cells
 have hlt:=hP.lt
 have HP:=hid hP
 have HR:=hid R
 have HF:=hid hF
 have HA:=hid hA
 have hk32:(k:Int) < 32:=by omega
 have hk0:(0:Int)<=k:=by omega
 rw [hw] at c14
 clear hP R hF hw hA
 cases r
 ·skip
  go_enter Tryz.func141,Tryz.ntmps141
  go_wp2_with (first
   | (go_at_call 174;refine HF.out.mono ?_;rintro e w1 ⟨rfl,hP1,hm1⟩;have hl1:=hP1.lt;have f1:=hP1.frozen 17;obtain ⟨_,_,_,_,_,_,_,_,_,e17⟩:=hP1.cells;have HY1:=hid hP1;clear hP1)
   | (go_at_call 175;refine (cycles_yes k hk hk30 _ (HR.out.shapes (HY1.out.box HR.out _).inv)).mono ?_;rintro e w2 ⟨rfl,hb2⟩;obtain ⟨k2,g2⟩:=bcell hb2;have hP2:=(HY1.out.box HR.out _).kept HR.out hb2;have hl2:=hP2.lt;have f2:=hP2.frozen 17;obtain ⟨_,_,_,_,_,_,_,_,_,h17⟩:=hP2.cells;have z2:w1.heap.size < w2.heap.size:=by have:=hb2.size;simp at this;omega
      have o0:Hid (∀ u,p ≠ w1.heap.size->(w2.setCell ⟨p,17,none⟩ u).cell? ⟨w1.heap.size,0,none⟩=some (.int .i64 k)):=fun u h=>(World.cell?_setCell_other _ _ _ _ (by simp)).trans ((k2 _ 0 (by simp)).trans (cell_new _ _ _ _ rfl))
      have o1:Hid (∀ u,p ≠ w1.heap.size->(w2.setCell ⟨p,17,none⟩ u).cell? ⟨w1.heap.size,1,none⟩=some (.int .i64 d)):=fun u h=>(World.cell?_setCell_other _ _ _ _ (by simp)).trans ((k2 _ 1 (by simp)).trans (cell_new _ _ _ _ rfl))
      have o2:Hid (∀ u,p ≠ w1.heap.size->(w2.setCell ⟨p,17,none⟩ u).cell? ⟨w1.heap.size,2,none⟩=some (.int .i64 s)):=fun u h=>(World.cell?_setCell_other _ _ _ _ (by simp)).trans ((k2 _ 2 (by simp)).trans (cell_new _ _ _ _ rfl))
      have o3:Hid (∀ u,p ≠ w1.heap.size->(w2.setCell ⟨p,17,none⟩ u).cell? ⟨w1.heap.size,3,none⟩=some (.int .i64 n)):=fun u h=>(World.cell?_setCell_other _ _ _ _ (by simp)).trans ((k2 _ 3 (by simp)).trans (cell_new _ _ _ _ rfl))
      have o4:Hid (∀ u,p ≠ w1.heap.size->(w2.setCell ⟨p,17,none⟩ u).cell? ⟨w1.heap.size,4,none⟩=some (.int .i64 v)):=fun u h=>(World.cell?_setCell_other _ _ _ _ (by simp)).trans ((k2 _ 4 (by simp)).trans (cell_new _ _ _ _ rfl))
      have HY2:=hid (hP2.putCyc HR.out (K.cyc k));have hne:p ≠ w1.heap.size:=by omega
      clear hP2))
  refine cutW (fun W=>PI B nr nw cr cw I T W p ⟨y.c,y.s,K.cyc k⟩/\PM B T p x.s y.s w W/\w1.heap.size < W.heap.size/\W.cell? ⟨w1.heap.size,0,none⟩=some (.int .i64 k)/\W.cell? ⟨w1.heap.size,1,none⟩=some (.int .i64 d)/\W.cell? ⟨w1.heap.size,2,none⟩=some (.int .i64 s)/\W.cell? ⟨w1.heap.size,3,none⟩=some (.int .i64 n)/\W.cell? ⟨w1.heap.size,4,none⟩=some (.int .i64 v)) ⟨HY2.out,((hm1.alloc (HP.out.hB HR.out) _).kept ((HY1.out.box HR.out _).hB HR.out) hb2).set HP.out.big 17 _,by rw [setCell_size];exact z2,o0.out _ hne,o1.out _ hne,o2.out _ hne,o3.out _ hne,o4.out _ hne⟩ ?_
  clear e17 f1 f2 h17 k2 g2 hl2 hl1 z2 hb2 hm1 HY2 HY1 c13 c14 hne
  rintro W ⟨hW,hmW,hzW,q0,q1,q2,q3,q4⟩
  have HW:=hid hW
  have HMW:=hid hmW
  clear hW hmW
  go_region_held3 (fun w'=>w'.cell? ⟨w1.heap.size,0,none⟩=some (.int .i64 k))
   ((go_keep;done))
   ((go_at_call 176;refine (acts_any _).mono ?_;rintro e w3 ⟨b12,b13,b16,b17,b18,b19,b29,rfl,hX,hb3⟩;obtain ⟨k3,g3⟩:=bcell hb3;have z3:=Nat.lt_of_lt_of_le hzW hb3.size;have r0:=(k3 _ 0 hzW).trans q0;have r1:=(k3 _ 1 hzW).trans q1;have r2:=(k3 _ 2 hzW).trans q2;have r3:=(k3 _ 3 hzW).trans q3;have r4:=(k3 _ 4 hzW).trans q4;have HX:=hid hX;clear hX k3 g3))
  go_wp2_with (refine (HA.out _ b12 b13 b16 b17 b18 b19 b29 HX.out ?_).mono ?_;(exact HW.out.kept HR.out (stp (st0 W).drew hb3));rintro e w4 ⟨rfl,hP4,hm4⟩)
  go_end0
  exact ⟨rfl,hP4,(HMW.out.kept (HW.out.hB HR.out) (stp (st0 W).drew hb3)).trans hm4⟩
 ·simp only [Bool.true_and] at hr
  rw [hr] at c13
  clear hr
  go_enter Tryz.func141,Tryz.ntmps141
  go_wp2_with (first
   | (go_at_call 174;refine HF.out.mono ?_;rintro e w1 ⟨rfl,hP1,hm1⟩;have hl1:=hP1.lt;have f1:=hP1.frozen 17;obtain ⟨_,_,_,_,_,_,_,_,_,e17⟩:=hP1.cells;have HY1:=hid hP1;clear hP1)
   | (go_at_call 175;refine (cycles_yes k hk hk30 _ (HR.out.shapes (HY1.out.box HR.out _).inv)).mono ?_;rintro e w2 ⟨rfl,hb2⟩;obtain ⟨k2,g2⟩:=bcell hb2;have hP2:=(HY1.out.box HR.out _).kept HR.out hb2;have hl2:=hP2.lt;have f2:=hP2.frozen 17;obtain ⟨_,_,_,_,_,_,_,_,_,h17⟩:=hP2.cells;have z2:w1.heap.size < w2.heap.size:=by have:=hb2.size;simp at this;omega
      have o0:Hid (∀ u,p ≠ w1.heap.size->(w2.setCell ⟨p,17,none⟩ u).cell? ⟨w1.heap.size,0,none⟩=some (.int .i64 k)):=fun u h=>(World.cell?_setCell_other _ _ _ _ (by simp)).trans ((k2 _ 0 (by simp)).trans (cell_new _ _ _ _ rfl))
      have o1:Hid (∀ u,p ≠ w1.heap.size->(w2.setCell ⟨p,17,none⟩ u).cell? ⟨w1.heap.size,1,none⟩=some (.int .i64 d)):=fun u h=>(World.cell?_setCell_other _ _ _ _ (by simp)).trans ((k2 _ 1 (by simp)).trans (cell_new _ _ _ _ rfl))
      have o2:Hid (∀ u,p ≠ w1.heap.size->(w2.setCell ⟨p,17,none⟩ u).cell? ⟨w1.heap.size,2,none⟩=some (.int .i64 s)):=fun u h=>(World.cell?_setCell_other _ _ _ _ (by simp)).trans ((k2 _ 2 (by simp)).trans (cell_new _ _ _ _ rfl))
      have o3:Hid (∀ u,p ≠ w1.heap.size->(w2.setCell ⟨p,17,none⟩ u).cell? ⟨w1.heap.size,3,none⟩=some (.int .i64 n)):=fun u h=>(World.cell?_setCell_other _ _ _ _ (by simp)).trans ((k2 _ 3 (by simp)).trans (cell_new _ _ _ _ rfl))
      have o4:Hid (∀ u,p ≠ w1.heap.size->(w2.setCell ⟨p,17,none⟩ u).cell? ⟨w1.heap.size,4,none⟩=some (.int .i64 v)):=fun u h=>(World.cell?_setCell_other _ _ _ _ (by simp)).trans ((k2 _ 4 (by simp)).trans (cell_new _ _ _ _ rfl))
      have HY2:=hid (hP2.putCyc HR.out (K.cyc k));have hne:p ≠ w1.heap.size:=by omega
      clear hP2))
  refine cutW (fun W=>PI B nr nw cr cw I T W p ⟨y.c,y.s,K.cyc k⟩/\PM B T p x.s y.s w W/\w1.heap.size < W.heap.size/\W.cell? ⟨w1.heap.size,0,none⟩=some (.int .i64 k)/\W.cell? ⟨w1.heap.size,1,none⟩=some (.int .i64 d)/\W.cell? ⟨w1.heap.size,2,none⟩=some (.int .i64 s)/\W.cell? ⟨w1.heap.size,3,none⟩=some (.int .i64 n)/\W.cell? ⟨w1.heap.size,4,none⟩=some (.int .i64 v)) ⟨HY2.out,((hm1.alloc (HP.out.hB HR.out) _).kept ((HY1.out.box HR.out _).hB HR.out) hb2).set HP.out.big 17 _,by rw [setCell_size];exact z2,o0.out _ hne,o1.out _ hne,o2.out _ hne,o3.out _ hne,o4.out _ hne⟩ ?_
  clear e17 f1 f2 h17 k2 g2 hl2 hl1 z2 hb2 hm1 HY2 HY1 c13 c14 hne
  rintro W ⟨hW,hmW,hzW,q0,q1,q2,q3,q4⟩
  have HW:=hid hW
  have HMW:=hid hmW
  clear hW hmW
  go_region_held3 (fun w'=>w'.cell? ⟨w1.heap.size,0,none⟩=some (.int .i64 k))
   ((go_keep;done))
   ((go_at_call 176;refine (acts_any _).mono ?_;rintro e w3 ⟨b12,b13,b16,b17,b18,b19,b29,rfl,hX,hb3⟩;obtain ⟨k3,g3⟩:=bcell hb3;have z3:=Nat.lt_of_lt_of_le hzW hb3.size;have r0:=(k3 _ 0 hzW).trans q0;have r1:=(k3 _ 1 hzW).trans q1;have r2:=(k3 _ 2 hzW).trans q2;have r3:=(k3 _ 3 hzW).trans q3;have r4:=(k3 _ 4 hzW).trans q4;have HX:=hid hX;clear hX k3 g3))
  go_wp2_with (refine (HA.out _ b12 b13 b16 b17 b18 b19 b29 HX.out ?_).mono ?_;(exact HW.out.kept HR.out (stp (st0 W).drew hb3));rintro e w4 ⟨rfl,hP4,hm4⟩)
  go_end0
  exact ⟨rfl,hP4,(HMW.out.kept (HW.out.hB HR.out) (stp (st0 W).drew hb3)).trans hm4⟩
theorem step_gen1 (R:RS m B nr nw cr cw I T) (k:Nat) (hk:k < 32) (hk30:k ≠ 30) (g:Nat) (hcf:∀ (a:Array Value) (w:World),(callFunc g a).run Tryz.prog w = .ok (.enter g a) w) (q:Nat->Nat->Nat->Nat->Nat->Nat->Nat->Nat)
 (hi:∀ (b12 b13 b16 b17 b18 b19 b29:Nat) (w:World),(Instr.index 261 (.agg (actsL b12 b13 b16 b17 b18 b19 b29)) (.int .i64 k)).run Tryz.prog w = .ok (fv g #[.pointer (some ⟨q b12 b13 b16 b17 b18 b19 b29,0,none⟩)]) w)
 (d s:Nat) (n v:Int) (r:Bool) (w:World) (p:Nat) (x y:C.St σ) (hP:PI B nr nw cr cw I T w p x) (hr:(r && x.c.May)=false) (hw:x.c.Waits=false)
 (hF:Calls Tryz.prog 174 #[.pointer (some ⟨p,0,none⟩)] w fun e w'=>e = .returned (ordV k d s n v)/\PI B nr nw cr cw I T w' p y/\PM B T p x.s y.s w w')
 (hA:∀ (W:World) (b12 b13 b16 b17 b18 b19 b29:Nat),boxes W b12 b13 b16 b17 b18 b19 b29->PI B nr nw cr cw I T W p ⟨y.c,y.s,K.cyc k⟩->Calls Tryz.prog g #[.pointer (some ⟨p,0,none⟩),ordV k d s n v,.pointer (some ⟨q b12 b13 b16 b17 b18 b19 b29,0,none⟩)] W (AP B nr nw cr cw I T W p ⟨y.c,y.s,K.cyc k⟩ (C.act m ⟨y.c,y.s,K.cyc k⟩ k d s n v))) :
 Calls Tryz.prog 141 #[.pointer (some ⟨p,0,none⟩),.bool r] w (AP B nr nw cr cw I T w p x (C.act m ⟨y.c,y.s,K.cyc k⟩ k d s n v)):=by
 obtain ⟨_,_,_,_,_,c13,c14,_,_,_⟩:=hP.cells
 have hlt:=hP.lt
 have HP:=hid hP
 have HR:=hid R
 have HF:=hid hF
 have HA:=hid hA
 have hk32:(k:Int) < 32:=by omega
 have hk0:(0:Int)<=k:=by omega
 rw [hw] at c14
 clear hP R hF hw hA
 cases r
 ·skip
  go_enter Tryz.func141,Tryz.ntmps141
  go_wp2_with (first
   | (go_at_call 174;refine HF.out.mono ?_;rintro e w1 ⟨rfl,hP1,hm1⟩;have hl1:=hP1.lt;have f1:=hP1.frozen 17;obtain ⟨_,_,_,_,_,_,_,_,_,e17⟩:=hP1.cells;have HY1:=hid hP1;clear hP1)
   | (go_at_call 175;refine (cycles_yes k hk hk30 _ (HR.out.shapes (HY1.out.box HR.out _).inv)).mono ?_;rintro e w2 ⟨rfl,hb2⟩;obtain ⟨k2,g2⟩:=bcell hb2;have hP2:=(HY1.out.box HR.out _).kept HR.out hb2;have hl2:=hP2.lt;have f2:=hP2.frozen 17;obtain ⟨_,_,_,_,_,_,_,_,_,h17⟩:=hP2.cells;have z2:w1.heap.size < w2.heap.size:=by have:=hb2.size;simp at this;omega
      have o0:Hid (∀ u,p ≠ w1.heap.size->(w2.setCell ⟨p,17,none⟩ u).cell? ⟨w1.heap.size,0,none⟩=some (.int .i64 k)):=fun u h=>(World.cell?_setCell_other _ _ _ _ (by simp)).trans ((k2 _ 0 (by simp)).trans (cell_new _ _ _ _ rfl))
      have o1:Hid (∀ u,p ≠ w1.heap.size->(w2.setCell ⟨p,17,none⟩ u).cell? ⟨w1.heap.size,1,none⟩=some (.int .i64 d)):=fun u h=>(World.cell?_setCell_other _ _ _ _ (by simp)).trans ((k2 _ 1 (by simp)).trans (cell_new _ _ _ _ rfl))
      have o2:Hid (∀ u,p ≠ w1.heap.size->(w2.setCell ⟨p,17,none⟩ u).cell? ⟨w1.heap.size,2,none⟩=some (.int .i64 s)):=fun u h=>(World.cell?_setCell_other _ _ _ _ (by simp)).trans ((k2 _ 2 (by simp)).trans (cell_new _ _ _ _ rfl))
      have o3:Hid (∀ u,p ≠ w1.heap.size->(w2.setCell ⟨p,17,none⟩ u).cell? ⟨w1.heap.size,3,none⟩=some (.int .i64 n)):=fun u h=>(World.cell?_setCell_other _ _ _ _ (by simp)).trans ((k2 _ 3 (by simp)).trans (cell_new _ _ _ _ rfl))
      have o4:Hid (∀ u,p ≠ w1.heap.size->(w2.setCell ⟨p,17,none⟩ u).cell? ⟨w1.heap.size,4,none⟩=some (.int .i64 v)):=fun u h=>(World.cell?_setCell_other _ _ _ _ (by simp)).trans ((k2 _ 4 (by simp)).trans (cell_new _ _ _ _ rfl))
      have HY2:=hid (hP2.putCyc HR.out (K.cyc k));have hne:p ≠ w1.heap.size:=by omega
      clear hP2))
  refine cutW (fun W=>PI B nr nw cr cw I T W p ⟨y.c,y.s,K.cyc k⟩/\PM B T p x.s y.s w W/\w1.heap.size < W.heap.size/\W.cell? ⟨w1.heap.size,0,none⟩=some (.int .i64 k)/\W.cell? ⟨w1.heap.size,1,none⟩=some (.int .i64 d)/\W.cell? ⟨w1.heap.size,2,none⟩=some (.int .i64 s)/\W.cell? ⟨w1.heap.size,3,none⟩=some (.int .i64 n)/\W.cell? ⟨w1.heap.size,4,none⟩=some (.int .i64 v)) ⟨HY2.out,((hm1.alloc (HP.out.hB HR.out) _).kept ((HY1.out.box HR.out _).hB HR.out) hb2).set HP.out.big 17 _,by rw [setCell_size];exact z2,o0.out _ hne,o1.out _ hne,o2.out _ hne,o3.out _ hne,o4.out _ hne⟩ ?_
  clear e17 f1 f2 h17 k2 g2 hl2 hl1 z2 hb2 hm1 HY2 HY1 c13 c14 hne
  rintro W ⟨hW,hmW,hzW,q0,q1,q2,q3,q4⟩
  have HW:=hid hW
  have HMW:=hid hmW
  clear hW hmW
  go_region_held3 (fun w'=>w'.cell? ⟨w1.heap.size,0,none⟩=some (.int .i64 k))
   ((go_keep;done))
   ((go_at_call 176;refine (acts_any _).mono ?_;rintro e w3 ⟨b12,b13,b16,b17,b18,b19,b29,rfl,hX,hb3⟩;obtain ⟨k3,g3⟩:=bcell hb3;have z3:=Nat.lt_of_lt_of_le hzW hb3.size;have r0:=(k3 _ 0 hzW).trans q0;have r1:=(k3 _ 1 hzW).trans q1;have r2:=(k3 _ 2 hzW).trans q2;have r3:=(k3 _ 3 hzW).trans q3;have r4:=(k3 _ 4 hzW).trans q4;have HX:=hid hX;clear hX k3 g3))
  go_wp2_with (refine (HA.out _ b12 b13 b16 b17 b18 b19 b29 HX.out ?_).mono ?_;(exact HW.out.kept HR.out (stp (st0 W).drew hb3));rintro e w4 ⟨rfl,hP4,hm4⟩)
  go_end0
  exact ⟨rfl,hP4,(HMW.out.kept (HW.out.hB HR.out) (stp (st0 W).drew hb3)).trans hm4⟩
 ·simp only [Bool.true_and] at hr
  rw [hr] at c13
  clear hr
  go_enter Tryz.func141,Tryz.ntmps141
  go_wp2_with (first
   | (go_at_call 174;refine HF.out.mono ?_;rintro e w1 ⟨rfl,hP1,hm1⟩;have hl1:=hP1.lt;have f1:=hP1.frozen 17;obtain ⟨_,_,_,_,_,_,_,_,_,e17⟩:=hP1.cells;have HY1:=hid hP1;clear hP1)
   | (go_at_call 175;refine (cycles_yes k hk hk30 _ (HR.out.shapes (HY1.out.box HR.out _).inv)).mono ?_;rintro e w2 ⟨rfl,hb2⟩;obtain ⟨k2,g2⟩:=bcell hb2;have hP2:=(HY1.out.box HR.out _).kept HR.out hb2;have hl2:=hP2.lt;have f2:=hP2.frozen 17;obtain ⟨_,_,_,_,_,_,_,_,_,h17⟩:=hP2.cells;have z2:w1.heap.size < w2.heap.size:=by have:=hb2.size;simp at this;omega
      have o0:Hid (∀ u,p ≠ w1.heap.size->(w2.setCell ⟨p,17,none⟩ u).cell? ⟨w1.heap.size,0,none⟩=some (.int .i64 k)):=fun u h=>(World.cell?_setCell_other _ _ _ _ (by simp)).trans ((k2 _ 0 (by simp)).trans (cell_new _ _ _ _ rfl))
      have o1:Hid (∀ u,p ≠ w1.heap.size->(w2.setCell ⟨p,17,none⟩ u).cell? ⟨w1.heap.size,1,none⟩=some (.int .i64 d)):=fun u h=>(World.cell?_setCell_other _ _ _ _ (by simp)).trans ((k2 _ 1 (by simp)).trans (cell_new _ _ _ _ rfl))
      have o2:Hid (∀ u,p ≠ w1.heap.size->(w2.setCell ⟨p,17,none⟩ u).cell? ⟨w1.heap.size,2,none⟩=some (.int .i64 s)):=fun u h=>(World.cell?_setCell_other _ _ _ _ (by simp)).trans ((k2 _ 2 (by simp)).trans (cell_new _ _ _ _ rfl))
      have o3:Hid (∀ u,p ≠ w1.heap.size->(w2.setCell ⟨p,17,none⟩ u).cell? ⟨w1.heap.size,3,none⟩=some (.int .i64 n)):=fun u h=>(World.cell?_setCell_other _ _ _ _ (by simp)).trans ((k2 _ 3 (by simp)).trans (cell_new _ _ _ _ rfl))
      have o4:Hid (∀ u,p ≠ w1.heap.size->(w2.setCell ⟨p,17,none⟩ u).cell? ⟨w1.heap.size,4,none⟩=some (.int .i64 v)):=fun u h=>(World.cell?_setCell_other _ _ _ _ (by simp)).trans ((k2 _ 4 (by simp)).trans (cell_new _ _ _ _ rfl))
      have HY2:=hid (hP2.putCyc HR.out (K.cyc k));have hne:p ≠ w1.heap.size:=by omega
      clear hP2))
  refine cutW (fun W=>PI B nr nw cr cw I T W p ⟨y.c,y.s,K.cyc k⟩/\PM B T p x.s y.s w W/\w1.heap.size < W.heap.size/\W.cell? ⟨w1.heap.size,0,none⟩=some (.int .i64 k)/\W.cell? ⟨w1.heap.size,1,none⟩=some (.int .i64 d)/\W.cell? ⟨w1.heap.size,2,none⟩=some (.int .i64 s)/\W.cell? ⟨w1.heap.size,3,none⟩=some (.int .i64 n)/\W.cell? ⟨w1.heap.size,4,none⟩=some (.int .i64 v)) ⟨HY2.out,((hm1.alloc (HP.out.hB HR.out) _).kept ((HY1.out.box HR.out _).hB HR.out) hb2).set HP.out.big 17 _,by rw [setCell_size];exact z2,o0.out _ hne,o1.out _ hne,o2.out _ hne,o3.out _ hne,o4.out _ hne⟩ ?_
  clear e17 f1 f2 h17 k2 g2 hl2 hl1 z2 hb2 hm1 HY2 HY1 c13 c14 hne
  rintro W ⟨hW,hmW,hzW,q0,q1,q2,q3,q4⟩
  have HW:=hid hW
  have HMW:=hid hmW
  clear hW hmW
  go_region_held3 (fun w'=>w'.cell? ⟨w1.heap.size,0,none⟩=some (.int .i64 k))
   ((go_keep;done))
   ((go_at_call 176;refine (acts_any _).mono ?_;rintro e w3 ⟨b12,b13,b16,b17,b18,b19,b29,rfl,hX,hb3⟩;obtain ⟨k3,g3⟩:=bcell hb3;have z3:=Nat.lt_of_lt_of_le hzW hb3.size;have r0:=(k3 _ 0 hzW).trans q0;have r1:=(k3 _ 1 hzW).trans q1;have r2:=(k3 _ 2 hzW).trans q2;have r3:=(k3 _ 3 hzW).trans q3;have r4:=(k3 _ 4 hzW).trans q4;have HX:=hid hX;clear hX k3 g3))
  go_wp2_with (refine (HA.out _ b12 b13 b16 b17 b18 b19 b29 HX.out ?_).mono ?_;(exact HW.out.kept HR.out (stp (st0 W).drew hb3));rintro e w4 ⟨rfl,hP4,hm4⟩)
  go_end0
  exact ⟨rfl,hP4,(HMW.out.kept (HW.out.hB HR.out) (stp (st0 W).drew hb3)).trans hm4⟩
end
theorem rk_bd (a:Int) (h:0<=a/\a<=65535):O.rk a < 32/\O.rk a ≠ 30/\O.rOp a=(O.rk a:Int):=by
 unfold O.rk O.rOp
 split <;> omega
theorem rD_bd (a:Int):0<=O.rD a/\O.rD a<=7:=by unfold O.rD;split <;> omega
theorem rS_bd (a:Int):0<=O.rS a/\O.rS a<=7:=by unfold O.rS;split <;> omega
theorem rN_bd (a:Int):-16<=O.rN a/\O.rN a<=15:=by
 unfold O.rN O.nOf
 split
 ·split
  ·omega
  ·split <;> omega
 ·omega
theorem rN_0 (a:Int) (h:O.rk a=12 \/ O.rk a=13):0<=O.rN a:=by
 unfold O.rN O.nOf
 split
 ·first | omega | (rw [if_pos h];omega)
 ·omega
theorem rW_bd (a b:Int) (h:0<=b/\b<=65535):0<=O.rW a b/\O.rW a b<=65535:=by unfold O.rW;split <;> omega
section
variable {σ : Type} {m : C.Mem σ} {B nr nw : Nat} {cr cw : Array Value × Array Value} {I : World -> σ -> Prop} {T : σ -> Nat -> Prop}
theorem word1_bd (R:RS m B nr nw cr cw I T) (c:C.Cpu) (s:σ):0<=C.word1 m c s/\C.word1 m c s<=65535:=R.word _ _
theorem word2_bd (R:RS m B nr nw cr cw I T) (c:C.Cpu) (s:σ):0<=C.word2 m c s/\C.word2 m c s<=65535:=by
 unfold C.word2
 split
 ·exact R.word _ _
 ·omega
theorem RS.fbehind (R:RS m B nr nw cr cw I T) (c:C.Cpu) (s:σ):m.fuel s<=m.fuel (C.behind m c s).s:=by
 unfold C.behind
 simp only
 split
 ·exact Nat.le_trans (R.frdw _ _) (R.frdw _ _)
 ·exact R.frdw _ _
theorem step_order (R:RS m B nr nw cr cw I T) (r:Bool) (w:World) (p:Nat) (x:C.St σ) (hfu:4<=m.fuel x.s) (hP:PI B nr nw cr cw I T w p x) (hr:(r && x.c.May)=false) (hw:x.c.Waits=false) :
 Calls Tryz.prog 141 #[.pointer (some ⟨p,0,none⟩),.bool r] w (AP B nr nw cr cw I T w p x (C.order m x.c x.s)):=by
 have hF:=fetch_any R w p x hP
 have b1:=word1_bd R x.c x.s
 have b2:=word2_bd R x.c x.s
 unfold C.order
 generalize C.word1 m x.c x.s=a at hF b1 ⊢
 generalize C.word2 m x.c x.s=b at hF b2 ⊢
 have hfy:4<=m.fuel (C.behind m x.c x.s).s:=Nat.le_trans hfu (R.fbehind _ _)
 generalize C.behind m x.c x.s=y at hF hfy ⊢
 obtain ⟨h32,h30,hop⟩:=rk_bd a b1
 have hd:=rD_bd a
 have hs:=rS_bd a
 have hn:=rN_bd a
 have hv:=rW_bd a b b2
 have hn0:=rN_0 a
 unfold orderV at hF
 rw [hop] at hF
 generalize O.rk a=k at *
 generalize O.rN a=n at *
 generalize O.rW a b=v at *
 obtain ⟨d,ed⟩:=Int.eq_ofNat_of_zero_le hd.1
 obtain ⟨s,es⟩:=Int.eq_ofNat_of_zero_le hs.1
 rw [ed,es] at hF
 rw [ed] at hd
 rw [es] at hs
 rw [ed,es]
 have hd':d < 8:=by omega
 have hs':s < 8:=by omega
 clear hop
 have hk:k=0 \/ k=1 \/ k=2 \/ k=3 \/ k=4 \/ k=5 \/ k=6 \/ k=7 \/ k=8 \/ k=9 \/ k=10 \/ k=11 \/ k=12 \/ k=13 \/ k=14 \/ k=15 \/ k=16 \/ k=17 \/ k=18 \/ k=19 \/ k=20 \/ k=21 \/ k=22 \/ k=23 \/ k=24 \/ k=25 \/ k=26 \/ k=27 \/ k=28 \/ k=29 \/ k=31:=by omega
 rcases hk with rfl | rfl | rfl | rfl | rfl | rfl | rfl | rfl | rfl | rfl | rfl | rfl | rfl | rfl | rfl | rfl | rfl | rfl | rfl | rfl | rfl | rfl | rfl | rfl | rfl | rfl | rfl | rfl | rfl | rfl | rfl
 ·exact step_gen0 R 0 (by decide) (by decide) 207 (fun _ _=>rfl) acts_at0 d s n v r w p x ⟨y.c,y.s,x.n⟩ hP hr hw hF (fun W b12 b13 b16 b17 b18 b19 b29 hB h=>act_0 R d s n v hd' hs' hv.1 hv.2 W p _ h)
 ·exact step_gen0 R 1 (by decide) (by decide) 208 (fun _ _=>rfl) acts_at1 d s n v r w p x ⟨y.c,y.s,x.n⟩ hP hr hw hF (fun W b12 b13 b16 b17 b18 b19 b29 hB h=>act_1 R d s n v hd' hs' hv.1 hv.2 W p _ h)
 ·exact step_gen0 R 2 (by decide) (by decide) 209 (fun _ _=>rfl) acts_at2 d s n v r w p x ⟨y.c,y.s,x.n⟩ hP hr hw hF (fun W b12 b13 b16 b17 b18 b19 b29 hB h=>act_2 R d s n v hd' hs' hv.1 hv.2 W p _ h)
 ·exact step_gen0 R 3 (by decide) (by decide) 210 (fun _ _=>rfl) acts_at3 d s n v r w p x ⟨y.c,y.s,x.n⟩ hP hr hw hF (fun W b12 b13 b16 b17 b18 b19 b29 hB h=>act_3 R d s n v hd' hs' hv.1 hv.2 W p _ h)
 ·exact step_gen0 R 4 (by decide) (by decide) 212 (fun _ _=>rfl) acts_at4 d s n v r w p x ⟨y.c,y.s,x.n⟩ hP hr hw hF (fun W b12 b13 b16 b17 b18 b19 b29 hB h=>act_4 R d s n v hd' hs' hv.1 hv.2 W p _ (Nat.le_trans (by decide) hfy) h)
 ·exact step_gen0 R 5 (by decide) (by decide) 214 (fun _ _=>rfl) acts_at5 d s n v r w p x ⟨y.c,y.s,x.n⟩ hP hr hw hF (fun W b12 b13 b16 b17 b18 b19 b29 hB h=>act_5 R d s n v hd' hs' hv.1 hv.2 W p _ h)
 ·exact step_gen0 R 6 (by decide) (by decide) 215 (fun _ _=>rfl) acts_at6 d s n v r w p x ⟨y.c,y.s,x.n⟩ hP hr hw hF (fun W b12 b13 b16 b17 b18 b19 b29 hB h=>act_6 R d s n v hd' hs' hv.1 hv.2 W p _ (Nat.le_trans (by decide) hfy) h)
 ·exact step_gen0 R 7 (by decide) (by decide) 217 (fun _ _=>rfl) acts_at7 d s n v r w p x ⟨y.c,y.s,x.n⟩ hP hr hw hF (fun W b12 b13 b16 b17 b18 b19 b29 hB h=>act_both R 7 (by unfold isFl;omega) d s n v hd' hs' hn W p _ h)
 ·exact step_gen0 R 8 (by decide) (by decide) 217 (fun _ _=>rfl) acts_at8 d s n v r w p x ⟨y.c,y.s,x.n⟩ hP hr hw hF (fun W b12 b13 b16 b17 b18 b19 b29 hB h=>act_both R 8 (by unfold isFl;omega) d s n v hd' hs' hn W p _ h)
 ·exact step_gen0 R 9 (by decide) (by decide) 217 (fun _ _=>rfl) acts_at9 d s n v r w p x ⟨y.c,y.s,x.n⟩ hP hr hw hF (fun W b12 b13 b16 b17 b18 b19 b29 hB h=>act_both R 9 (by unfold isFl;omega) d s n v hd' hs' hn W p _ h)
 ·exact step_gen0 R 10 (by decide) (by decide) 217 (fun _ _=>rfl) acts_at10 d s n v r w p x ⟨y.c,y.s,x.n⟩ hP hr hw hF (fun W b12 b13 b16 b17 b18 b19 b29 hB h=>act_both R 10 (by unfold isFl;omega) d s n v hd' hs' hn W p _ h)
 ·exact step_gen0 R 11 (by decide) (by decide) 217 (fun _ _=>rfl) acts_at11 d s n v r w p x ⟨y.c,y.s,x.n⟩ hP hr hw hF (fun W b12 b13 b16 b17 b18 b19 b29 hB h=>act_both R 11 (by unfold isFl;omega) d s n v hd' hs' hn W p _ h)
 ·exact step_gen1 R 12 (by decide) (by decide) 262 (fun _ _=>rfl) (fun b12 b13 b16 b17 b18 b19 b29=>b12) acts_at12 d s n v r w p x ⟨y.c,y.s,x.n⟩ hP hr hw hF (fun W b12 b13 b16 b17 b18 b19 b29 hB h=>act_12 R d s n v hd' hs' (hn0 (by decide)) hn.2 b12 W p _ h hB.1)
 ·exact step_gen1 R 13 (by decide) (by decide) 262 (fun _ _=>rfl) (fun b12 b13 b16 b17 b18 b19 b29=>b13) acts_at13 d s n v r w p x ⟨y.c,y.s,x.n⟩ hP hr hw hF (fun W b12 b13 b16 b17 b18 b19 b29 hB h=>act_13 R d s n v hd' hs' (hn0 (by decide)) hn.2 b13 W p _ h hB.2.1)
 ·exact step_gen0 R 14 (by decide) (by decide) 221 (fun _ _=>rfl) acts_at14 d s n v r w p x ⟨y.c,y.s,x.n⟩ hP hr hw hF (fun W b12 b13 b16 b17 b18 b19 b29 hB h=>act_14 R d s n v hd' hs' hn W p _ h)
 ·exact step_gen0 R 15 (by decide) (by decide) 223 (fun _ _=>rfl) acts_at15 d s n v r w p x ⟨y.c,y.s,x.n⟩ hP hr hw hF (fun W b12 b13 b16 b17 b18 b19 b29 hB h=>act_15 R d s n v hd' hs' hn W p _ h)
 ·exact step_gen1 R 16 (by decide) (by decide) 266 (fun _ _=>rfl) (fun b12 b13 b16 b17 b18 b19 b29=>b16) acts_at16 d s n v r w p x ⟨y.c,y.s,x.n⟩ hP hr hw hF (fun W b12 b13 b16 b17 b18 b19 b29 hB h=>actj_16 R d s n v hv.1 hv.2 b16 W p _ (show (0:Int)<=K.cyc 16 by decide +kernel) (show K.cyc 16<=100 by decide +kernel) h hB.2.2.1)
 ·exact step_gen1 R 17 (by decide) (by decide) 266 (fun _ _=>rfl) (fun b12 b13 b16 b17 b18 b19 b29=>b17) acts_at17 d s n v r w p x ⟨y.c,y.s,x.n⟩ hP hr hw hF (fun W b12 b13 b16 b17 b18 b19 b29 hB h=>actj_17 R d s n v hv.1 hv.2 b17 W p _ (show (0:Int)<=K.cyc 17 by decide +kernel) (show K.cyc 17<=100 by decide +kernel) h hB.2.2.2.1)
 ·exact step_gen1 R 18 (by decide) (by decide) 266 (fun _ _=>rfl) (fun b12 b13 b16 b17 b18 b19 b29=>b18) acts_at18 d s n v r w p x ⟨y.c,y.s,x.n⟩ hP hr hw hF (fun W b12 b13 b16 b17 b18 b19 b29 hB h=>actj_18 R d s n v hv.1 hv.2 b18 W p _ (show (0:Int)<=K.cyc 18 by decide +kernel) (show K.cyc 18<=100 by decide +kernel) h hB.2.2.2.2.1)
 ·exact step_gen1 R 19 (by decide) (by decide) 266 (fun _ _=>rfl) (fun b12 b13 b16 b17 b18 b19 b29=>b19) acts_at19 d s n v r w p x ⟨y.c,y.s,x.n⟩ hP hr hw hF (fun W b12 b13 b16 b17 b18 b19 b29 hB h=>actj_19 R d s n v hv.1 hv.2 b19 W p _ (show (0:Int)<=K.cyc 19 by decide +kernel) (show K.cyc 19<=100 by decide +kernel) h hB.2.2.2.2.2.1)
 ·exact step_gen0 R 20 (by decide) (by decide) 229 (fun _ _=>rfl) acts_at20 d s n v r w p x ⟨y.c,y.s,x.n⟩ hP hr hw hF (fun W b12 b13 b16 b17 b18 b19 b29 hB h=>act_20 R d s n v hd' hs' hv.1 hv.2 W p _ (Nat.le_trans (by decide) hfy) h)
 ·exact step_gen0 R 21 (by decide) (by decide) 230 (fun _ _=>rfl) acts_at21 d s n v r w p x ⟨y.c,y.s,x.n⟩ hP hr hw hF (fun W b12 b13 b16 b17 b18 b19 b29 hB h=>act_21 R d s n v hd' hs' hv.1 hv.2 W p _ h)
 ·exact step_gen0 R 22 (by decide) (by decide) 232 (fun _ _=>rfl) acts_at22 d s n v r w p x ⟨y.c,y.s,x.n⟩ hP hr hw hF (fun W b12 b13 b16 b17 b18 b19 b29 hB h=>act_22 R d s n v hd' hs' hv.1 hv.2 W p _ (Nat.le_trans (by decide) hfy) h)
 ·exact step_gen0 R 23 (by decide) (by decide) 233 (fun _ _=>rfl) acts_at23 d s n v r w p x ⟨y.c,y.s,x.n⟩ hP hr hw hF (fun W b12 b13 b16 b17 b18 b19 b29 hB h=>act_23 R d s n v hd' hs' hv.1 hv.2 W p _ h)
 ·exact step_gen0 R 24 (by decide) (by decide) 234 (fun _ _=>rfl) acts_at24 d s n v r w p x ⟨y.c,y.s,x.n⟩ hP hr hw hF (fun W b12 b13 b16 b17 b18 b19 b29 hB h=>act_24 R d s n v hd' hs' hv.1 hv.2 W p _ h)
 ·exact step_gen0 R 25 (by decide) (by decide) 235 (fun _ _=>rfl) acts_at25 d s n v r w p x ⟨y.c,y.s,x.n⟩ hP hr hw hF (fun W b12 b13 b16 b17 b18 b19 b29 hB h=>act_25 R d s n v hd' hs' hv.1 hv.2 W p _ h)
 ·exact step_gen0 R 26 (by decide) (by decide) 236 (fun _ _=>rfl) acts_at26 d s n v r w p x ⟨y.c,y.s,x.n⟩ hP hr hw hF (fun W b12 b13 b16 b17 b18 b19 b29 hB h=>act_26 R d s n v hd' hs' hv.1 hv.2 W p _ h)
 ·exact step_gen0 R 27 (by decide) (by decide) 238 (fun _ _=>rfl) acts_at27 d s n v r w p x ⟨y.c,y.s,x.n⟩ hP hr hw hF (fun W b12 b13 b16 b17 b18 b19 b29 hB h=>act_27 R d s n v hd' hs' hv.1 hv.2 W p _ h)
 ·exact step_gen0 R 28 (by decide) (by decide) 217 (fun _ _=>rfl) acts_at28 d s n v r w p x ⟨y.c,y.s,x.n⟩ hP hr hw hF (fun W b12 b13 b16 b17 b18 b19 b29 hB h=>act_both R 28 (by unfold isFl;omega) d s n v hd' hs' hn W p _ h)
 ·exact step_gen1 R 29 (by decide) (by decide) 266 (fun _ _=>rfl) (fun b12 b13 b16 b17 b18 b19 b29=>b29) acts_at29 d s n v r w p x ⟨y.c,y.s,x.n⟩ hP hr hw hF (fun W b12 b13 b16 b17 b18 b19 b29 hB h=>actj_29 R d s n v hv.1 hv.2 b29 W p _ (show (0:Int)<=K.cyc 29 by decide +kernel) (show K.cyc 29<=100 by decide +kernel) h hB.2.2.2.2.2.2)
 ·exact step_gen0 R 31 (by decide) (by decide) 240 (fun _ _=>rfl) acts_at31 d s n v r w p x ⟨y.c,y.s,x.n⟩ hP hr hw hF (fun W b12 b13 b16 b17 b18 b19 b29 hB h=>act_31 R d s n v hd' hs' hv.1 hv.2 W p _ (Nat.le_trans (by decide) hfy) h)
theorem step_leave (R:RS m B nr nw cr cw I T) (w:World) (p:Nat) (x:C.St σ) (hfu:4<=m.fuel x.s) (hP:PI B nr nw cr cw I T w p x) (hm:x.c.May=true) :
 Calls Tryz.prog 141 #[.pointer (some ⟨p,0,none⟩),.bool true] w (AP B nr nw cr cw I T w p x { C.leave m x 2 with n:=6 }):=by
 obtain ⟨_,_,_,_,_,c13,c14,_,_,_⟩:=hP.cells
 have hlt:=hP.lt
 rw [hm] at c13
 have HP:=hid hP
 have HR:=hid R
 have HFU:=hid hfu
 clear hP R hm hfu
 go_enter Tryz.func141,Tryz.ntmps141
 go_wp2_with (go_at_call 173;refine (leave_any HR.out 2 (by omega) (by omega) _ p x HFU.out HP.out).mono ?_;rintro e w1 ⟨rfl,hP1,hm1⟩;have hl1:=hP1.lt;have f1:=hP1.frozen 17;obtain ⟨_,_,_,_,_,_,_,_,_,e17⟩:=hP1.cells;have HY1:=hid hP1;clear hP1)
 go_end0
 exact ⟨rfl,HY1.out.putCyc HR.out 6,PM.set hm1 HP.out.big 17 _⟩
theorem step_wait (R:RS m B nr nw cr cw I T) (r:Bool) (w:World) (p:Nat) (x:C.St σ) (hP:PI B nr nw cr cw I T w p x) (hr:(r && x.c.May)=false) (hw:x.c.Waits=true) :
 Calls Tryz.prog 141 #[.pointer (some ⟨p,0,none⟩),.bool r] w (AP B nr nw cr cw I T w p x ⟨x.c,x.s,1⟩):=by
 obtain ⟨_,_,_,_,_,c13,c14,_,_,c17⟩:=hP.cells
 have hlt:=hP.lt
 have hf:=hP.frozen 17
 rw [hw] at c14
 have HP:=hid hP
 have HR:=hid R
 clear hP R hw
 cases r
 ·go_enter Tryz.func141,Tryz.ntmps141
  go_wp2
  go_end0
  exact ⟨rfl,HP.out.putCyc HR.out 1,(PM.refl B T p x.s w).set HP.out.big 17 _⟩
 ·simp only [Bool.true_and] at hr
  rw [hr] at c13
  clear hr
  go_enter Tryz.func141,Tryz.ntmps141
  go_wp2
  go_end0
  exact ⟨rfl,HP.out.putCyc HR.out 1,(PM.refl B T p x.s w).set HP.out.big 17 _⟩
theorem step_any (R:RS m B nr nw cr cw I T) (r:Bool) (w:World) (p:Nat) (c:C.Cpu) (s:σ) (hfu:4<=m.fuel s) (hP:PI B nr nw cr cw I T w p ⟨c,s,0⟩) :
 Calls Tryz.prog 141 #[.pointer (some ⟨p,0,none⟩),.bool r] w (AP B nr nw cr cw I T w p ⟨c,s,0⟩ (C.step m c s r)):=by
 unfold C.step
 cases hr:r && c.May
 ·rw [if_neg (by simp)]
  cases hw:c.Waits
  ·rw [if_neg (by simp)];exact step_order R r w p ⟨c,s,0⟩ hfu hP hr hw
  ·rw [if_pos rfl];exact step_wait R r w p ⟨c,s,0⟩ hP hr hw
 ·rw [if_pos rfl]
  obtain ⟨h1,h2⟩:=Bool.and_eq_true_iff.1 hr
  subst h1
  exact step_leave R w p ⟨c,s,0⟩ hfu hP h2
end
end Go.Proofs.YtbhpfkjfijdmaaaGreatDoor
