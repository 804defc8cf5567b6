/-
  Parts of a proof, joined.
-/
import Derived.Test.YtbennamieealbaaGreatDoorZg25
set_option linter.unusedVariables false
set_option maxRecDepth 100000
set_option maxHeartbeats 1600000
namespace Go.Proofs.YtbennamieealbaaGreatDoor
open Go.ChangeShapes Go.WideShapes Go.ChangeAt Go.RowKit
section
variable {σ : Type} {m : C.Mem σ} {B nr nw : Nat} {cr cw : Array Value × Array Value} {I : World -> σ -> Prop} {T : σ -> Nat -> Prop}
theorem znt (R:RS m B nr nw cr cw I T) (d s:Nat) (n v:Int) (hv:0<=v) (hv':v<=65535) (b:Nat) (w:World) (p:Nat) (x:C.St σ) (hx0:0<=x.n) (hx1:x.n<=100) (hP:PI B nr nw cr cw I T w p x) (hb:w.cell? ⟨b,0,none⟩=some (fv 279 #[])) :
 Calls Tryz.prog 320 #[.pointer (some ⟨p,0,none⟩),ordV 16 d s n v,.pointer (some ⟨b,0,none⟩)] w (AP B nr nw cr cw I T w p x (C.act m x 16 d s n v)) :=
 zcp R _ (Or.inl rfl) true 16 d s n v hv hv' b w p x hx0 hx1 hP _ rfl hb (λW=>znn x.c W)
theorem znu (R:RS m B nr nw cr cw I T) (d s:Nat) (n v:Int) (hv:0<=v) (hv':v<=65535) (b:Nat) (w:World) (p:Nat) (x:C.St σ) (hx0:0<=x.n) (hx1:x.n<=100) (hP:PI B nr nw cr cw I T w p x) (hb:w.cell? ⟨b,0,none⟩=some (fv 280 #[])) :
 Calls Tryz.prog 320 #[.pointer (some ⟨p,0,none⟩),ordV 17 d s n v,.pointer (some ⟨b,0,none⟩)] w (AP B nr nw cr cw I T w p x (C.act m x 17 d s n v)) :=
 zcp R _ (Or.inr (Or.inl rfl)) x.c.Z 17 d s n v hv hv' b w p x hx0 hx1 hP _ rfl hb (λW=>zno x.c W)
theorem znv (R:RS m B nr nw cr cw I T) (d s:Nat) (n v:Int) (hv:0<=v) (hv':v<=65535) (b:Nat) (w:World) (p:Nat) (x:C.St σ) (hx0:0<=x.n) (hx1:x.n<=100) (hP:PI B nr nw cr cw I T w p x) (hb:w.cell? ⟨b,0,none⟩=some (fv 281 #[])) :
 Calls Tryz.prog 320 #[.pointer (some ⟨p,0,none⟩),ordV 18 d s n v,.pointer (some ⟨b,0,none⟩)] w (AP B nr nw cr cw I T w p x (C.act m x 18 d s n v)) :=
 zcp R _ (Or.inr (Or.inr (Or.inl rfl))) x.c.N 18 d s n v hv hv' b w p x hx0 hx1 hP _ rfl hb (λW=>znp x.c W)
theorem znw (R:RS m B nr nw cr cw I T) (d s:Nat) (n v:Int) (hv:0<=v) (hv':v<=65535) (b:Nat) (w:World) (p:Nat) (x:C.St σ) (hx0:0<=x.n) (hx1:x.n<=100) (hP:PI B nr nw cr cw I T w p x) (hb:w.cell? ⟨b,0,none⟩=some (fv 282 #[])) :
 Calls Tryz.prog 320 #[.pointer (some ⟨p,0,none⟩),ordV 19 d s n v,.pointer (some ⟨b,0,none⟩)] w (AP B nr nw cr cw I T w p x (C.act m x 19 d s n v)) :=
 zcp R _ (Or.inr (Or.inr (Or.inr (Or.inl rfl)))) x.c.C 19 d s n v hv hv' b w p x hx0 hx1 hP _ rfl hb (λW=>znq x.c W)
theorem znx (R:RS m B nr nw cr cw I T) (d s:Nat) (n v:Int) (hv:0<=v) (hv':v<=65535) (b:Nat) (w:World) (p:Nat) (x:C.St σ) (hx0:0<=x.n) (hx1:x.n<=100) (hP:PI B nr nw cr cw I T w p x) (hb:w.cell? ⟨b,0,none⟩=some (fv 293 #[])) :
 Calls Tryz.prog 320 #[.pointer (some ⟨p,0,none⟩),ordV 29 d s n v,.pointer (some ⟨b,0,none⟩)] w (AP B nr nw cr cw I T w p x (C.act m x 29 d s n v)) :=
 zcp R _ (Or.inr (Or.inr (Or.inr (Or.inr rfl)))) (!x.c.Z) 29 d s n v hv hv' b w p x hx0 hx1 hP _ (by show (if x.c.Z then x else C.jump x v)=_;cases x.c.Z <;> rfl) hb (λW=>zlp x.c W)
theorem zlr (b12 b13 b16 b17 b18 b19 b29:Nat) (w:World):(Instr.index 320 (.agg (actsL b12 b13 b16 b17 b18 b19 b29)) (.int .i64 0)).run Tryz.prog w = .ok (fv 261 #[]) w:=by kernel_rfl
theorem zls (b12 b13 b16 b17 b18 b19 b29:Nat) (w:World):(Instr.index 320 (.agg (actsL b12 b13 b16 b17 b18 b19 b29)) (.int .i64 1)).run Tryz.prog w = .ok (fv 262 #[]) w:=by kernel_rfl
theorem zlt (b12 b13 b16 b17 b18 b19 b29:Nat) (w:World):(Instr.index 320 (.agg (actsL b12 b13 b16 b17 b18 b19 b29)) (.int .i64 2)).run Tryz.prog w = .ok (fv 263 #[]) w:=by kernel_rfl
theorem zlu (b12 b13 b16 b17 b18 b19 b29:Nat) (w:World):(Instr.index 320 (.agg (actsL b12 b13 b16 b17 b18 b19 b29)) (.int .i64 3)).run Tryz.prog w = .ok (fv 264 #[]) w:=by kernel_rfl
theorem zlv (b12 b13 b16 b17 b18 b19 b29:Nat) (w:World):(Instr.index 320 (.agg (actsL b12 b13 b16 b17 b18 b19 b29)) (.int .i64 4)).run Tryz.prog w = .ok (fv 266 #[]) w:=by kernel_rfl
theorem zlw (b12 b13 b16 b17 b18 b19 b29:Nat) (w:World):(Instr.index 320 (.agg (actsL b12 b13 b16 b17 b18 b19 b29)) (.int .i64 5)).run Tryz.prog w = .ok (fv 268 #[]) w:=by kernel_rfl
theorem zlx (b12 b13 b16 b17 b18 b19 b29:Nat) (w:World):(Instr.index 320 (.agg (actsL b12 b13 b16 b17 b18 b19 b29)) (.int .i64 6)).run Tryz.prog w = .ok (fv 269 #[]) w:=by kernel_rfl
theorem zly (b12 b13 b16 b17 b18 b19 b29:Nat) (w:World):(Instr.index 320 (.agg (actsL b12 b13 b16 b17 b18 b19 b29)) (.int .i64 7)).run Tryz.prog w = .ok (fv 271 #[]) w:=by kernel_rfl
theorem zlz (b12 b13 b16 b17 b18 b19 b29:Nat) (w:World):(Instr.index 320 (.agg (actsL b12 b13 b16 b17 b18 b19 b29)) (.int .i64 8)).run Tryz.prog w = .ok (fv 271 #[]) w:=by kernel_rfl
theorem zlA (b12 b13 b16 b17 b18 b19 b29:Nat) (w:World):(Instr.index 320 (.agg (actsL b12 b13 b16 b17 b18 b19 b29)) (.int .i64 9)).run Tryz.prog w = .ok (fv 271 #[]) w:=by kernel_rfl
theorem zjb (b12 b13 b16 b17 b18 b19 b29:Nat) (w:World):(Instr.index 320 (.agg (actsL b12 b13 b16 b17 b18 b19 b29)) (.int .i64 10)).run Tryz.prog w = .ok (fv 271 #[]) w:=by kernel_rfl
theorem zjc (b12 b13 b16 b17 b18 b19 b29:Nat) (w:World):(Instr.index 320 (.agg (actsL b12 b13 b16 b17 b18 b19 b29)) (.int .i64 11)).run Tryz.prog w = .ok (fv 271 #[]) w:=by kernel_rfl
theorem zjd (b12 b13 b16 b17 b18 b19 b29:Nat) (w:World):(Instr.index 320 (.agg (actsL b12 b13 b16 b17 b18 b19 b29)) (.int .i64 12)).run Tryz.prog w = .ok (fv 316 #[.pointer (some ⟨b12,0,none⟩)]) w:=by kernel_rfl
theorem zje (b12 b13 b16 b17 b18 b19 b29:Nat) (w:World):(Instr.index 320 (.agg (actsL b12 b13 b16 b17 b18 b19 b29)) (.int .i64 13)).run Tryz.prog w = .ok (fv 316 #[.pointer (some ⟨b13,0,none⟩)]) w:=by kernel_rfl
theorem zjf (b12 b13 b16 b17 b18 b19 b29:Nat) (w:World):(Instr.index 320 (.agg (actsL b12 b13 b16 b17 b18 b19 b29)) (.int .i64 14)).run Tryz.prog w = .ok (fv 275 #[]) w:=by kernel_rfl
theorem zjg (b12 b13 b16 b17 b18 b19 b29:Nat) (w:World):(Instr.index 320 (.agg (actsL b12 b13 b16 b17 b18 b19 b29)) (.int .i64 15)).run Tryz.prog w = .ok (fv 277 #[]) w:=by kernel_rfl
theorem zjh (b12 b13 b16 b17 b18 b19 b29:Nat) (w:World):(Instr.index 320 (.agg (actsL b12 b13 b16 b17 b18 b19 b29)) (.int .i64 16)).run Tryz.prog w = .ok (fv 320 #[.pointer (some ⟨b16,0,none⟩)]) w:=by kernel_rfl
theorem zji (b12 b13 b16 b17 b18 b19 b29:Nat) (w:World):(Instr.index 320 (.agg (actsL b12 b13 b16 b17 b18 b19 b29)) (.int .i64 17)).run Tryz.prog w = .ok (fv 320 #[.pointer (some ⟨b17,0,none⟩)]) w:=by kernel_rfl
theorem zjj (b12 b13 b16 b17 b18 b19 b29:Nat) (w:World):(Instr.index 320 (.agg (actsL b12 b13 b16 b17 b18 b19 b29)) (.int .i64 18)).run Tryz.prog w = .ok (fv 320 #[.pointer (some ⟨b18,0,none⟩)]) w:=by kernel_rfl
theorem zjk (b12 b13 b16 b17 b18 b19 b29:Nat) (w:World):(Instr.index 320 (.agg (actsL b12 b13 b16 b17 b18 b19 b29)) (.int .i64 19)).run Tryz.prog w = .ok (fv 320 #[.pointer (some ⟨b19,0,none⟩)]) w:=by kernel_rfl
theorem zjl (b12 b13 b16 b17 b18 b19 b29:Nat) (w:World):(Instr.index 320 (.agg (actsL b12 b13 b16 b17 b18 b19 b29)) (.int .i64 20)).run Tryz.prog w = .ok (fv 283 #[]) w:=by kernel_rfl
theorem zjm (b12 b13 b16 b17 b18 b19 b29:Nat) (w:World):(Instr.index 320 (.agg (actsL b12 b13 b16 b17 b18 b19 b29)) (.int .i64 21)).run Tryz.prog w = .ok (fv 284 #[]) w:=by kernel_rfl
theorem zjn (b12 b13 b16 b17 b18 b19 b29:Nat) (w:World):(Instr.index 320 (.agg (actsL b12 b13 b16 b17 b18 b19 b29)) (.int .i64 22)).run Tryz.prog w = .ok (fv 286 #[]) w:=by kernel_rfl
theorem zjo (b12 b13 b16 b17 b18 b19 b29:Nat) (w:World):(Instr.index 320 (.agg (actsL b12 b13 b16 b17 b18 b19 b29)) (.int .i64 23)).run Tryz.prog w = .ok (fv 287 #[]) w:=by kernel_rfl
theorem zjp (b12 b13 b16 b17 b18 b19 b29:Nat) (w:World):(Instr.index 320 (.agg (actsL b12 b13 b16 b17 b18 b19 b29)) (.int .i64 24)).run Tryz.prog w = .ok (fv 288 #[]) w:=by kernel_rfl
theorem zjq (b12 b13 b16 b17 b18 b19 b29:Nat) (w:World):(Instr.index 320 (.agg (actsL b12 b13 b16 b17 b18 b19 b29)) (.int .i64 25)).run Tryz.prog w = .ok (fv 289 #[]) w:=by kernel_rfl
theorem zjr (b12 b13 b16 b17 b18 b19 b29:Nat) (w:World):(Instr.index 320 (.agg (actsL b12 b13 b16 b17 b18 b19 b29)) (.int .i64 26)).run Tryz.prog w = .ok (fv 290 #[]) w:=by kernel_rfl
theorem zjs (b12 b13 b16 b17 b18 b19 b29:Nat) (w:World):(Instr.index 320 (.agg (actsL b12 b13 b16 b17 b18 b19 b29)) (.int .i64 27)).run Tryz.prog w = .ok (fv 292 #[]) w:=by kernel_rfl
theorem zjt (b12 b13 b16 b17 b18 b19 b29:Nat) (w:World):(Instr.index 320 (.agg (actsL b12 b13 b16 b17 b18 b19 b29)) (.int .i64 28)).run Tryz.prog w = .ok (fv 271 #[]) w:=by kernel_rfl
theorem zju (b12 b13 b16 b17 b18 b19 b29:Nat) (w:World):(Instr.index 320 (.agg (actsL b12 b13 b16 b17 b18 b19 b29)) (.int .i64 29)).run Tryz.prog w = .ok (fv 320 #[.pointer (some ⟨b29,0,none⟩)]) w:=by kernel_rfl
theorem zjv (b12 b13 b16 b17 b18 b19 b29:Nat) (w:World):(Instr.index 320 (.agg (actsL b12 b13 b16 b17 b18 b19 b29)) (.int .i64 31)).run Tryz.prog w = .ok (fv 294 #[]) w:=by kernel_rfl
end
section
variable {σ : Type} {m : C.Mem σ} {B nr nw : Nat} {cr cw : Array Value × Array Value} {I : World -> σ -> Prop} {T : σ -> Nat -> Prop}
theorem zap (R:RS m B nr nw cr cw I T) (k:Nat) (hk:k<32) (hk30:k≠30) (g:Nat) (hcf:∀ (a:Array Value) (w:World),(callFunc g a).run Tryz.prog w = .ok (.enter g a) w)
 (hi:∀ (b12 b13 b16 b17 b18 b19 b29:Nat) (w:World),(Instr.index 320 (.agg (actsL b12 b13 b16 b17 b18 b19 b29)) (.int .i64 k)).run Tryz.prog w = .ok (fv g #[]) w)
 (d s:Nat) (n v:Int) (r:Bool) (w:World) (p:Nat) (x y:C.St σ) (hP:PI B nr nw cr cw I T w p x) (hr:(r && x.c.May)=false) (hw:x.c.Waits=false)
 (hF:Calls Tryz.prog 230 #[.pointer (some ⟨p,0,none⟩)] w λe w'=>e = .returned (ordV k d s n v)/\PI B nr nw cr cw I T w' p y/\PM B T p x.s y.s w w')
 (hA:∀ (W:World) (b12 b13 b16 b17 b18 b19 b29:Nat),boxes W b12 b13 b16 b17 b18 b19 b29->PI B nr nw cr cw I T W p ⟨y.c,y.s,K.cyc k⟩->Calls Tryz.prog g #[.pointer (some ⟨p,0,none⟩),ordV k d s n v] W (AP B nr nw cr cw I T W p ⟨y.c,y.s,K.cyc k⟩ (C.act m ⟨y.c,y.s,K.cyc k⟩ k d s n v))) :
 Calls Tryz.prog 193 #[.pointer (some ⟨p,0,none⟩),.bool r] w (AP B nr nw cr cw I T w p x (C.act m ⟨y.c,y.s,K.cyc k⟩ k d s n v)):=by
 obtain ⟨_,_,_,_,_,c13,c14,_,_,_⟩:=hP.cells
 have hlt:=hP.lt
 have HP:=hid hP
 have HR:=hid R
 have HF:=hid hF
 have HA:=hid hA
 have hk32:(k:Int)<32:=by omega
 have hk0:(0:Int)<=k:=by omega
 rw [hw] at c14
 clear hP R hF hw hA
 cases r
 case' true =>
  simp only [Bool.true_and] at hr
  rw [hr] at c13
  clear hr
 all_goals
  go_enter Tryz.func193,Tryz.ntmps193
  go_wp2_with (first
   | (go_at_call 230;refine HF.out.mono ?_;rintro e w1 ⟨rfl,hP1,hm1⟩;have hl1:=hP1.lt;have f1:=hP1.frozen 17;obtain ⟨_,_,_,_,_,_,_,_,_,e17⟩:=hP1.cells;have HY1:=hid hP1;clear hP1)
   | (go_at_call 231;refine (zeu k hk hk30 _ (HR.out.shapes (HY1.out.box HR.out _).inv)).mono ?_;rintro e w2 ⟨rfl,hb2⟩;obtain ⟨k2,g2⟩:=bcell hb2;have hP2:=(HY1.out.box HR.out _).kept HR.out hb2;have hl2:=hP2.lt;have f2:=hP2.frozen 17;obtain ⟨_,_,_,_,_,_,_,_,_,h17⟩:=hP2.cells;have z2:w1.heap.size<w2.heap.size:=by have:=hb2.size;simp at this;omega
      have o0:Hid (∀ u,p≠w1.heap.size->(w2.setCell ⟨p,17,none⟩ u).cell? ⟨w1.heap.size,0,none⟩=some (.int .i64 k)):=λu h=>(World.cell?_setCell_other _ _ _ _ (by simp)).trans ((k2 _ 0 (by simp)).trans (zav _ _ _ _ rfl))
      have o1:Hid (∀ u,p≠w1.heap.size->(w2.setCell ⟨p,17,none⟩ u).cell? ⟨w1.heap.size,1,none⟩=some (.int .i64 d)):=λu h=>(World.cell?_setCell_other _ _ _ _ (by simp)).trans ((k2 _ 1 (by simp)).trans (zav _ _ _ _ rfl))
      have o2:Hid (∀ u,p≠w1.heap.size->(w2.setCell ⟨p,17,none⟩ u).cell? ⟨w1.heap.size,2,none⟩=some (.int .i64 s)):=λu h=>(World.cell?_setCell_other _ _ _ _ (by simp)).trans ((k2 _ 2 (by simp)).trans (zav _ _ _ _ rfl))
      have o3:Hid (∀ u,p≠w1.heap.size->(w2.setCell ⟨p,17,none⟩ u).cell? ⟨w1.heap.size,3,none⟩=some (.int .i64 n)):=λu h=>(World.cell?_setCell_other _ _ _ _ (by simp)).trans ((k2 _ 3 (by simp)).trans (zav _ _ _ _ rfl))
      have o4:Hid (∀ u,p≠w1.heap.size->(w2.setCell ⟨p,17,none⟩ u).cell? ⟨w1.heap.size,4,none⟩=some (.int .i64 v)):=λu h=>(World.cell?_setCell_other _ _ _ _ (by simp)).trans ((k2 _ 4 (by simp)).trans (zav _ _ _ _ rfl))
      have HY2:=hid (hP2.putCyc HR.out (K.cyc k));have hne:p≠w1.heap.size:=by omega
      clear hP2))
  refine cutW (λW=>PI B nr nw cr cw I T W p ⟨y.c,y.s,K.cyc k⟩/\PM B T p x.s y.s w W/\w1.heap.size<W.heap.size/\W.cell? ⟨w1.heap.size,0,none⟩=some (.int .i64 k)/\W.cell? ⟨w1.heap.size,1,none⟩=some (.int .i64 d)/\W.cell? ⟨w1.heap.size,2,none⟩=some (.int .i64 s)/\W.cell? ⟨w1.heap.size,3,none⟩=some (.int .i64 n)/\W.cell? ⟨w1.heap.size,4,none⟩=some (.int .i64 v)) ⟨HY2.out,((hm1.alloc (HP.out.hB HR.out) _).kept ((HY1.out.box HR.out _).hB HR.out) hb2).set HP.out.big 17 _,by rw [zba];exact z2,o0.out _ hne,o1.out _ hne,o2.out _ hne,o3.out _ hne,o4.out _ hne⟩ ?_
  clear e17 f1 f2 h17 k2 g2 hl2 hl1 z2 hb2 hm1 HY2 HY1 c13 c14 hne
  rintro W ⟨hW,hmW,hzW,q0,q1,q2,q3,q4⟩
  have HW:=hid hW
  have HMW:=hid hmW
  clear hW hmW
  go_region_held3 (λw'=>w'.cell? ⟨w1.heap.size,0,none⟩=some (.int .i64 k))
   ((go_keep;done))
   ((go_at_call 232;refine (zg4 _).mono ?_;rintro e w3 ⟨b12,b13,b16,b17,b18,b19,b29,rfl,hX,hb3⟩;obtain ⟨k3,g3⟩:=bcell hb3;have z3:=Nat.lt_of_lt_of_le hzW hb3.size;have r0:=(k3 _ 0 hzW).trans q0;have r1:=(k3 _ 1 hzW).trans q1;have r2:=(k3 _ 2 hzW).trans q2;have r3:=(k3 _ 3 hzW).trans q3;have r4:=(k3 _ 4 hzW).trans q4;have HX:=hid hX;clear hX k3 g3))
  go_wp2_with (refine (HA.out _ b12 b13 b16 b17 b18 b19 b29 HX.out ?_).mono ?_;(exact HW.out.kept HR.out (stp (st0 W).drew hb3));rintro e w4 ⟨rfl,hP4,hm4⟩)
  go_end0
  exact ⟨rfl,hP4,(HMW.out.kept (HW.out.hB HR.out) (stp (st0 W).drew hb3)).trans hm4⟩
theorem zbn (R:RS m B nr nw cr cw I T) (k:Nat) (hk:k<32) (hk30:k≠30) (g:Nat) (hcf:∀ (a:Array Value) (w:World),(callFunc g a).run Tryz.prog w = .ok (.enter g a) w) (q:Nat->Nat->Nat->Nat->Nat->Nat->Nat->Nat)
 (hi:∀ (b12 b13 b16 b17 b18 b19 b29:Nat) (w:World),(Instr.index 320 (.agg (actsL b12 b13 b16 b17 b18 b19 b29)) (.int .i64 k)).run Tryz.prog w = .ok (fv g #[.pointer (some ⟨q b12 b13 b16 b17 b18 b19 b29,0,none⟩)]) w)
 (d s:Nat) (n v:Int) (r:Bool) (w:World) (p:Nat) (x y:C.St σ) (hP:PI B nr nw cr cw I T w p x) (hr:(r && x.c.May)=false) (hw:x.c.Waits=false)
 (hF:Calls Tryz.prog 230 #[.pointer (some ⟨p,0,none⟩)] w λe w'=>e = .returned (ordV k d s n v)/\PI B nr nw cr cw I T w' p y/\PM B T p x.s y.s w w')
 (hA:∀ (W:World) (b12 b13 b16 b17 b18 b19 b29:Nat),boxes W b12 b13 b16 b17 b18 b19 b29->PI B nr nw cr cw I T W p ⟨y.c,y.s,K.cyc k⟩->Calls Tryz.prog g #[.pointer (some ⟨p,0,none⟩),ordV k d s n v,.pointer (some ⟨q b12 b13 b16 b17 b18 b19 b29,0,none⟩)] W (AP B nr nw cr cw I T W p ⟨y.c,y.s,K.cyc k⟩ (C.act m ⟨y.c,y.s,K.cyc k⟩ k d s n v))) :
 Calls Tryz.prog 193 #[.pointer (some ⟨p,0,none⟩),.bool r] w (AP B nr nw cr cw I T w p x (C.act m ⟨y.c,y.s,K.cyc k⟩ k d s n v)):=by
 obtain ⟨_,_,_,_,_,c13,c14,_,_,_⟩:=hP.cells
 have hlt:=hP.lt
 have HP:=hid hP
 have HR:=hid R
 have HF:=hid hF
 have HA:=hid hA
 have hk32:(k:Int)<32:=by omega
 have hk0:(0:Int)<=k:=by omega
 rw [hw] at c14
 clear hP R hF hw hA
 cases r
 case' true =>
  simp only [Bool.true_and] at hr
  rw [hr] at c13
  clear hr
 all_goals
  go_enter Tryz.func193,Tryz.ntmps193
  go_wp2_with (first
   | (go_at_call 230;refine HF.out.mono ?_;rintro e w1 ⟨rfl,hP1,hm1⟩;have hl1:=hP1.lt;have f1:=hP1.frozen 17;obtain ⟨_,_,_,_,_,_,_,_,_,e17⟩:=hP1.cells;have HY1:=hid hP1;clear hP1)
   | (go_at_call 231;refine (zeu k hk hk30 _ (HR.out.shapes (HY1.out.box HR.out _).inv)).mono ?_;rintro e w2 ⟨rfl,hb2⟩;obtain ⟨k2,g2⟩:=bcell hb2;have hP2:=(HY1.out.box HR.out _).kept HR.out hb2;have hl2:=hP2.lt;have f2:=hP2.frozen 17;obtain ⟨_,_,_,_,_,_,_,_,_,h17⟩:=hP2.cells;have z2:w1.heap.size<w2.heap.size:=by have:=hb2.size;simp at this;omega
      have o0:Hid (∀ u,p≠w1.heap.size->(w2.setCell ⟨p,17,none⟩ u).cell? ⟨w1.heap.size,0,none⟩=some (.int .i64 k)):=λu h=>(World.cell?_setCell_other _ _ _ _ (by simp)).trans ((k2 _ 0 (by simp)).trans (zav _ _ _ _ rfl))
      have o1:Hid (∀ u,p≠w1.heap.size->(w2.setCell ⟨p,17,none⟩ u).cell? ⟨w1.heap.size,1,none⟩=some (.int .i64 d)):=λu h=>(World.cell?_setCell_other _ _ _ _ (by simp)).trans ((k2 _ 1 (by simp)).trans (zav _ _ _ _ rfl))
      have o2:Hid (∀ u,p≠w1.heap.size->(w2.setCell ⟨p,17,none⟩ u).cell? ⟨w1.heap.size,2,none⟩=some (.int .i64 s)):=λu h=>(World.cell?_setCell_other _ _ _ _ (by simp)).trans ((k2 _ 2 (by simp)).trans (zav _ _ _ _ rfl))
      have o3:Hid (∀ u,p≠w1.heap.size->(w2.setCell ⟨p,17,none⟩ u).cell? ⟨w1.heap.size,3,none⟩=some (.int .i64 n)):=λu h=>(World.cell?_setCell_other _ _ _ _ (by simp)).trans ((k2 _ 3 (by simp)).trans (zav _ _ _ _ rfl))
      have o4:Hid (∀ u,p≠w1.heap.size->(w2.setCell ⟨p,17,none⟩ u).cell? ⟨w1.heap.size,4,none⟩=some (.int .i64 v)):=λu h=>(World.cell?_setCell_other _ _ _ _ (by simp)).trans ((k2 _ 4 (by simp)).trans (zav _ _ _ _ rfl))
      have HY2:=hid (hP2.putCyc HR.out (K.cyc k));have hne:p≠w1.heap.size:=by omega
      clear hP2))
  refine cutW (λW=>PI B nr nw cr cw I T W p ⟨y.c,y.s,K.cyc k⟩/\PM B T p x.s y.s w W/\w1.heap.size<W.heap.size/\W.cell? ⟨w1.heap.size,0,none⟩=some (.int .i64 k)/\W.cell? ⟨w1.heap.size,1,none⟩=some (.int .i64 d)/\W.cell? ⟨w1.heap.size,2,none⟩=some (.int .i64 s)/\W.cell? ⟨w1.heap.size,3,none⟩=some (.int .i64 n)/\W.cell? ⟨w1.heap.size,4,none⟩=some (.int .i64 v)) ⟨HY2.out,((hm1.alloc (HP.out.hB HR.out) _).kept ((HY1.out.box HR.out _).hB HR.out) hb2).set HP.out.big 17 _,by rw [zba];exact z2,o0.out _ hne,o1.out _ hne,o2.out _ hne,o3.out _ hne,o4.out _ hne⟩ ?_
  clear e17 f1 f2 h17 k2 g2 hl2 hl1 z2 hb2 hm1 HY2 HY1 c13 c14 hne
  rintro W ⟨hW,hmW,hzW,q0,q1,q2,q3,q4⟩
  have HW:=hid hW
  have HMW:=hid hmW
  clear hW hmW
  go_region_held3 (λw'=>w'.cell? ⟨w1.heap.size,0,none⟩=some (.int .i64 k))
   ((go_keep;done))
   ((go_at_call 232;refine (zg4 _).mono ?_;rintro e w3 ⟨b12,b13,b16,b17,b18,b19,b29,rfl,hX,hb3⟩;obtain ⟨k3,g3⟩:=bcell hb3;have z3:=Nat.lt_of_lt_of_le hzW hb3.size;have r0:=(k3 _ 0 hzW).trans q0;have r1:=(k3 _ 1 hzW).trans q1;have r2:=(k3 _ 2 hzW).trans q2;have r3:=(k3 _ 3 hzW).trans q3;have r4:=(k3 _ 4 hzW).trans q4;have HX:=hid hX;clear hX k3 g3))
  go_wp2_with (refine (HA.out _ b12 b13 b16 b17 b18 b19 b29 HX.out ?_).mono ?_;(exact HW.out.kept HR.out (stp (st0 W).drew hb3));rintro e w4 ⟨rfl,hP4,hm4⟩)
  go_end0
  exact ⟨rfl,hP4,(HMW.out.kept (HW.out.hB HR.out) (stp (st0 W).drew hb3)).trans hm4⟩
end
theorem rk_bd (a:Int) (h:0<=a/\a<=65535):O.rk a<32/\O.rk a≠30/\O.rOp a=(O.rk a:Int):=by
 unfold O.rk O.rOp
 split <;> omega
theorem rD_bd (a:Int):0<=O.rD a/\O.rD a<=7:=by unfold O.rD;split <;> omega
theorem rS_bd (a:Int):0<=O.rS a/\O.rS a<=7:=by unfold O.rS;split <;> omega
theorem rN_bd (a:Int):-16<=O.rN a/\O.rN a<=15:=by
 unfold O.rN O.nOf
 split
 ·split
  ·omega
  ·split <;> omega
 ·omega
theorem rN_0 (a:Int) (h:O.rk a=12 \/ O.rk a=13):0<=O.rN a:=by
 unfold O.rN O.nOf
 split
 ·first|omega|(rw [if_pos h];omega)
 ·omega
theorem rW_bd (a b:Int) (h:0<=b/\b<=65535):0<=O.rW a b/\O.rW a b<=65535:=by unfold O.rW;split <;> omega
section
variable {σ : Type} {m : C.Mem σ} {B nr nw : Nat} {cr cw : Array Value × Array Value} {I : World -> σ -> Prop} {T : σ -> Nat -> Prop}
theorem zfl (R:RS m B nr nw cr cw I T) (c:C.Cpu) (s:σ):0<=C.word1 m c s/\C.word1 m c s<=65535:=R.word _ _
theorem zlB (R:RS m B nr nw cr cw I T) (c:C.Cpu) (s:σ):0<=C.word2 m c s/\C.word2 m c s<=65535:=by
 unfold C.word2
 split
 ·exact R.word _ _
 ·omega
theorem RS.fbehind (R:RS m B nr nw cr cw I T) (c:C.Cpu) (s:σ):m.fuel s<=m.fuel (C.behind m c s).s:=by
 unfold C.behind
 simp only
 split
 ·exact Nat.le_trans (R.frdw _ _) (R.frdw _ _)
 ·exact R.frdw _ _
theorem zhN (R:RS m B nr nw cr cw I T) (r:Bool) (w:World) (p:Nat) (x:C.St σ) (hfu:4<=m.fuel x.s) (hP:PI B nr nw cr cw I T w p x) (hr:(r && x.c.May)=false) (hw:x.c.Waits=false) :
 Calls Tryz.prog 193 #[.pointer (some ⟨p,0,none⟩),.bool r] w (AP B nr nw cr cw I T w p x (C.order m x.c x.s)):=by
 have hF:=zja R w p x hP
 have b1:=zfl R x.c x.s
 have b2:=zlB R x.c x.s
 unfold C.order
 generalize C.word1 m x.c x.s=a at hF b1 ⊢
 generalize C.word2 m x.c x.s=b at hF b2 ⊢
 have hfy:4<=m.fuel (C.behind m x.c x.s).s:=Nat.le_trans hfu (R.fbehind _ _)
 generalize C.behind m x.c x.s=y at hF hfy ⊢
 obtain ⟨h32,h30,hop⟩:=rk_bd a b1
 have hd:=rD_bd a
 have hs:=rS_bd a
 have hn:=rN_bd a
 have hv:=rW_bd a b b2
 have hn0:=rN_0 a
 unfold orderV at hF
 rw [hop] at hF
 generalize O.rk a=k at *
 generalize O.rN a=n at *
 generalize O.rW a b=v at *
 obtain ⟨d,ed⟩:=Int.eq_ofNat_of_zero_le hd.1
 obtain ⟨s,es⟩:=Int.eq_ofNat_of_zero_le hs.1
 rw [ed,es] at hF
 rw [ed] at hd
 rw [es] at hs
 rw [ed,es]
 have hd':d<8:=by omega
 have hs':s<8:=by omega
 clear hop
 have hk:k=0 \/ k=1 \/ k=2 \/ k=3 \/ k=4 \/ k=5 \/ k=6 \/ k=7 \/ k=8 \/ k=9 \/ k=10 \/ k=11 \/ k=12 \/ k=13 \/ k=14 \/ k=15 \/ k=16 \/ k=17 \/ k=18 \/ k=19 \/ k=20 \/ k=21 \/ k=22 \/ k=23 \/ k=24 \/ k=25 \/ k=26 \/ k=27 \/ k=28 \/ k=29 \/ k=31:=by omega
 rcases hk with rfl|rfl|rfl|rfl|rfl|rfl|rfl|rfl|rfl|rfl|rfl|rfl|rfl|rfl|rfl|rfl|rfl|rfl|rfl|rfl|rfl|rfl|rfl|rfl|rfl|rfl|rfl|rfl|rfl|rfl|rfl
 ·exact zap R 0 (by decide) (by decide) 261 (λ_ _=>rfl) zlr d s n v r w p x ⟨y.c,y.s,x.n⟩ hP hr hw hF (λW b12 b13 b16 b17 b18 b19 b29 hB h=>act_0 R d s n v hd' hs' hv.1 hv.2 W p _ h)
 ·exact zap R 1 (by decide) (by decide) 262 (λ_ _=>rfl) zls d s n v r w p x ⟨y.c,y.s,x.n⟩ hP hr hw hF (λW b12 b13 b16 b17 b18 b19 b29 hB h=>act_1 R d s n v hd' hs' hv.1 hv.2 W p _ h)
 ·exact zap R 2 (by decide) (by decide) 263 (λ_ _=>rfl) zlt d s n v r w p x ⟨y.c,y.s,x.n⟩ hP hr hw hF (λW b12 b13 b16 b17 b18 b19 b29 hB h=>act_2 R d s n v hd' hs' hv.1 hv.2 W p _ h)
 ·exact zap R 3 (by decide) (by decide) 264 (λ_ _=>rfl) zlu d s n v r w p x ⟨y.c,y.s,x.n⟩ hP hr hw hF (λW b12 b13 b16 b17 b18 b19 b29 hB h=>act_3 R d s n v hd' hs' hv.1 hv.2 W p _ h)
 ·exact zap R 4 (by decide) (by decide) 266 (λ_ _=>rfl) zlv d s n v r w p x ⟨y.c,y.s,x.n⟩ hP hr hw hF (λW b12 b13 b16 b17 b18 b19 b29 hB h=>act_4 R d s n v hd' hs' hv.1 hv.2 W p _ (Nat.le_trans (by decide) hfy) h)
 ·exact zap R 5 (by decide) (by decide) 268 (λ_ _=>rfl) zlw d s n v r w p x ⟨y.c,y.s,x.n⟩ hP hr hw hF (λW b12 b13 b16 b17 b18 b19 b29 hB h=>act_5 R d s n v hd' hs' hv.1 hv.2 W p _ h)
 ·exact zap R 6 (by decide) (by decide) 269 (λ_ _=>rfl) zlx d s n v r w p x ⟨y.c,y.s,x.n⟩ hP hr hw hF (λW b12 b13 b16 b17 b18 b19 b29 hB h=>act_6 R d s n v hd' hs' hv.1 hv.2 W p _ (Nat.le_trans (by decide) hfy) h)
 ·exact zap R 7 (by decide) (by decide) 271 (λ_ _=>rfl) zly d s n v r w p x ⟨y.c,y.s,x.n⟩ hP hr hw hF (λW b12 b13 b16 b17 b18 b19 b29 hB h=>zb0 R 7 (by unfold isFl;omega) d s n v hd' hs' hn W p _ h)
 ·exact zap R 8 (by decide) (by decide) 271 (λ_ _=>rfl) zlz d s n v r w p x ⟨y.c,y.s,x.n⟩ hP hr hw hF (λW b12 b13 b16 b17 b18 b19 b29 hB h=>zb0 R 8 (by unfold isFl;omega) d s n v hd' hs' hn W p _ h)
 ·exact zap R 9 (by decide) (by decide) 271 (λ_ _=>rfl) zlA d s n v r w p x ⟨y.c,y.s,x.n⟩ hP hr hw hF (λW b12 b13 b16 b17 b18 b19 b29 hB h=>zb0 R 9 (by unfold isFl;omega) d s n v hd' hs' hn W p _ h)
 ·exact zap R 10 (by decide) (by decide) 271 (λ_ _=>rfl) zjb d s n v r w p x ⟨y.c,y.s,x.n⟩ hP hr hw hF (λW b12 b13 b16 b17 b18 b19 b29 hB h=>zb0 R 10 (by unfold isFl;omega) d s n v hd' hs' hn W p _ h)
 ·exact zap R 11 (by decide) (by decide) 271 (λ_ _=>rfl) zjc d s n v r w p x ⟨y.c,y.s,x.n⟩ hP hr hw hF (λW b12 b13 b16 b17 b18 b19 b29 hB h=>zb0 R 11 (by unfold isFl;omega) d s n v hd' hs' hn W p _ h)
 ·exact zbn R 12 (by decide) (by decide) 316 (λ_ _=>rfl) (λb12 b13 b16 b17 b18 b19 b29=>b12) zjd d s n v r w p x ⟨y.c,y.s,x.n⟩ hP hr hw hF (λW b12 b13 b16 b17 b18 b19 b29 hB h=>zoV R d s n v hd' hs' (hn0 (by decide)) hn.2 b12 W p _ h hB.1)
 ·exact zbn R 13 (by decide) (by decide) 316 (λ_ _=>rfl) (λb12 b13 b16 b17 b18 b19 b29=>b13) zje d s n v r w p x ⟨y.c,y.s,x.n⟩ hP hr hw hF (λW b12 b13 b16 b17 b18 b19 b29 hB h=>zoW R d s n v hd' hs' (hn0 (by decide)) hn.2 b13 W p _ h hB.2.1)
 ·exact zap R 14 (by decide) (by decide) 275 (λ_ _=>rfl) zjf d s n v r w p x ⟨y.c,y.s,x.n⟩ hP hr hw hF (λW b12 b13 b16 b17 b18 b19 b29 hB h=>zoK R d s n v hd' hs' hn W p _ h)
 ·exact zap R 15 (by decide) (by decide) 277 (λ_ _=>rfl) zjg d s n v r w p x ⟨y.c,y.s,x.n⟩ hP hr hw hF (λW b12 b13 b16 b17 b18 b19 b29 hB h=>zoL R d s n v hd' hs' hn W p _ h)
 ·exact zbn R 16 (by decide) (by decide) 320 (λ_ _=>rfl) (λb12 b13 b16 b17 b18 b19 b29=>b16) zjh d s n v r w p x ⟨y.c,y.s,x.n⟩ hP hr hw hF (λW b12 b13 b16 b17 b18 b19 b29 hB h=>znt R d s n v hv.1 hv.2 b16 W p _ (show (0:Int)<=K.cyc 16 by decide +kernel) (show K.cyc 16<=100 by decide +kernel) h hB.2.2.1)
 ·exact zbn R 17 (by decide) (by decide) 320 (λ_ _=>rfl) (λb12 b13 b16 b17 b18 b19 b29=>b17) zji d s n v r w p x ⟨y.c,y.s,x.n⟩ hP hr hw hF (λW b12 b13 b16 b17 b18 b19 b29 hB h=>znu R d s n v hv.1 hv.2 b17 W p _ (show (0:Int)<=K.cyc 17 by decide +kernel) (show K.cyc 17<=100 by decide +kernel) h hB.2.2.2.1)
 ·exact zbn R 18 (by decide) (by decide) 320 (λ_ _=>rfl) (λb12 b13 b16 b17 b18 b19 b29=>b18) zjj d s n v r w p x ⟨y.c,y.s,x.n⟩ hP hr hw hF (λW b12 b13 b16 b17 b18 b19 b29 hB h=>znv R d s n v hv.1 hv.2 b18 W p _ (show (0:Int)<=K.cyc 18 by decide +kernel) (show K.cyc 18<=100 by decide +kernel) h hB.2.2.2.2.1)
 ·exact zbn R 19 (by decide) (by decide) 320 (λ_ _=>rfl) (λb12 b13 b16 b17 b18 b19 b29=>b19) zjk d s n v r w p x ⟨y.c,y.s,x.n⟩ hP hr hw hF (λW b12 b13 b16 b17 b18 b19 b29 hB h=>znw R d s n v hv.1 hv.2 b19 W p _ (show (0:Int)<=K.cyc 19 by decide +kernel) (show K.cyc 19<=100 by decide +kernel) h hB.2.2.2.2.2.1)
 ·exact zap R 20 (by decide) (by decide) 283 (λ_ _=>rfl) zjl d s n v r w p x ⟨y.c,y.s,x.n⟩ hP hr hw hF (λW b12 b13 b16 b17 b18 b19 b29 hB h=>zoM R d s n v hd' hs' hv.1 hv.2 W p _ (Nat.le_trans (by decide) hfy) h)
 ·exact zap R 21 (by decide) (by decide) 284 (λ_ _=>rfl) zjm d s n v r w p x ⟨y.c,y.s,x.n⟩ hP hr hw hF (λW b12 b13 b16 b17 b18 b19 b29 hB h=>zoN R d s n v hd' hs' hv.1 hv.2 W p _ h)
 ·exact zap R 22 (by decide) (by decide) 286 (λ_ _=>rfl) zjn d s n v r w p x ⟨y.c,y.s,x.n⟩ hP hr hw hF (λW b12 b13 b16 b17 b18 b19 b29 hB h=>zoO R d s n v hd' hs' hv.1 hv.2 W p _ (Nat.le_trans (by decide) hfy) h)
 ·exact zap R 23 (by decide) (by decide) 287 (λ_ _=>rfl) zjo d s n v r w p x ⟨y.c,y.s,x.n⟩ hP hr hw hF (λW b12 b13 b16 b17 b18 b19 b29 hB h=>zoP R d s n v hd' hs' hv.1 hv.2 W p _ h)
 ·exact zap R 24 (by decide) (by decide) 288 (λ_ _=>rfl) zjp d s n v r w p x ⟨y.c,y.s,x.n⟩ hP hr hw hF (λW b12 b13 b16 b17 b18 b19 b29 hB h=>zoQ R d s n v hd' hs' hv.1 hv.2 W p _ h)
 ·exact zap R 25 (by decide) (by decide) 289 (λ_ _=>rfl) zjq d s n v r w p x ⟨y.c,y.s,x.n⟩ hP hr hw hF (λW b12 b13 b16 b17 b18 b19 b29 hB h=>zoR R d s n v hd' hs' hv.1 hv.2 W p _ h)
 ·exact zap R 26 (by decide) (by decide) 290 (λ_ _=>rfl) zjr d s n v r w p x ⟨y.c,y.s,x.n⟩ hP hr hw hF (λW b12 b13 b16 b17 b18 b19 b29 hB h=>zoT R d s n v hd' hs' hv.1 hv.2 W p _ h)
 ·exact zap R 27 (by decide) (by decide) 292 (λ_ _=>rfl) zjs d s n v r w p x ⟨y.c,y.s,x.n⟩ hP hr hw hF (λW b12 b13 b16 b17 b18 b19 b29 hB h=>zoS R d s n v hd' hs' hv.1 hv.2 W p _ h)
 ·exact zap R 28 (by decide) (by decide) 271 (λ_ _=>rfl) zjt d s n v r w p x ⟨y.c,y.s,x.n⟩ hP hr hw hF (λW b12 b13 b16 b17 b18 b19 b29 hB h=>zb0 R 28 (by unfold isFl;omega) d s n v hd' hs' hn W p _ h)
 ·exact zbn R 29 (by decide) (by decide) 320 (λ_ _=>rfl) (λb12 b13 b16 b17 b18 b19 b29=>b29) zju d s n v r w p x ⟨y.c,y.s,x.n⟩ hP hr hw hF (λW b12 b13 b16 b17 b18 b19 b29 hB h=>znx R d s n v hv.1 hv.2 b29 W p _ (show (0:Int)<=K.cyc 29 by decide +kernel) (show K.cyc 29<=100 by decide +kernel) h hB.2.2.2.2.2.2)
 ·exact zap R 31 (by decide) (by decide) 294 (λ_ _=>rfl) zjv d s n v r w p x ⟨y.c,y.s,x.n⟩ hP hr hw hF (λW b12 b13 b16 b17 b18 b19 b29 hB h=>zoU R d s n v hd' hs' hv.1 hv.2 W p _ (Nat.le_trans (by decide) hfy) h)
theorem zhO (R:RS m B nr nw cr cw I T) (w:World) (p:Nat) (x:C.St σ) (hfu:4<=m.fuel x.s) (hP:PI B nr nw cr cw I T w p x) (hm:x.c.May=true) :
 Calls Tryz.prog 193 #[.pointer (some ⟨p,0,none⟩),.bool true] w (AP B nr nw cr cw I T w p x { C.leave m x 2 with n:=6 }):=by
 obtain ⟨_,_,_,_,_,c13,c14,_,_,_⟩:=hP.cells
 have hlt:=hP.lt
 rw [hm] at c13
 have HP:=hid hP
 have HR:=hid R
 have HFU:=hid hfu
 clear hP R hm hfu
 go_enter Tryz.func193,Tryz.ntmps193
 go_wp2_with (go_at_call 229;refine (zfR HR.out 2 (by omega) (by omega) _ p x HFU.out HP.out).mono ?_;rintro e w1 ⟨rfl,hP1,hm1⟩;have hl1:=hP1.lt;have f1:=hP1.frozen 17;obtain ⟨_,_,_,_,_,_,_,_,_,e17⟩:=hP1.cells;have HY1:=hid hP1;clear hP1)
 go_end0
 exact ⟨rfl,HY1.out.putCyc HR.out 6,PM.set hm1 HP.out.big 17 _⟩
theorem zjw (R:RS m B nr nw cr cw I T) (r:Bool) (w:World) (p:Nat) (x:C.St σ) (hP:PI B nr nw cr cw I T w p x) (hr:(r && x.c.May)=false) (hw:x.c.Waits=true) :
 Calls Tryz.prog 193 #[.pointer (some ⟨p,0,none⟩),.bool r] w (AP B nr nw cr cw I T w p x ⟨x.c,x.s,1⟩):=by
 obtain ⟨_,_,_,_,_,c13,c14,_,_,c17⟩:=hP.cells
 have hlt:=hP.lt
 have hf:=hP.frozen 17
 rw [hw] at c14
 have HP:=hid hP
 have HR:=hid R
 clear hP R hw
 cases r
 ·go_enter Tryz.func193,Tryz.ntmps193
  go_wp2
  go_end0
  exact ⟨rfl,HP.out.putCyc HR.out 1,(PM.refl B T p x.s w).set HP.out.big 17 _⟩
 ·simp only [Bool.true_and] at hr
  rw [hr] at c13
  clear hr
  go_enter Tryz.func193,Tryz.ntmps193
  go_wp2
  go_end0
  exact ⟨rfl,HP.out.putCyc HR.out 1,(PM.refl B T p x.s w).set HP.out.big 17 _⟩
theorem zlC (R:RS m B nr nw cr cw I T) (r:Bool) (w:World) (p:Nat) (c:C.Cpu) (s:σ) (hfu:4<=m.fuel s) (hP:PI B nr nw cr cw I T w p ⟨c,s,0⟩) :
 Calls Tryz.prog 193 #[.pointer (some ⟨p,0,none⟩),.bool r] w (AP B nr nw cr cw I T w p ⟨c,s,0⟩ (C.step m c s r)):=by
 unfold C.step
 cases hr:r && c.May
 ·rw [if_neg (by simp)]
  cases hw:c.Waits
  ·rw [if_neg (by simp)];exact zhN R r w p ⟨c,s,0⟩ hfu hP hr hw
  ·rw [if_pos rfl];exact zjw R r w p ⟨c,s,0⟩ hP hr hw
 ·rw [if_pos rfl]
  obtain ⟨h1,h2⟩:=Bool.and_eq_true_iff.1 hr
  subst h1
  exact zhO R w p ⟨c,s,0⟩ hfu hP h2
end
end Go.Proofs.YtbennamieealbaaGreatDoor
