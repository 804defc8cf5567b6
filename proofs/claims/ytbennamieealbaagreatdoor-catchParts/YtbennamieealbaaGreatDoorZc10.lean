/-
  Parts of a proof, joined.
-/
import Derived.Test.YtbennamieealbaaGreatDoorZc09
set_option linter.unusedVariables false
set_option maxRecDepth 100000
set_option maxHeartbeats 1600000
namespace Go.Proofs.YtbennamieealbaaGreatDoor
open Go.ChangeShapes Go.WideShapes Go.ChangeAt Go.RowKit
section
variable {σ : Type} {m : C.Mem σ} {B nr nw : Nat} {cr cw : Array Value × Array Value} {I : World -> σ -> Prop} {T : σ -> Nat -> Prop}
theorem zcc (R:RS m B nr nw cr cw I T) (k:Nat) (hk:isFl k) (d s:Nat) (n v:Int) (hd:d<8) (hs:s<8) (hn:-16<=n/\n<=15) (w:World) (p:Nat) (x:C.St σ) (hP:PI B nr nw cr cw I T w p x) :
 Calls Tryz.prog 271 #[.pointer (some ⟨p,0,none⟩),ordV k d s n v] w (AP B nr nw cr cw I T w p x (C.both x k d s)):=by
 have hlt:=hP.lt
 have hne:p≠w.heap.size:=by omega
 have hlt1:p<w.heap.size+1:=by omega
 have hd0:(0:Int)<=d:=by omega
 have hd8:(d:Int)<8:=by omega
 have hs0:(0:Int)<=s:=by omega
 have hs8:(s:Int)<8:=by omega
 have cd:=hP.reg d hd
 have cs:=hP.reg s hs
 have rd:=C.Cpu.r_bd hP.ok d
 have rs:=C.Cpu.r_bd hP.ok s
 have HP:=hid hP
 have HR:=hid R
 have HB:=hid (hP.box R (.cells #[.int .i64 ((k:Nat):Int),.int .i64 d,.int .i64 s,.int .i64 n,.int .i64 v] 225))
 have HM:=hid (PM.box R hP (.cells #[.int .i64 ((k:Nat):Int),.int .i64 d,.int .i64 s,.int .i64 n,.int .i64 v] 225))
 have HS:Hid (∀ (W:World) (u:Value),(W.cell? ⟨w.heap.size,0,none⟩=some (.int .i64 k)/\W.cell? ⟨w.heap.size,1,none⟩=some (.int .i64 d)/\W.cell? ⟨w.heap.size,2,none⟩=some (.int .i64 s)/\W.cell? ⟨w.heap.size,3,none⟩=some (.int .i64 n)/\W.cell? ⟨w.heap.size,4,none⟩=some (.int .i64 v))->((W.setCell ⟨p,d,none⟩ u).cell? ⟨w.heap.size,0,none⟩=some (.int .i64 k)/\(W.setCell ⟨p,d,none⟩ u).cell? ⟨w.heap.size,1,none⟩=some (.int .i64 d)/\(W.setCell ⟨p,d,none⟩ u).cell? ⟨w.heap.size,2,none⟩=some (.int .i64 s)/\(W.setCell ⟨p,d,none⟩ u).cell? ⟨w.heap.size,3,none⟩=some (.int .i64 n)/\(W.setCell ⟨p,d,none⟩ u).cell? ⟨w.heap.size,4,none⟩=some (.int .i64 v))):=by
  rintro W u ⟨h1,h2,h3,h4,h5⟩
  exact ⟨(World.cell?_setCell_other _ _ _ _ (by simp <;> omega)).trans h1,(World.cell?_setCell_other _ _ _ _ (by simp <;> omega)).trans h2,(World.cell?_setCell_other _ _ _ _ (by simp <;> omega)).trans h3,(World.cell?_setCell_other _ _ _ _ (by simp <;> omega)).trans h4,(World.cell?_setCell_other _ _ _ _ (by simp <;> omega)).trans h5⟩
 clear hP R
 go_enter Tryz.func271,Tryz.ntmps271
 go_wp2
 go_region_with ((go_at_call 276;refine (zc5 HR.out k d s n v (x.c.r s) hk hd rs.1 rs.2 _ p x ?_).mono ?_;(exact HB.out.same HR.out rfl);rintro e w2 ⟨rfl,hP2,hm2⟩;obtain ⟨hz2,hq2⟩:=HP.out.boxS HR.out hm2 rfl;have cs2:w2.cell? ⟨p,s,none⟩=some (.int .u16 (x.c.r s)):=hP2.reg s hs;have cd2:=hP2.reg d hd;have f2:=hP2.frozen d;have z2:=hP2.lt;have HRP:=hid hP2;clear hP2))
 all_goals go_wp2
 all_goals go_end0
 all_goals exact ⟨rfl,((HRP.out.putR HR.out d hd _ (zi2 k hk _ _ rd.1 rd.2 rs.1 rs.2).1 (zi2 k hk _ _ rd.1 rd.2 rs.1 rs.2).2)).same HR.out rfl,((HM.out.drew.trans hm2).set HP.out.big d _)⟩
theorem zrG (R:RS m B nr nw cr cw I T) (d s:Nat) (n v:Int) (hd:d<8) (hs:s<8) (hn:-16<=n/\n<=15) (w:World) (p:Nat) (x:C.St σ) (hP:PI B nr nw cr cw I T w p x) :
 Calls Tryz.prog 275 #[.pointer (some ⟨p,0,none⟩),ordV 14 d s n v] w (AP B nr nw cr cw I T w p x (C.act m x 14 d s n v)):=by
 have hlt:=hP.lt
 have hne:p≠w.heap.size:=by omega
 have hlt1:p<w.heap.size+1:=by omega
 have hd0:(0:Int)<=d:=by omega
 have hd8:(d:Int)<8:=by omega
 have hs0:(0:Int)<=s:=by omega
 have hs8:(s:Int)<8:=by omega
 have cd:=hP.reg d hd
 have cs:=hP.reg s hs
 have rd:=C.Cpu.r_bd hP.ok d
 have rs:=C.Cpu.r_bd hP.ok s
 have HP:=hid hP
 have HR:=hid R
 have HB:=hid (hP.box R (.cells #[.int .i64 ((14:Nat):Int),.int .i64 d,.int .i64 s,.int .i64 n,.int .i64 v] 225))
 have HM:=hid (PM.box R hP (.cells #[.int .i64 ((14:Nat):Int),.int .i64 d,.int .i64 s,.int .i64 n,.int .i64 v] 225))
 have hk:isFl 14:=Or.inr (Or.inr (Or.inr (Or.inl rfl)))
 clear hP R
 go_enter Tryz.func275,Tryz.ntmps275
 go_wp2
 go_region_held3 (λw'=>w'.cell? ⟨w.heap.size,0,none⟩=some (.int .i64 14)/\w'.cell? ⟨w.heap.size,1,none⟩=some (.int .i64 d)/\w'.cell? ⟨w.heap.size,2,none⟩=some (.int .i64 s)/\w'.cell? ⟨w.heap.size,3,none⟩=some (.int .i64 n)/\w'.cell? ⟨w.heap.size,4,none⟩=some (.int .i64 v)/\w'.cell? ⟨p,s,none⟩=some (.int .u16 (x.c.r s)))
  ((go_keep;done))
  ((go_at_call 276;refine (zc5 HR.out 14 d s n v (x.c.r s) hk hd rs.1 rs.2 _ p x ?_).mono ?_;(exact HB.out.same HR.out rfl);rintro e w2 ⟨rfl,hP2,hm2⟩;obtain ⟨hz2,hq2⟩:=HP.out.boxS HR.out hm2 rfl;have cs2:w2.cell? ⟨p,s,none⟩=some (.int .u16 (x.c.r s)):=hP2.reg s hs;have cd2:=hP2.reg d hd;have f2:=hP2.frozen d;have z2:=hP2.lt;have HRP:=hid hP2;clear hP2))
 go_wp2
 go_end0
 exact ⟨rfl,HRP.out.same HR.out rfl,HM.out.drew.trans hm2⟩
theorem zrH (R:RS m B nr nw cr cw I T) (d s:Nat) (n v:Int) (hd:d<8) (hs:s<8) (hn:-16<=n/\n<=15) (w:World) (p:Nat) (x:C.St σ) (hP:PI B nr nw cr cw I T w p x) :
 Calls Tryz.prog 277 #[.pointer (some ⟨p,0,none⟩),ordV 15 d s n v] w (AP B nr nw cr cw I T w p x (C.act m x 15 d s n v)):=by
 have hlt:=hP.lt
 have hne:p≠w.heap.size:=by omega
 have hlt1:p<w.heap.size+1:=by omega
 have hd0:(0:Int)<=d:=by omega
 have hd8:(d:Int)<8:=by omega
 have hs0:(0:Int)<=s:=by omega
 have hs8:(s:Int)<8:=by omega
 have cd:=hP.reg d hd
 have cs:=hP.reg s hs
 have rd:=C.Cpu.r_bd hP.ok d
 have rs:=C.Cpu.r_bd hP.ok s
 have HP:=hid hP
 have HR:=hid R
 have HB:=hid (hP.box R (.cells #[.int .i64 ((15:Nat):Int),.int .i64 d,.int .i64 s,.int .i64 n,.int .i64 v] 225))
 have HM:=hid (PM.box R hP (.cells #[.int .i64 ((15:Nat):Int),.int .i64 d,.int .i64 s,.int .i64 n,.int .i64 v] 225))
 have hk:isFl 15:=Or.inr (Or.inl rfl)
 have hw:=u16w n
 have hnw:0<=n%65536/\n%65536<=65535:=by omega
 have HS:Hid (∀ (W:World) (u:Value),(W.cell? ⟨w.heap.size,0,none⟩=some (.int .i64 15)/\W.cell? ⟨w.heap.size,1,none⟩=some (.int .i64 d)/\W.cell? ⟨w.heap.size,2,none⟩=some (.int .i64 s)/\W.cell? ⟨w.heap.size,3,none⟩=some (.int .i64 n)/\W.cell? ⟨w.heap.size,4,none⟩=some (.int .i64 v))->((W.setCell ⟨p,d,none⟩ u).cell? ⟨w.heap.size,0,none⟩=some (.int .i64 15)/\(W.setCell ⟨p,d,none⟩ u).cell? ⟨w.heap.size,1,none⟩=some (.int .i64 d)/\(W.setCell ⟨p,d,none⟩ u).cell? ⟨w.heap.size,2,none⟩=some (.int .i64 s)/\(W.setCell ⟨p,d,none⟩ u).cell? ⟨w.heap.size,3,none⟩=some (.int .i64 n)/\(W.setCell ⟨p,d,none⟩ u).cell? ⟨w.heap.size,4,none⟩=some (.int .i64 v))):=by
  rintro W u ⟨h1,h2,h3,h4,h5⟩
  exact ⟨(World.cell?_setCell_other _ _ _ _ (by simp <;> omega)).trans h1,(World.cell?_setCell_other _ _ _ _ (by simp <;> omega)).trans h2,(World.cell?_setCell_other _ _ _ _ (by simp <;> omega)).trans h3,(World.cell?_setCell_other _ _ _ _ (by simp <;> omega)).trans h4,(World.cell?_setCell_other _ _ _ _ (by simp <;> omega)).trans h5⟩
 clear hP R
 go_enter Tryz.func277,Tryz.ntmps277
 go_wp2
 go_region_held3 (λw'=>w'.cell? ⟨w.heap.size,0,none⟩=some (.int .i64 15)/\w'.cell? ⟨w.heap.size,1,none⟩=some (.int .i64 d)/\w'.cell? ⟨w.heap.size,2,none⟩=some (.int .i64 s)/\w'.cell? ⟨w.heap.size,3,none⟩=some (.int .i64 n)/\w'.cell? ⟨w.heap.size,4,none⟩=some (.int .i64 v))
  (first|(go_keep;done)|exact HS.out _ _ (by assumption))
  ((go_at_call 276;refine (zc5 HR.out 15 d s n v (n%65536) hk hd hnw.1 hnw.2 _ p x ?_).mono ?_;(exact HB.out.same HR.out rfl);rintro e w2 ⟨rfl,hP2,hm2⟩;obtain ⟨hz2,hq2⟩:=HP.out.boxS HR.out hm2 rfl;have cs2:w2.cell? ⟨p,s,none⟩=some (.int .u16 (x.c.r s)):=hP2.reg s hs;have cd2:=hP2.reg d hd;have f2:=hP2.frozen d;have z2:=hP2.lt;have HRP:=hid hP2;clear hP2))
 go_wp2
 go_end0
 exact ⟨rfl,((HRP.out.putR HR.out d hd _ (zi2 15 hk _ _ rd.1 rd.2 hnw.1 hnw.2).1 (zi2 15 hk _ _ rd.1 rd.2 hnw.1 hnw.2).2)).same HR.out rfl,((HM.out.drew.trans hm2).set HP.out.big d _)⟩
theorem zrI (R:RS m B nr nw cr cw I T) (d s:Nat) (n v:Int) (hd:d<8) (hs:s<8) (hv:0<=v) (hv':v<=65535) (w:World) (p:Nat) (x:C.St σ) (hfu:2<=m.fuel x.s) (hP:PI B nr nw cr cw I T w p x) :
 Calls Tryz.prog 283 #[.pointer (some ⟨p,0,none⟩),ordV 20 d s n v] w (AP B nr nw cr cw I T w p x (C.act m x 20 d s n v)):=by
 have hlt:=hP.lt
 have hne:p≠w.heap.size:=by omega
 have hlt1:p<w.heap.size+1:=by omega
 have hd0:(0:Int)<=d:=by omega
 have hd8:(d:Int)<8:=by omega
 have hs0:(0:Int)<=s:=by omega
 have hs8:(s:Int)<8:=by omega
 have cd:=hP.reg d hd
 have cs:=hP.reg s hs
 have rd:=C.Cpu.r_bd hP.ok d
 have rs:=C.Cpu.r_bd hP.ok s
 have HP:=hid hP
 have HR:=hid R
 have HB:=hid (hP.box R (.cells #[.int .i64 ((20:Nat):Int),.int .i64 d,.int .i64 s,.int .i64 n,.int .i64 v] 225))
 have HM:=hid (PM.box R hP (.cells #[.int .i64 ((20:Nat):Int),.int .i64 d,.int .i64 s,.int .i64 n,.int .i64 v] 225))
 obtain ⟨c8,_,_,_,_,_,_,c15,c16,_⟩:=hP.cells
 have hw:IntKind.u16.wrap v=v:=by rw [u16w];omega
 have HK:=hid hP.ok
 have HFU:=hid hfu
 clear hfu
 clear hP R
 go_enter Tryz.func283,Tryz.ntmps283
 go_wp2_with (go_at_call 256;refine (zdz HR.out x.c.PC HK.out.2.2.1 HK.out.2.2.2 _ p x HFU.out ?_).mono ?_;(exact HB.out);rintro e w2 ⟨rfl,hP2,hm2⟩;obtain ⟨hz2,hq2⟩:=HP.out.boxS HR.out hm2 rfl;have q4:=hq2 4;have f2:=hP2.frozen 8;have z2:=hP2.lt;obtain ⟨e8,_,_,_,_,_,_,_,_,_⟩:=hP2.cells;have HRP:=hid hP2;clear hP2)
 go_end0
 exact ⟨rfl,HRP.out.putPC HR.out v hv hv',(HM.out.trans hm2).set HP.out.big 8 _⟩
theorem zrJ (R:RS m B nr nw cr cw I T) (d s:Nat) (n v:Int) (hd:d<8) (hs:s<8) (hv:0<=v) (hv':v<=65535) (w:World) (p:Nat) (x:C.St σ) (hP:PI B nr nw cr cw I T w p x) :
 Calls Tryz.prog 284 #[.pointer (some ⟨p,0,none⟩),ordV 21 d s n v] w (AP B nr nw cr cw I T w p x (C.act m x 21 d s n v)):=by
 have hlt:=hP.lt
 have hne:p≠w.heap.size:=by omega
 have hlt1:p<w.heap.size+1:=by omega
 have hd0:(0:Int)<=d:=by omega
 have hd8:(d:Int)<8:=by omega
 have hs0:(0:Int)<=s:=by omega
 have hs8:(s:Int)<8:=by omega
 have cd:=hP.reg d hd
 have cs:=hP.reg s hs
 have rd:=C.Cpu.r_bd hP.ok d
 have rs:=C.Cpu.r_bd hP.ok s
 have HP:=hid hP
 have HR:=hid R
 have HB:=hid (hP.box R (.cells #[.int .i64 ((21:Nat):Int),.int .i64 d,.int .i64 s,.int .i64 n,.int .i64 v] 225))
 have HM:=hid (PM.box R hP (.cells #[.int .i64 ((21:Nat):Int),.int .i64 d,.int .i64 s,.int .i64 n,.int .i64 v] 225))
 clear hP R
 go_enter Tryz.func284,Tryz.ntmps284
 go_wp2_with (go_at_call 285;refine (zf9 HR.out _ p x ?_).mono ?_;(exact HB.out);rintro e w2 ⟨rfl,hP2,hm2⟩;have f2:=hP2.frozen 8;have z2:=hP2.lt;obtain ⟨e8,_,_,_,_,_,_,_,_,_⟩:=hP2.cells;have HRP:=hid hP2;clear hP2)
 go_end0
 exact ⟨rfl,HRP.out.putPC HR.out _ (HR.out.word _ _).1 (HR.out.word _ _).2,(HM.out.trans hm2).set HP.out.big 8 _⟩
theorem zrK (R:RS m B nr nw cr cw I T) (d s:Nat) (n v:Int) (hd:d<8) (hs:s<8) (hv:0<=v) (hv':v<=65535) (w:World) (p:Nat) (x:C.St σ) (hfu:2<=m.fuel x.s) (hP:PI B nr nw cr cw I T w p x) :
 Calls Tryz.prog 286 #[.pointer (some ⟨p,0,none⟩),ordV 22 d s n v] w (AP B nr nw cr cw I T w p x (C.act m x 22 d s n v)):=by
 have hlt:=hP.lt
 have hne:p≠w.heap.size:=by omega
 have hlt1:p<w.heap.size+1:=by omega
 have hd0:(0:Int)<=d:=by omega
 have hd8:(d:Int)<8:=by omega
 have hs0:(0:Int)<=s:=by omega
 have hs8:(s:Int)<8:=by omega
 have cd:=hP.reg d hd
 have cs:=hP.reg s hs
 have rd:=C.Cpu.r_bd hP.ok d
 have rs:=C.Cpu.r_bd hP.ok s
 have HP:=hid hP
 have HR:=hid R
 have HB:=hid (hP.box R (.cells #[.int .i64 ((22:Nat):Int),.int .i64 d,.int .i64 s,.int .i64 n,.int .i64 v] 225))
 have HM:=hid (PM.box R hP (.cells #[.int .i64 ((22:Nat):Int),.int .i64 d,.int .i64 s,.int .i64 n,.int .i64 v] 225))
 have HFU:=hid hfu
 clear hfu
 clear hP R
 go_enter Tryz.func286,Tryz.ntmps286
 go_wp2
 go_region_with ((go_at_call 256;refine (zdz HR.out (x.c.r s) rs.1 rs.2 _ p x HFU.out ?_).mono ?_;(exact HB.out.same HR.out rfl);rintro e w2 ⟨rfl,hP2,hm2⟩;obtain ⟨hz2,hq2⟩:=HP.out.boxS HR.out hm2 rfl;have HRP:=hid hP2;clear hP2))
 all_goals go_wp2
 all_goals go_end0
 all_goals exact ⟨rfl,HRP.out.same HR.out rfl,HM.out.drew.trans hm2⟩
theorem zrL (R:RS m B nr nw cr cw I T) (d s:Nat) (n v:Int) (hd:d<8) (hs:s<8) (hv:0<=v) (hv':v<=65535) (w:World) (p:Nat) (x:C.St σ) (hP:PI B nr nw cr cw I T w p x) :
 Calls Tryz.prog 287 #[.pointer (some ⟨p,0,none⟩),ordV 23 d s n v] w (AP B nr nw cr cw I T w p x (C.act m x 23 d s n v)):=by
 have hlt:=hP.lt
 have hne:p≠w.heap.size:=by omega
 have hlt1:p<w.heap.size+1:=by omega
 have hd0:(0:Int)<=d:=by omega
 have hd8:(d:Int)<8:=by omega
 have hs0:(0:Int)<=s:=by omega
 have hs8:(s:Int)<8:=by omega
 have cd:=hP.reg d hd
 have cs:=hP.reg s hs
 have rd:=C.Cpu.r_bd hP.ok d
 have rs:=C.Cpu.r_bd hP.ok s
 have HP:=hid hP
 have HR:=hid R
 have HB:=hid (hP.box R (.cells #[.int .i64 ((23:Nat):Int),.int .i64 d,.int .i64 s,.int .i64 n,.int .i64 v] 225))
 have HM:=hid (PM.box R hP (.cells #[.int .i64 ((23:Nat):Int),.int .i64 d,.int .i64 s,.int .i64 n,.int .i64 v] 225))
 clear hP R
 go_enter Tryz.func287,Tryz.ntmps287
 go_wp2_with (go_at_call 285;refine (zf9 HR.out _ p x ?_).mono ?_;(exact HB.out);rintro e w2 ⟨rfl,hP2,hm2⟩;obtain ⟨hz2,hq2⟩:=HP.out.boxS HR.out hm2 rfl;have q1:=hq2 1;have cd2:=hP2.reg d hd;have f2:=hP2.frozen d;have z2:=hP2.lt;have HRP:=hid hP2;clear hP2)
 go_region
 go_wp2
 go_end0
 exact ⟨rfl,(HRP.out.putR HR.out d hd _ (HR.out.word _ _).1 (HR.out.word _ _).2).same HR.out rfl,((HM.out.trans hm2).set HP.out.big d _).drew⟩
theorem zrM (R:RS m B nr nw cr cw I T) (d s:Nat) (n v:Int) (hd:d<8) (hs:s<8) (hv:0<=v) (hv':v<=65535) (w:World) (p:Nat) (x:C.St σ) (hP:PI B nr nw cr cw I T w p x) :
 Calls Tryz.prog 288 #[.pointer (some ⟨p,0,none⟩),ordV 24 d s n v] w (AP B nr nw cr cw I T w p x (C.act m x 24 d s n v)):=by
 have hlt:=hP.lt
 have hne:p≠w.heap.size:=by omega
 have hlt1:p<w.heap.size+1:=by omega
 have hd0:(0:Int)<=d:=by omega
 have hd8:(d:Int)<8:=by omega
 have hs0:(0:Int)<=s:=by omega
 have hs8:(s:Int)<8:=by omega
 have cd:=hP.reg d hd
 have cs:=hP.reg s hs
 have rd:=C.Cpu.r_bd hP.ok d
 have rs:=C.Cpu.r_bd hP.ok s
 have HP:=hid hP
 have HR:=hid R
 have HB:=hid (hP.box R (.cells #[.int .i64 ((24:Nat):Int),.int .i64 d,.int .i64 s,.int .i64 n,.int .i64 v] 225))
 have HM:=hid (PM.box R hP (.cells #[.int .i64 ((24:Nat):Int),.int .i64 d,.int .i64 s,.int .i64 n,.int .i64 v] 225))
 have hf:=hP.frozen 13
 obtain ⟨_,_,_,_,_,c13,c14,_,_,_⟩:=hP.cells
 clear hP R
 go_enter Tryz.func288,Tryz.ntmps288
 go_wp2
 go_end0
 exact ⟨rfl,((HP.out.putMay HR.out true).box HR.out _).same HR.out rfl,((PM.refl B T p x.s w).set HP.out.big 13 _).alloc (HP.out.hB HR.out) _⟩
theorem zrN (R:RS m B nr nw cr cw I T) (d s:Nat) (n v:Int) (hd:d<8) (hs:s<8) (hv:0<=v) (hv':v<=65535) (w:World) (p:Nat) (x:C.St σ) (hP:PI B nr nw cr cw I T w p x) :
 Calls Tryz.prog 289 #[.pointer (some ⟨p,0,none⟩),ordV 25 d s n v] w (AP B nr nw cr cw I T w p x (C.act m x 25 d s n v)):=by
 have hlt:=hP.lt
 have hne:p≠w.heap.size:=by omega
 have hlt1:p<w.heap.size+1:=by omega
 have hd0:(0:Int)<=d:=by omega
 have hd8:(d:Int)<8:=by omega
 have hs0:(0:Int)<=s:=by omega
 have hs8:(s:Int)<8:=by omega
 have cd:=hP.reg d hd
 have cs:=hP.reg s hs
 have rd:=C.Cpu.r_bd hP.ok d
 have rs:=C.Cpu.r_bd hP.ok s
 have HP:=hid hP
 have HR:=hid R
 have HB:=hid (hP.box R (.cells #[.int .i64 ((25:Nat):Int),.int .i64 d,.int .i64 s,.int .i64 n,.int .i64 v] 225))
 have HM:=hid (PM.box R hP (.cells #[.int .i64 ((25:Nat):Int),.int .i64 d,.int .i64 s,.int .i64 n,.int .i64 v] 225))
 have hf:=hP.frozen 13
 obtain ⟨_,_,_,_,_,c13,c14,_,_,_⟩:=hP.cells
 clear hP R
 go_enter Tryz.func289,Tryz.ntmps289
 go_wp2
 go_end0
 exact ⟨rfl,((HP.out.putMay HR.out false).box HR.out _).same HR.out rfl,((PM.refl B T p x.s w).set HP.out.big 13 _).alloc (HP.out.hB HR.out) _⟩
theorem zrO (R:RS m B nr nw cr cw I T) (d s:Nat) (n v:Int) (hd:d<8) (hs:s<8) (hv:0<=v) (hv':v<=65535) (w:World) (p:Nat) (x:C.St σ) (hP:PI B nr nw cr cw I T w p x) :
 Calls Tryz.prog 292 #[.pointer (some ⟨p,0,none⟩),ordV 27 d s n v] w (AP B nr nw cr cw I T w p x (C.act m x 27 d s n v)):=by
 have hlt:=hP.lt
 have hne:p≠w.heap.size:=by omega
 have hlt1:p<w.heap.size+1:=by omega
 have hd0:(0:Int)<=d:=by omega
 have hd8:(d:Int)<8:=by omega
 have hs0:(0:Int)<=s:=by omega
 have hs8:(s:Int)<8:=by omega
 have cd:=hP.reg d hd
 have cs:=hP.reg s hs
 have rd:=C.Cpu.r_bd hP.ok d
 have rs:=C.Cpu.r_bd hP.ok s
 have HP:=hid hP
 have HR:=hid R
 have HB:=hid (hP.box R (.cells #[.int .i64 ((27:Nat):Int),.int .i64 d,.int .i64 s,.int .i64 n,.int .i64 v] 225))
 have HM:=hid (PM.box R hP (.cells #[.int .i64 ((27:Nat):Int),.int .i64 d,.int .i64 s,.int .i64 n,.int .i64 v] 225))
 have hf:=hP.frozen 14
 obtain ⟨_,_,_,_,_,c13,c14,_,_,_⟩:=hP.cells
 clear hP R
 go_enter Tryz.func292,Tryz.ntmps292
 go_wp2
 go_end0
 exact ⟨rfl,((HP.out.putWaits HR.out true).box HR.out _).same HR.out rfl,((PM.refl B T p x.s w).set HP.out.big 14 _).alloc (HP.out.hB HR.out) _⟩
theorem zrP (R:RS m B nr nw cr cw I T) (d s:Nat) (n v:Int) (hd:d<8) (hs:s<8) (hv:0<=v) (hv':v<=65535) (w:World) (p:Nat) (x:C.St σ) (hP:PI B nr nw cr cw I T w p x) :
 Calls Tryz.prog 290 #[.pointer (some ⟨p,0,none⟩),ordV 26 d s n v] w (AP B nr nw cr cw I T w p x (C.act m x 26 d s n v)):=by
 have hlt:=hP.lt
 have hne:p≠w.heap.size:=by omega
 have hlt1:p<w.heap.size+1:=by omega
 have hd0:(0:Int)<=d:=by omega
 have hd8:(d:Int)<8:=by omega
 have hs0:(0:Int)<=s:=by omega
 have hs8:(s:Int)<8:=by omega
 have cd:=hP.reg d hd
 have cs:=hP.reg s hs
 have rd:=C.Cpu.r_bd hP.ok d
 have rs:=C.Cpu.r_bd hP.ok s
 have HP:=hid hP
 have HR:=hid R
 have HB:=hid (hP.box R (.cells #[.int .i64 ((26:Nat):Int),.int .i64 d,.int .i64 s,.int .i64 n,.int .i64 v] 225))
 have HM:=hid (PM.box R hP (.cells #[.int .i64 ((26:Nat):Int),.int .i64 d,.int .i64 s,.int .i64 n,.int .i64 v] 225))
 clear hP R
 go_enter Tryz.func290,Tryz.ntmps290
 go_wp2_with (go_at_call 291;refine (zhu HR.out _ p x ?_).mono ?_;(exact HB.out);rintro e w2 ⟨rfl,hP2,hm2⟩;have HRP:=hid hP2;clear hP2)
 go_end0
 exact ⟨rfl,HRP.out,HM.out.trans hm2⟩
theorem zrQ (R:RS m B nr nw cr cw I T) (d s:Nat) (n v:Int) (hd:d<8) (hs:s<8) (hv:0<=v) (hv':v<=65535) (w:World) (p:Nat) (x:C.St σ) (hfu:4<=m.fuel x.s) (hP:PI B nr nw cr cw I T w p x) :
 Calls Tryz.prog 294 #[.pointer (some ⟨p,0,none⟩),ordV 31 d s n v] w (AP B nr nw cr cw I T w p x (C.act m x 31 d s n v)):=by
 have hlt:=hP.lt
 have hne:p≠w.heap.size:=by omega
 have hlt1:p<w.heap.size+1:=by omega
 have hd0:(0:Int)<=d:=by omega
 have hd8:(d:Int)<8:=by omega
 have hs0:(0:Int)<=s:=by omega
 have hs8:(s:Int)<8:=by omega
 have cd:=hP.reg d hd
 have cs:=hP.reg s hs
 have rd:=C.Cpu.r_bd hP.ok d
 have rs:=C.Cpu.r_bd hP.ok s
 have HP:=hid hP
 have HR:=hid R
 have HB:=hid (hP.box R (.cells #[.int .i64 ((31:Nat):Int),.int .i64 d,.int .i64 s,.int .i64 n,.int .i64 v] 225))
 have HM:=hid (PM.box R hP (.cells #[.int .i64 ((31:Nat):Int),.int .i64 d,.int .i64 s,.int .i64 n,.int .i64 v] 225))
 have HFU:=hid hfu
 clear hfu
 clear hP R
 go_enter Tryz.func294,Tryz.ntmps294
 go_wp2_with (go_at_call 229;refine (zht HR.out 4 (by omega) (by omega) _ p x HFU.out ?_).mono ?_;(exact HB.out);rintro e w2 ⟨rfl,hP2,hm2⟩;have HRP:=hid hP2;clear hP2)
 go_end0
 exact ⟨rfl,HRP.out,HM.out.trans hm2⟩
end
theorem zpv (a:Int) (h:0<=a/\a<=65535):decide (M.low a 16<0)=decide (32768<=a):=by
 unfold M.low
 simp only [show (16:Int).toNat=16 from rfl,Int.reducePow]
 rw [decide_eq_decide]
 split <;> omega
theorem zqc (a n:Int) (h:0<=a/\a<=65535):0<=M.shrN a n/\M.shrN a n<=65535:=by
 unfold M.shrN
 have hp:(0:Int)<2 ^ n.toNat:=Int.pow_pos (by omega)
 refine ⟨Int.ediv_nonneg h.1 (by omega),Int.le_trans (Int.ediv_le_self _ h.1) h.2⟩
section
variable {σ : Type} {m : C.Mem σ} {B nr nw : Nat} {cr cw : Array Value × Array Value} {I : World -> σ -> Prop} {T : σ -> Nat -> Prop}
theorem PI.drewN (R:RS m B nr nw cr cw I T) {w:World} {p:Nat} {x:C.St σ} (h:PI B nr nw cr cw I T w p x) (k:Nat):PI B nr nw cr cw I T (w.drewN k) p x:=h.same R rfl
theorem PM.drewN {w w':World} {p:Nat} {s s':σ} (h:PM B T p s s' w w') (k:Nat):PM B T p s s' w (w'.drewN k):=Mv.drewN h k
theorem zrR (R:RS m B nr nw cr cw I T) (d s:Nat) (n v:Int) (hd:d<8) (hs:s<8) (hn:0<=n) (hn':n<=15) (b:Nat) (w:World) (p:Nat) (x:C.St σ) (hP:PI B nr nw cr cw I T w p x) (hb:w.cell? ⟨b,0,none⟩=some (fv 273 #[])) :
 Calls Tryz.prog 316 #[.pointer (some ⟨p,0,none⟩),ordV 12 d s n v,.pointer (some ⟨b,0,none⟩)] w (AP B nr nw cr cw I T w p x (C.act m x 12 d s n v)):=by
 have hlt:=hP.lt
 have hne:p≠w.heap.size:=by omega
 have hlt1:p<w.heap.size+1:=by omega
 have hd0:(0:Int)<=d:=by omega
 have hd8:(d:Int)<8:=by omega
 have hs0:(0:Int)<=s:=by omega
 have hs8:(s:Int)<8:=by omega
 have cd:=hP.reg d hd
 have cs:=hP.reg s hs
 have rd:=C.Cpu.r_bd hP.ok d
 have rs:=C.Cpu.r_bd hP.ok s
 have HP:=hid hP
 have HR:=hid R
 have HB:=hid (hP.box R (.cells #[.int .i64 ((12:Nat):Int),.int .i64 d,.int .i64 s,.int .i64 n,.int .i64 v] 225))
 have HM:=hid (PM.box R hP (.cells #[.int .i64 ((12:Nat):Int),.int .i64 d,.int .i64 s,.int .i64 n,.int .i64 v] 225))
 have hbl:b<w.heap.size:=World.block_lt_of_cell? w _ hb
 have hbne:b≠w.heap.size:=by omega
 have bd:=M.shlN_bd (x.c.r d) n
 have hlow:=zpv (M.shlN (x.c.r d) n) bd
 have H1:=λW:World=>hid (zp2 (x.c.r d) n W rd.1 rd.2 hn hn')
 have H2:=λW:World=>hid (zb9 (M.shlN (x.c.r d) n) 16 W bd.1 bd.2 (by omega) (by omega))
 obtain ⟨_,c9,c10,c11,c12,_,_,_,_,_⟩:=hP.cells
 have hf:=hP.frozen
 clear hP R
 generalize hy:M.shlN (x.c.r d) n=y at bd hlow H1 H2
 have HY:=hid hy
 have HLOW:=hid hlow
 clear hy hlow
 go_enter Tryz.func316,Tryz.ntmps316
 go_wp2
 go_region_held3 (λw'=>w'.cell? ⟨b,0,none⟩=some (fv 273 #[])/\w'.cell? ⟨w.heap.size,1,none⟩=some (.int .i64 d)/\w'.cell? ⟨w.heap.size,3,none⟩=some (.int .i64 n)/\w'.cell? ⟨p,d,none⟩=some (.int .u16 (x.c.r d)))
  ((go_keep;done))
  ((go_at_call 273;refine (H1 _).out.mono ?_;rintro e w2 ⟨rfl,q,rfl⟩))
 go_wp2_with (go_at_call 315;refine (H2 _).out.mono ?_;rintro e w' ⟨rfl,rfl⟩)
 go_region
 go_wp2
 go_end0
 rw [HLOW.out]
 have hy:=HY.out
 subst hy
 exact ⟨rfl,(((((HB.out.drewN HR.out _).putR HR.out d hd _ bd.1 bd.2).putZ HR.out _).putN HR.out _).putC HR.out _).putV HR.out _,(((((HM.out.drewN _).set HP.out.big d _).set HP.out.big 9 _).set HP.out.big 10 _).set HP.out.big 11 _).set HP.out.big 12 _⟩
theorem zrS (R:RS m B nr nw cr cw I T) (d s:Nat) (n v:Int) (hd:d<8) (hs:s<8) (hn:0<=n) (hn':n<=15) (b:Nat) (w:World) (p:Nat) (x:C.St σ) (hP:PI B nr nw cr cw I T w p x) (hb:w.cell? ⟨b,0,none⟩=some (fv 274 #[])) :
 Calls Tryz.prog 316 #[.pointer (some ⟨p,0,none⟩),ordV 13 d s n v,.pointer (some ⟨b,0,none⟩)] w (AP B nr nw cr cw I T w p x (C.act m x 13 d s n v)):=by
 have hlt:=hP.lt
 have hne:p≠w.heap.size:=by omega
 have hlt1:p<w.heap.size+1:=by omega
 have hd0:(0:Int)<=d:=by omega
 have hd8:(d:Int)<8:=by omega
 have hs0:(0:Int)<=s:=by omega
 have hs8:(s:Int)<8:=by omega
 have cd:=hP.reg d hd
 have cs:=hP.reg s hs
 have rd:=C.Cpu.r_bd hP.ok d
 have rs:=C.Cpu.r_bd hP.ok s
 have HP:=hid hP
 have HR:=hid R
 have HB:=hid (hP.box R (.cells #[.int .i64 ((13:Nat):Int),.int .i64 d,.int .i64 s,.int .i64 n,.int .i64 v] 225))
 have HM:=hid (PM.box R hP (.cells #[.int .i64 ((13:Nat):Int),.int .i64 d,.int .i64 s,.int .i64 n,.int .i64 v] 225))
 have hbl:b<w.heap.size:=World.block_lt_of_cell? w _ hb
 have hbne:b≠w.heap.size:=by omega
 have bd:=zqc (x.c.r d) n rd
 have hlow:=zpv (M.shrN (x.c.r d) n) bd
 have H1:=λW:World=>hid (zp4 (x.c.r d) n W rd.1 rd.2 hn hn')
 have H2:=λW:World=>hid (zb9 (M.shrN (x.c.r d) n) 16 W bd.1 bd.2 (by omega) (by omega))
 obtain ⟨_,c9,c10,c11,c12,_,_,_,_,_⟩:=hP.cells
 have hf:=hP.frozen
 clear hP R
 generalize hy:M.shrN (x.c.r d) n=y at bd hlow H1 H2
 have HY:=hid hy
 have HLOW:=hid hlow
 clear hy hlow
 go_enter Tryz.func316,Tryz.ntmps316
 go_wp2
 go_region_held3 (λw'=>w'.cell? ⟨b,0,none⟩=some (fv 274 #[])/\w'.cell? ⟨w.heap.size,1,none⟩=some (.int .i64 d)/\w'.cell? ⟨w.heap.size,3,none⟩=some (.int .i64 n)/\w'.cell? ⟨p,d,none⟩=some (.int .u16 (x.c.r d)))
  ((go_keep;done))
  ((go_at_call 274;refine (H1 _).out.mono ?_;rintro e w2 ⟨rfl,q,rfl⟩))
 go_wp2_with (go_at_call 315;refine (H2 _).out.mono ?_;rintro e w' ⟨rfl,rfl⟩)
 go_region
 go_wp2
 go_end0
 rw [HLOW.out]
 have hy:=HY.out
 subst hy
 exact ⟨rfl,(((((HB.out.drewN HR.out _).putR HR.out d hd _ bd.1 bd.2).putZ HR.out _).putN HR.out _).putC HR.out _).putV HR.out _,(((((HM.out.drewN _).set HP.out.big d _).set HP.out.big 9 _).set HP.out.big 10 _).set HP.out.big 11 _).set HP.out.big 12 _⟩
theorem zqd (c:C.Cpu) (w:World):Calls Tryz.prog 279 #[cpuV c] w λe w'=>e = .returned (.bool (true))/\Below w.heap.size w w':=by
 go_enter Tryz.func279,Tryz.ntmps279
 go_wp2
 go_ret
 exact ⟨rfl,stA (st0 _) _⟩
theorem zqe (c:C.Cpu) (w:World):Calls Tryz.prog 280 #[cpuV c] w λe w'=>e = .returned (.bool (c.Z))/\Below w.heap.size w w':=by
 go_enter Tryz.func280,Tryz.ntmps280
 go_wp2
 go_ret
 exact ⟨rfl,stA (st0 _) _⟩
theorem zqf (c:C.Cpu) (w:World):Calls Tryz.prog 281 #[cpuV c] w λe w'=>e = .returned (.bool (c.N))/\Below w.heap.size w w':=by
 go_enter Tryz.func281,Tryz.ntmps281
 go_wp2
 go_ret
 exact ⟨rfl,stA (st0 _) _⟩
theorem zqg (c:C.Cpu) (w:World):Calls Tryz.prog 282 #[cpuV c] w λe w'=>e = .returned (.bool (c.C))/\Below w.heap.size w w':=by
 go_enter Tryz.func282,Tryz.ntmps282
 go_wp2
 go_ret
 exact ⟨rfl,stA (st0 _) _⟩
theorem znR (c:C.Cpu) (w:World):Calls Tryz.prog 293 #[cpuV c] w λe w'=>e = .returned (.bool (!c.Z))/\Below w.heap.size w w':=by
 go_enter Tryz.func293,Tryz.ntmps293
 go_wp2
 go_ret
 exact ⟨rfl,stA (st0 _) _⟩
end
section
variable {σ : Type} {m : C.Mem σ} {B nr nw : Nat} {cr cw : Array Value × Array Value} {I : World -> σ -> Prop} {T : σ -> Nat -> Prop}
theorem zcH (R:RS m B nr nw cr cw I T) (g:Nat) (hg:g=279 \/ g=280 \/ g=281 \/ g=282 \/ g=293) (t:Bool) (k d s:Nat) (n v:Int) (hv:0<=v) (hv':v<=65535) (b:Nat) (w:World) (p:Nat) (x:C.St σ) (hx0:0<=x.n) (hx1:x.n<=100) (hP:PI B nr nw cr cw I T w p x) (z:C.St σ) (hz:z=if t then C.jump x v else x) (hb:w.cell? ⟨b,0,none⟩=some (fv g #[])) (hC:∀ W:World,Calls Tryz.prog g #[cpuV x.c] W λe w'=>e = .returned (.bool t)/\Below W.heap.size W w') :
 Calls Tryz.prog 320 #[.pointer (some ⟨p,0,none⟩),ordV k d s n v,.pointer (some ⟨b,0,none⟩)] w (AP B nr nw cr cw I T w p x z):=by
 have hlt:=hP.lt
 have hne:p≠w.heap.size:=by omega
 have hlt1:p<w.heap.size+1:=by omega
 have hbl:b<w.heap.size:=World.block_lt_of_cell? w _ hb
 have hbne:b≠w.heap.size:=by omega
 have hbl1:b<w.heap.size+1:=by omega
 have hw:IntKind.u16.wrap v=v:=by rw [u16w];omega
 have HP:=hid hP
 have HR:=hid R
 obtain ⟨c8,c9,c10,c11,c12,c13,c14,c15,c16,c17⟩:=hP.cells
 obtain ⟨c0,c1,c2,c3,c4,c5,c6,c7⟩:=hP.regs
 have HC:=hid hC
 have HZ:=hid hz
 clear hP R hC hz
 rcases hg with rfl|rfl|rfl|rfl|rfl
 all_goals
  go_enter Tryz.func320,Tryz.ntmps320
  go_wp2
  first
   | (go_region_held3 (λw'=>w'.cell? ⟨b,0,none⟩=some (fv 279 #[])/\w'.cell? ⟨p,0,none⟩=some (.int .u16 (x.c.r 0))/\w'.cell? ⟨p,1,none⟩=some (.int .u16 (x.c.r 1))/\w'.cell? ⟨p,2,none⟩=some (.int .u16 (x.c.r 2))/\w'.cell? ⟨p,3,none⟩=some (.int .u16 (x.c.r 3))/\w'.cell? ⟨p,4,none⟩=some (.int .u16 (x.c.r 4))/\w'.cell? ⟨p,5,none⟩=some (.int .u16 (x.c.r 5))/\w'.cell? ⟨p,6,none⟩=some (.int .u16 (x.c.r 6))/\w'.cell? ⟨p,7,none⟩=some (.int .u16 (x.c.r 7))/\w'.cell? ⟨p,8,none⟩=some (.int .u16 x.c.PC)/\w'.cell? ⟨p,9,none⟩=some (.bool x.c.Z)/\w'.cell? ⟨p,10,none⟩=some (.bool x.c.N)/\w'.cell? ⟨p,11,none⟩=some (.bool x.c.C)/\w'.cell? ⟨p,12,none⟩=some (.bool x.c.V)/\w'.cell? ⟨p,13,none⟩=some (.bool x.c.May)/\w'.cell? ⟨p,14,none⟩=some (.bool x.c.Waits)) ((go_keep;done)) ((refine (HC.out _).mono ?_;rintro e w2 ⟨rfl,hb2⟩;obtain ⟨k2,f2⟩:=bcell hb2)))
   | (go_region_held3 (λw'=>w'.cell? ⟨b,0,none⟩=some (fv 280 #[])/\w'.cell? ⟨p,0,none⟩=some (.int .u16 (x.c.r 0))/\w'.cell? ⟨p,1,none⟩=some (.int .u16 (x.c.r 1))/\w'.cell? ⟨p,2,none⟩=some (.int .u16 (x.c.r 2))/\w'.cell? ⟨p,3,none⟩=some (.int .u16 (x.c.r 3))/\w'.cell? ⟨p,4,none⟩=some (.int .u16 (x.c.r 4))/\w'.cell? ⟨p,5,none⟩=some (.int .u16 (x.c.r 5))/\w'.cell? ⟨p,6,none⟩=some (.int .u16 (x.c.r 6))/\w'.cell? ⟨p,7,none⟩=some (.int .u16 (x.c.r 7))/\w'.cell? ⟨p,8,none⟩=some (.int .u16 x.c.PC)/\w'.cell? ⟨p,9,none⟩=some (.bool x.c.Z)/\w'.cell? ⟨p,10,none⟩=some (.bool x.c.N)/\w'.cell? ⟨p,11,none⟩=some (.bool x.c.C)/\w'.cell? ⟨p,12,none⟩=some (.bool x.c.V)/\w'.cell? ⟨p,13,none⟩=some (.bool x.c.May)/\w'.cell? ⟨p,14,none⟩=some (.bool x.c.Waits)) ((go_keep;done)) ((refine (HC.out _).mono ?_;rintro e w2 ⟨rfl,hb2⟩;obtain ⟨k2,f2⟩:=bcell hb2)))
   | (go_region_held3 (λw'=>w'.cell? ⟨b,0,none⟩=some (fv 281 #[])/\w'.cell? ⟨p,0,none⟩=some (.int .u16 (x.c.r 0))/\w'.cell? ⟨p,1,none⟩=some (.int .u16 (x.c.r 1))/\w'.cell? ⟨p,2,none⟩=some (.int .u16 (x.c.r 2))/\w'.cell? ⟨p,3,none⟩=some (.int .u16 (x.c.r 3))/\w'.cell? ⟨p,4,none⟩=some (.int .u16 (x.c.r 4))/\w'.cell? ⟨p,5,none⟩=some (.int .u16 (x.c.r 5))/\w'.cell? ⟨p,6,none⟩=some (.int .u16 (x.c.r 6))/\w'.cell? ⟨p,7,none⟩=some (.int .u16 (x.c.r 7))/\w'.cell? ⟨p,8,none⟩=some (.int .u16 x.c.PC)/\w'.cell? ⟨p,9,none⟩=some (.bool x.c.Z)/\w'.cell? ⟨p,10,none⟩=some (.bool x.c.N)/\w'.cell? ⟨p,11,none⟩=some (.bool x.c.C)/\w'.cell? ⟨p,12,none⟩=some (.bool x.c.V)/\w'.cell? ⟨p,13,none⟩=some (.bool x.c.May)/\w'.cell? ⟨p,14,none⟩=some (.bool x.c.Waits)) ((go_keep;done)) ((refine (HC.out _).mono ?_;rintro e w2 ⟨rfl,hb2⟩;obtain ⟨k2,f2⟩:=bcell hb2)))
   | (go_region_held3 (λw'=>w'.cell? ⟨b,0,none⟩=some (fv 282 #[])/\w'.cell? ⟨p,0,none⟩=some (.int .u16 (x.c.r 0))/\w'.cell? ⟨p,1,none⟩=some (.int .u16 (x.c.r 1))/\w'.cell? ⟨p,2,none⟩=some (.int .u16 (x.c.r 2))/\w'.cell? ⟨p,3,none⟩=some (.int .u16 (x.c.r 3))/\w'.cell? ⟨p,4,none⟩=some (.int .u16 (x.c.r 4))/\w'.cell? ⟨p,5,none⟩=some (.int .u16 (x.c.r 5))/\w'.cell? ⟨p,6,none⟩=some (.int .u16 (x.c.r 6))/\w'.cell? ⟨p,7,none⟩=some (.int .u16 (x.c.r 7))/\w'.cell? ⟨p,8,none⟩=some (.int .u16 x.c.PC)/\w'.cell? ⟨p,9,none⟩=some (.bool x.c.Z)/\w'.cell? ⟨p,10,none⟩=some (.bool x.c.N)/\w'.cell? ⟨p,11,none⟩=some (.bool x.c.C)/\w'.cell? ⟨p,12,none⟩=some (.bool x.c.V)/\w'.cell? ⟨p,13,none⟩=some (.bool x.c.May)/\w'.cell? ⟨p,14,none⟩=some (.bool x.c.Waits)) ((go_keep;done)) ((refine (HC.out _).mono ?_;rintro e w2 ⟨rfl,hb2⟩;obtain ⟨k2,f2⟩:=bcell hb2)))
   | (go_region_held3 (λw'=>w'.cell? ⟨b,0,none⟩=some (fv 293 #[])/\w'.cell? ⟨p,0,none⟩=some (.int .u16 (x.c.r 0))/\w'.cell? ⟨p,1,none⟩=some (.int .u16 (x.c.r 1))/\w'.cell? ⟨p,2,none⟩=some (.int .u16 (x.c.r 2))/\w'.cell? ⟨p,3,none⟩=some (.int .u16 (x.c.r 3))/\w'.cell? ⟨p,4,none⟩=some (.int .u16 (x.c.r 4))/\w'.cell? ⟨p,5,none⟩=some (.int .u16 (x.c.r 5))/\w'.cell? ⟨p,6,none⟩=some (.int .u16 (x.c.r 6))/\w'.cell? ⟨p,7,none⟩=some (.int .u16 (x.c.r 7))/\w'.cell? ⟨p,8,none⟩=some (.int .u16 x.c.PC)/\w'.cell? ⟨p,9,none⟩=some (.bool x.c.Z)/\w'.cell? ⟨p,10,none⟩=some (.bool x.c.N)/\w'.cell? ⟨p,11,none⟩=some (.bool x.c.C)/\w'.cell? ⟨p,12,none⟩=some (.bool x.c.V)/\w'.cell? ⟨p,13,none⟩=some (.bool x.c.May)/\w'.cell? ⟨p,14,none⟩=some (.bool x.c.Waits)) ((go_keep;done)) ((refine (HC.out _).mono ?_;rintro e w2 ⟨rfl,hb2⟩;obtain ⟨k2,f2⟩:=bcell hb2)))
  have hbw:=stp (stA (st0 w) (.cells #[.int .i64 k,.int .i64 d,.int .i64 s,.int .i64 n,.int .i64 v] 225)).drew hb2
  have hP1:=HP.out.kept HR.out hbw
  obtain ⟨e8,e9,e10,e11,e12,e13,e14,e15,e16,e17⟩:=hP1.cells
  have ef:=hP1.frozen
  have el:=hP1.lt
  have q4:w2.cell? ⟨w.heap.size,4,none⟩=some (.int .i64 v):=(k2 _ 4 (by simp)).trans (by simp)
  have ql:w.heap.size<w2.heap.size:=by have:=hb2.size;simp at this;omega
  have HP1:=hid hP1
  have HBW:=hid hbw
  clear hP1 hbw k2 f2
  cases t
  ·go_wp2
   go_end0
   rw [HZ.out]
   exact ⟨rfl,HP1.out,(PM.refl B T p x.s w).kept (HP.out.hB HR.out) HBW.out⟩
  ·go_wp2
   go_end0
   rw [HZ.out]
   exact ⟨rfl,(HP1.out.putPC HR.out v hv hv').putCyc HR.out _,(((PM.refl B T p x.s w).kept (HP.out.hB HR.out) HBW.out).set HP.out.big 8 _).set HP.out.big 17 _⟩
end
end Go.Proofs.YtbennamieealbaaGreatDoor
