/-
  Parts of a proof, joined.
-/
import Derived.Test.YtbennamieealbaaGreatDoorZg22
set_option linter.unusedVariables false
set_option maxRecDepth 100000
set_option maxHeartbeats 1600000
namespace Go.Proofs.YtbennamieealbaaGreatDoor
open Go.ChangeShapes Go.WideShapes Go.ChangeAt Go.RowKit
section
variable {σ : Type} {m : C.Mem σ} {B nr nw : Nat} {cr cw : Array Value × Array Value} {I : World -> σ -> Prop} {T : σ -> Nat -> Prop}
def AP (B nr nw:Nat) (cr cw:Array Value × Array Value) (I:World->σ->Prop) (T:σ->Nat->Prop) (w:World) (p:Nat) (x x':C.St σ):Ending->World->Prop :=
 λe w'=>e = .returned (.tuple #[])/\PI B nr nw cr cw I T w' p x'/\PM B T p x.s x'.s w w'
theorem RS.boxS (R:RS m B nr nw cr cw I T) {w w0 w1:World} {s:σ} {cs:Array Value} {t:TypeId} {T':Nat->Prop} (h:I w s) (hm:Mv B (Tw T w0 s) T' w0 w1) (e:w0.heap=(w.alloc (.cells cs t)).heap) (ht:t≠66:=by decide):w.heap.size<w1.heap.size /\ ∀ o,w1.cell? ⟨w.heap.size,o,none⟩=cs[o]?:=by
 have hlt:w.heap.size<w0.heap.size:=by rw [e];simp
 refine ⟨Nat.lt_of_lt_of_le hlt hm.size,λo=>?_⟩
 rw [hm.cell hlt (R.outN h e ht) o]
 exact (World.cell?_of_block (w:=w.alloc (.cells cs t)) (by rw [e])).trans (zav _ _ _ _ rfl)
theorem PI.boxS (R:RS m B nr nw cr cw I T) {w w0 w1:World} {p:Nat} {x:C.St σ} {s':σ} {cs:Array Value} {t:TypeId} (h:PI B nr nw cr cw I T w p x) (hm:PM B T p x.s s' w0 w1) (e:w0.heap=(w.alloc (.cells cs t)).heap) (ht:t≠66:=by decide):w.heap.size<w1.heap.size /\ ∀ o,w1.cell? ⟨w.heap.size,o,none⟩=cs[o]?:=by
 have hlt:w.heap.size<w0.heap.size:=by rw [e];simp
 refine ⟨Nat.lt_of_lt_of_le hlt hm.size,λo=>?_⟩
 rw [PM.cell hm hlt (by have:=h.lt;omega) (R.outN h.inv e ht) o]
 exact (World.cell?_of_block (w:=w.alloc (.cells cs t)) (by rw [e])).trans (zav _ _ _ _ rfl)
theorem PI.regS {w:World} {p:Nat} {x:C.St σ} (h:PI B nr nw cr cw I T w p x) (i:Nat) (hi:i<8) {w':World} (e:w'.heap=w.heap):w'.cell? ⟨p,i,none⟩=some (.int .u16 (x.c.r i)):=(World.cell?_of_block (w:=w) (by rw [e])).trans (h.reg i hi)
theorem PI.ltS {w:World} {p:Nat} {x:C.St σ} (h:PI B nr nw cr cw I T w p x) {w':World} (e:w'.heap=w.heap):p<w'.heap.size:=by rw [e];exact h.lt
theorem PI.box (R:RS m B nr nw cr cw I T) {w:World} {p:Nat} {x:C.St σ} (h:PI B nr nw cr cw I T w p x) (o:Obj):PI B nr nw cr cw I T (w.alloc o) p x:=h.kept R (stA (st0 w) o)
theorem PM.box {w:World} {p:Nat} {x:C.St σ} (R:RS m B nr nw cr cw I T) (h:PI B nr nw cr cw I T w p x) (o:Obj):PM B T p x.s x.s w (w.alloc o):=(PM.refl B T p x.s w).alloc (h.hB R) o
theorem act_0 (R:RS m B nr nw cr cw I T) (d s:Nat) (n v:Int) (hd:d<8) (hs:s<8) (hv:0<=v) (hv':v<=65535) (w:World) (p:Nat) (x:C.St σ) (hP:PI B nr nw cr cw I T w p x) :
 Calls Tryz.prog 261 #[.pointer (some ⟨p,0,none⟩),ordV 0 d s n v] w (AP B nr nw cr cw I T w p x (C.act m x 0 d s n v)):=by
 go_enter Tryz.func261,Tryz.ntmps261
 go_wp2
 go_end0
 exact ⟨rfl,hP.box R _,PM.box R hP _⟩
theorem act_1 (R:RS m B nr nw cr cw I T) (d s:Nat) (n v:Int) (hd:d<8) (hs:s<8) (hv:0<=v) (hv':v<=65535) (w:World) (p:Nat) (x:C.St σ) (hP:PI B nr nw cr cw I T w p x) :
 Calls Tryz.prog 262 #[.pointer (some ⟨p,0,none⟩),ordV 1 d s n v] w (AP B nr nw cr cw I T w p x (C.act m x 1 d s n v)):=by
 have hlt:=hP.lt
 have hne:p≠w.heap.size:=by omega
 have hlt1:p<w.heap.size+1:=by omega
 have hd0:(0:Int)<=d:=by omega
 have hd8:(d:Int)<8:=by omega
 have hs0:(0:Int)<=s:=by omega
 have hs8:(s:Int)<8:=by omega
 have cd:=hP.reg d hd
 have cs:=hP.reg s hs
 have rd:=C.Cpu.r_bd hP.ok d
 have rs:=C.Cpu.r_bd hP.ok s
 have HP:=hid hP
 have HR:=hid R
 have HB:=hid (hP.box R (.cells #[.int .i64 ((1:Nat):Int),.int .i64 d,.int .i64 s,.int .i64 n,.int .i64 v] 225))
 have HM:=hid (PM.box R hP (.cells #[.int .i64 ((1:Nat):Int),.int .i64 d,.int .i64 s,.int .i64 n,.int .i64 v] 225))
 have hf:=hP.frozen d
 clear hP R
 go_enter Tryz.func262,Tryz.ntmps262
 go_wp2
 go_region
 go_wp2
 go_end0
 exact ⟨rfl,((HP.out.putR HR.out d hd _ rs.1 rs.2).box HR.out _).same HR.out rfl,(((PM.refl B T p x.s w).set HP.out.big d _).alloc (HP.out.hB HR.out) _).drew⟩
theorem act_2 (R:RS m B nr nw cr cw I T) (d s:Nat) (n v:Int) (hd:d<8) (hs:s<8) (hv:0<=v) (hv':v<=65535) (w:World) (p:Nat) (x:C.St σ) (hP:PI B nr nw cr cw I T w p x) :
 Calls Tryz.prog 263 #[.pointer (some ⟨p,0,none⟩),ordV 2 d s n v] w (AP B nr nw cr cw I T w p x (C.act m x 2 d s n v)):=by
 have hlt:=hP.lt
 have hne:p≠w.heap.size:=by omega
 have hlt1:p<w.heap.size+1:=by omega
 have hd0:(0:Int)<=d:=by omega
 have hd8:(d:Int)<8:=by omega
 have hs0:(0:Int)<=s:=by omega
 have hs8:(s:Int)<8:=by omega
 have cd:=hP.reg d hd
 have cs:=hP.reg s hs
 have rd:=C.Cpu.r_bd hP.ok d
 have rs:=C.Cpu.r_bd hP.ok s
 have HP:=hid hP
 have HR:=hid R
 have HB:=hid (hP.box R (.cells #[.int .i64 ((2:Nat):Int),.int .i64 d,.int .i64 s,.int .i64 n,.int .i64 v] 225))
 have HM:=hid (PM.box R hP (.cells #[.int .i64 ((2:Nat):Int),.int .i64 d,.int .i64 s,.int .i64 n,.int .i64 v] 225))
 have hf:=hP.frozen d
 have hw:IntKind.u16.wrap v=v:=by rw [u16w];omega
 clear hP R
 go_enter Tryz.func263,Tryz.ntmps263
 go_wp2
 go_region
 go_wp2
 go_end0
 exact ⟨rfl,((HP.out.putR HR.out d hd _ hv hv').box HR.out _).same HR.out rfl,(((PM.refl B T p x.s w).set HP.out.big d _).alloc (HP.out.hB HR.out) _).drew⟩
theorem act_3 (R:RS m B nr nw cr cw I T) (d s:Nat) (n v:Int) (hd:d<8) (hs:s<8) (hv:0<=v) (hv':v<=65535) (w:World) (p:Nat) (x:C.St σ) (hP:PI B nr nw cr cw I T w p x) :
 Calls Tryz.prog 264 #[.pointer (some ⟨p,0,none⟩),ordV 3 d s n v] w (AP B nr nw cr cw I T w p x (C.act m x 3 d s n v)):=by
 have hlt:=hP.lt
 have hne:p≠w.heap.size:=by omega
 have hlt1:p<w.heap.size+1:=by omega
 have hd0:(0:Int)<=d:=by omega
 have hd8:(d:Int)<8:=by omega
 have hs0:(0:Int)<=s:=by omega
 have hs8:(s:Int)<8:=by omega
 have cd:=hP.reg d hd
 have cs:=hP.reg s hs
 have rd:=C.Cpu.r_bd hP.ok d
 have rs:=C.Cpu.r_bd hP.ok s
 have HP:=hid hP
 have HR:=hid R
 have HB:=hid (hP.box R (.cells #[.int .i64 ((3:Nat):Int),.int .i64 d,.int .i64 s,.int .i64 n,.int .i64 v] 225))
 have HM:=hid (PM.box R hP (.cells #[.int .i64 ((3:Nat):Int),.int .i64 d,.int .i64 s,.int .i64 n,.int .i64 v] 225))
 obtain ⟨_,_,_,_,_,_,_,c15,c16,_⟩:=hP.cells
 have HS:Hid (∀ (W:World) (u:Value),(W.cell? ⟨w.heap.size,1,none⟩=some (.int .i64 d)/\W.cell? ⟨w.heap.size,2,none⟩=some (.int .i64 s)/\W.cell? ⟨w.heap.size,3,none⟩=some (.int .i64 n)/\W.cell? ⟨p,15,none⟩=some (fw nr cr)/\W.cell? ⟨p,16,none⟩=some (fw nw cw)) ->
  ((W.setCell ⟨p,d,none⟩ u).cell? ⟨w.heap.size,1,none⟩=some (.int .i64 d)/\(W.setCell ⟨p,d,none⟩ u).cell? ⟨w.heap.size,2,none⟩=some (.int .i64 s)/\(W.setCell ⟨p,d,none⟩ u).cell? ⟨w.heap.size,3,none⟩=some (.int .i64 n)/\(W.setCell ⟨p,d,none⟩ u).cell? ⟨p,15,none⟩=some (fw nr cr)/\(W.setCell ⟨p,d,none⟩ u).cell? ⟨p,16,none⟩=some (fw nw cw))):=by
  rintro W u ⟨h1,h2,h3,h4,h5⟩
  exact ⟨(World.cell?_setCell_other _ _ _ _ (by simp <;> omega)).trans h1,(World.cell?_setCell_other _ _ _ _ (by simp <;> omega)).trans h2,(World.cell?_setCell_other _ _ _ _ (by simp <;> omega)).trans h3,(World.cell?_setCell_other _ _ _ _ (by simp <;> omega)).trans h4,(World.cell?_setCell_other _ _ _ _ (by simp <;> omega)).trans h5⟩
 clear hP R
 go_enter Tryz.func264,Tryz.ntmps264
 go_wp2
 go_region_held3 (λw'=>w'.cell? ⟨w.heap.size,1,none⟩=some (.int .i64 d)/\w'.cell? ⟨w.heap.size,2,none⟩=some (.int .i64 s)/\w'.cell? ⟨w.heap.size,3,none⟩=some (.int .i64 n)/\w'.cell? ⟨p,15,none⟩=some (fw nr cr)/\w'.cell? ⟨p,16,none⟩=some (fw nw cw))
  (first|(go_keep;done)|exact HS.out _ _ (by assumption))
  (first
    | (go_at_call 265;refine (zbZ _ p s n (x.c.r s) hs ?_ ?_).mono ?_;(exact HB.out.regS s hs rfl);(exact HB.out.ltS rfl);rintro e w' ⟨rfl,rfl⟩)
    | (go_at_call 91;refine (zbY HR.out ((x.c.r s+n)%65536) (by omega) (by omega) _ x.s ?_).mono ?_;(exact HB.out.invS HR.out rfl);rintro e w2 ⟨rfl,hI2,hm2⟩;obtain ⟨k2,f2,z2⟩:=HB.out.after hm2 rfl;obtain ⟨hz2,hq2⟩:=HR.out.boxS HP.out.inv hm2 rfl;have cd2:w2.cell? ⟨p,d,none⟩=some (.int .u16 (x.c.r d)):=(k2 d).trans (HB.out.reg d hd)))
 go_wp2
 go_end0
 exact ⟨rfl,((HB.out.movedS HR.out hI2 hm2 rfl).putR HR.out d hd _ (HR.out.word _ _).1 (HR.out.word _ _).2).same HR.out rfl,((HM.out.drew.moved hm2).set HP.out.big d _)⟩
theorem act_5 (R:RS m B nr nw cr cw I T) (d s:Nat) (n v:Int) (hd:d<8) (hs:s<8) (hv:0<=v) (hv':v<=65535) (w:World) (p:Nat) (x:C.St σ) (hP:PI B nr nw cr cw I T w p x) :
 Calls Tryz.prog 268 #[.pointer (some ⟨p,0,none⟩),ordV 5 d s n v] w (AP B nr nw cr cw I T w p x (C.act m x 5 d s n v)):=by
 have hlt:=hP.lt
 have hne:p≠w.heap.size:=by omega
 have hlt1:p<w.heap.size+1:=by omega
 have hd0:(0:Int)<=d:=by omega
 have hd8:(d:Int)<8:=by omega
 have hs0:(0:Int)<=s:=by omega
 have hs8:(s:Int)<8:=by omega
 have cd:=hP.reg d hd
 have cs:=hP.reg s hs
 have rd:=C.Cpu.r_bd hP.ok d
 have rs:=C.Cpu.r_bd hP.ok s
 have HP:=hid hP
 have HR:=hid R
 have HB:=hid (hP.box R (.cells #[.int .i64 ((5:Nat):Int),.int .i64 d,.int .i64 s,.int .i64 n,.int .i64 v] 225))
 have HM:=hid (PM.box R hP (.cells #[.int .i64 ((5:Nat):Int),.int .i64 d,.int .i64 s,.int .i64 n,.int .i64 v] 225))
 obtain ⟨_,_,_,_,_,_,_,c15,c16,_⟩:=hP.cells
 have HS:Hid (∀ (W:World) (u:Value),(W.cell? ⟨w.heap.size,1,none⟩=some (.int .i64 d)/\W.cell? ⟨w.heap.size,2,none⟩=some (.int .i64 s)/\W.cell? ⟨w.heap.size,3,none⟩=some (.int .i64 n)/\W.cell? ⟨p,15,none⟩=some (fw nr cr)/\W.cell? ⟨p,16,none⟩=some (fw nw cw)) ->
  ((W.setCell ⟨p,d,none⟩ u).cell? ⟨w.heap.size,1,none⟩=some (.int .i64 d)/\(W.setCell ⟨p,d,none⟩ u).cell? ⟨w.heap.size,2,none⟩=some (.int .i64 s)/\(W.setCell ⟨p,d,none⟩ u).cell? ⟨w.heap.size,3,none⟩=some (.int .i64 n)/\(W.setCell ⟨p,d,none⟩ u).cell? ⟨p,15,none⟩=some (fw nr cr)/\(W.setCell ⟨p,d,none⟩ u).cell? ⟨p,16,none⟩=some (fw nw cw))):=by
  rintro W u ⟨h1,h2,h3,h4,h5⟩
  exact ⟨(World.cell?_setCell_other _ _ _ _ (by simp <;> omega)).trans h1,(World.cell?_setCell_other _ _ _ _ (by simp <;> omega)).trans h2,(World.cell?_setCell_other _ _ _ _ (by simp <;> omega)).trans h3,(World.cell?_setCell_other _ _ _ _ (by simp <;> omega)).trans h4,(World.cell?_setCell_other _ _ _ _ (by simp <;> omega)).trans h5⟩
 have hwb:IntKind.u16.wrap (m.rd x.s ((x.c.r s+n)%65536)).1=(m.rd x.s ((x.c.r s+n)%65536)).1:=by have:=R.byte x.s ((x.c.r s+n)%65536);rw [u16w];omega
 clear hP R
 go_enter Tryz.func268,Tryz.ntmps268
 go_wp2
 go_region_held3 (λw'=>w'.cell? ⟨w.heap.size,1,none⟩=some (.int .i64 d)/\w'.cell? ⟨w.heap.size,2,none⟩=some (.int .i64 s)/\w'.cell? ⟨w.heap.size,3,none⟩=some (.int .i64 n)/\w'.cell? ⟨p,15,none⟩=some (fw nr cr)/\w'.cell? ⟨p,16,none⟩=some (fw nw cw))
  (first|(go_keep;done)|exact HS.out _ _ (by assumption))
  (first
    | (go_at_call 265;refine (zbZ _ p s n (x.c.r s) hs ?_ ?_).mono ?_;(exact HB.out.regS s hs rfl);(exact HB.out.ltS rfl);rintro e w' ⟨rfl,rfl⟩)
    | (go_at_call 180;refine (HR.out.read _ x.s ((x.c.r s+n)%65536) (by omega) (by omega) ?_).mono ?_;(exact HB.out.invS HR.out rfl);rintro e w2 ⟨rfl,hI2,hm2⟩;obtain ⟨k2,f2,z2⟩:=HB.out.after hm2 rfl;obtain ⟨hz2,hq2⟩:=HR.out.boxS HP.out.inv hm2 rfl;have cd2:w2.cell? ⟨p,d,none⟩=some (.int .u16 (x.c.r d)):=(k2 d).trans (HB.out.reg d hd)))
 go_wp2
 go_end0
 exact ⟨rfl,((HB.out.movedS HR.out hI2 hm2 rfl).putR HR.out d hd _ (HR.out.byte _ _).1 (Int.le_trans (HR.out.byte _ _).2 (by omega))).same HR.out rfl,((HM.out.drew.moved hm2).set HP.out.big d _)⟩
theorem act_4 (R:RS m B nr nw cr cw I T) (d s:Nat) (n v:Int) (hd:d<8) (hs:s<8) (hv:0<=v) (hv':v<=65535) (w:World) (p:Nat) (x:C.St σ) (hfu:2<=m.fuel x.s) (hP:PI B nr nw cr cw I T w p x) :
 Calls Tryz.prog 266 #[.pointer (some ⟨p,0,none⟩),ordV 4 d s n v] w (AP B nr nw cr cw I T w p x (C.act m x 4 d s n v)):=by
 have hlt:=hP.lt
 have hne:p≠w.heap.size:=by omega
 have hlt1:p<w.heap.size+1:=by omega
 have hd0:(0:Int)<=d:=by omega
 have hd8:(d:Int)<8:=by omega
 have hs0:(0:Int)<=s:=by omega
 have hs8:(s:Int)<8:=by omega
 have cd:=hP.reg d hd
 have cs:=hP.reg s hs
 have rd:=C.Cpu.r_bd hP.ok d
 have rs:=C.Cpu.r_bd hP.ok s
 have HP:=hid hP
 have HR:=hid R
 have HB:=hid (hP.box R (.cells #[.int .i64 ((4:Nat):Int),.int .i64 d,.int .i64 s,.int .i64 n,.int .i64 v] 225))
 have HM:=hid (PM.box R hP (.cells #[.int .i64 ((4:Nat):Int),.int .i64 d,.int .i64 s,.int .i64 n,.int .i64 v] 225))
 obtain ⟨_,_,_,_,_,_,_,c15,c16,_⟩:=hP.cells
 have HFU:=hid hfu
 clear hfu
 clear hP R
 go_enter Tryz.func266,Tryz.ntmps266
 go_wp2
 go_region_held3 (λw'=>w'.cell? ⟨w.heap.size,1,none⟩=some (.int .i64 d)/\w'.cell? ⟨w.heap.size,2,none⟩=some (.int .i64 s)/\w'.cell? ⟨w.heap.size,3,none⟩=some (.int .i64 n)/\w'.cell? ⟨p,s,none⟩=some (.int .u16 (x.c.r s))/\w'.cell? ⟨p,15,none⟩=some (fw nr cr)/\w'.cell? ⟨p,16,none⟩=some (fw nw cw))
  ((go_keep;done))
  (first
    | (go_at_call 265;refine (zbZ _ p d n (x.c.r d) hd ?_ ?_).mono ?_;(exact HB.out.regS d hd rfl);(exact HB.out.ltS rfl);rintro e w' ⟨rfl,rfl⟩)
    | (go_at_call 267;refine (zdo HR.out ((x.c.r d+n)%65536) (x.c.r s) (by omega) (by omega) rs.1 rs.2 _ x.s HFU.out ?_).mono ?_;(exact HB.out.invS HR.out rfl);rintro e w2 ⟨rfl,hI2,hm2⟩;obtain ⟨k2,f2,z2⟩:=HB.out.after hm2 rfl;obtain ⟨hz2,hq2⟩:=HR.out.boxS HP.out.inv hm2 rfl))
 go_wp2
 go_end0
 exact ⟨rfl,HB.out.movedS HR.out hI2 hm2 rfl,HM.out.drew.moved hm2⟩
theorem act_6 (R:RS m B nr nw cr cw I T) (d s:Nat) (n v:Int) (hd:d<8) (hs:s<8) (hv:0<=v) (hv':v<=65535) (w:World) (p:Nat) (x:C.St σ) (hfu:1<=m.fuel x.s) (hP:PI B nr nw cr cw I T w p x) :
 Calls Tryz.prog 269 #[.pointer (some ⟨p,0,none⟩),ordV 6 d s n v] w (AP B nr nw cr cw I T w p x (C.act m x 6 d s n v)):=by
 have hlt:=hP.lt
 have hne:p≠w.heap.size:=by omega
 have hlt1:p<w.heap.size+1:=by omega
 have hd0:(0:Int)<=d:=by omega
 have hd8:(d:Int)<8:=by omega
 have hs0:(0:Int)<=s:=by omega
 have hs8:(s:Int)<8:=by omega
 have cd:=hP.reg d hd
 have cs:=hP.reg s hs
 have rd:=C.Cpu.r_bd hP.ok d
 have rs:=C.Cpu.r_bd hP.ok s
 have HP:=hid hP
 have HR:=hid R
 have HB:=hid (hP.box R (.cells #[.int .i64 ((6:Nat):Int),.int .i64 d,.int .i64 s,.int .i64 n,.int .i64 v] 225))
 have HM:=hid (PM.box R hP (.cells #[.int .i64 ((6:Nat):Int),.int .i64 d,.int .i64 s,.int .i64 n,.int .i64 v] 225))
 obtain ⟨_,_,_,_,_,_,_,c15,c16,_⟩:=hP.cells
 have hwb:IntKind.u8.wrap (x.c.r s)=x.c.r s%256:=IntKind.wrap_u8 _
 have HFU:=hid hfu
 clear hfu
 clear hP R
 go_enter Tryz.func269,Tryz.ntmps269
 go_wp2
 go_region_held3 (λw'=>w'.cell? ⟨w.heap.size,1,none⟩=some (.int .i64 d)/\w'.cell? ⟨w.heap.size,2,none⟩=some (.int .i64 s)/\w'.cell? ⟨w.heap.size,3,none⟩=some (.int .i64 n)/\w'.cell? ⟨p,s,none⟩=some (.int .u16 (x.c.r s))/\w'.cell? ⟨p,15,none⟩=some (fw nr cr)/\w'.cell? ⟨p,16,none⟩=some (fw nw cw))
  ((go_keep;done))
  (first
    | (go_at_call 265;refine (zbZ _ p d n (x.c.r d) hd ?_ ?_).mono ?_;(exact HB.out.regS d hd rfl);(exact HB.out.ltS rfl);rintro e w' ⟨rfl,rfl⟩)
    | (go_at_call 270;refine (HR.out.write _ x.s ((x.c.r d+n)%65536) (x.c.r s%256) (by omega) (by omega) (by omega) (by omega) HFU.out ?_).mono ?_;(exact HB.out.invS HR.out rfl);rintro e w2 ⟨rfl,hI2,hm2⟩;obtain ⟨k2,f2,z2⟩:=HB.out.after hm2 rfl;obtain ⟨hz2,hq2⟩:=HR.out.boxS HP.out.inv hm2 rfl))
 go_wp2
 go_end0
 exact ⟨rfl,HB.out.movedS HR.out hI2 hm2 rfl,HM.out.drew.moved hm2⟩
end
section
variable {σ : Type} {m : C.Mem σ} {B nr nw : Nat} {cr cw : Array Value × Array Value} {I : World -> σ -> Prop} {T : σ -> Nat -> Prop}
theorem zb0 (R:RS m B nr nw cr cw I T) (k:Nat) (hk:isFl k) (d s:Nat) (n v:Int) (hd:d<8) (hs:s<8) (hn:-16<=n/\n<=15) (w:World) (p:Nat) (x:C.St σ) (hP:PI B nr nw cr cw I T w p x) :
 Calls Tryz.prog 271 #[.pointer (some ⟨p,0,none⟩),ordV k d s n v] w (AP B nr nw cr cw I T w p x (C.both x k d s)):=by
 have hlt:=hP.lt
 have hne:p≠w.heap.size:=by omega
 have hlt1:p<w.heap.size+1:=by omega
 have hd0:(0:Int)<=d:=by omega
 have hd8:(d:Int)<8:=by omega
 have hs0:(0:Int)<=s:=by omega
 have hs8:(s:Int)<8:=by omega
 have cd:=hP.reg d hd
 have cs:=hP.reg s hs
 have rd:=C.Cpu.r_bd hP.ok d
 have rs:=C.Cpu.r_bd hP.ok s
 have HP:=hid hP
 have HR:=hid R
 have HB:=hid (hP.box R (.cells #[.int .i64 ((k:Nat):Int),.int .i64 d,.int .i64 s,.int .i64 n,.int .i64 v] 225))
 have HM:=hid (PM.box R hP (.cells #[.int .i64 ((k:Nat):Int),.int .i64 d,.int .i64 s,.int .i64 n,.int .i64 v] 225))
 have HS:Hid (∀ (W:World) (u:Value),(W.cell? ⟨w.heap.size,0,none⟩=some (.int .i64 k)/\W.cell? ⟨w.heap.size,1,none⟩=some (.int .i64 d)/\W.cell? ⟨w.heap.size,2,none⟩=some (.int .i64 s)/\W.cell? ⟨w.heap.size,3,none⟩=some (.int .i64 n)/\W.cell? ⟨w.heap.size,4,none⟩=some (.int .i64 v))->((W.setCell ⟨p,d,none⟩ u).cell? ⟨w.heap.size,0,none⟩=some (.int .i64 k)/\(W.setCell ⟨p,d,none⟩ u).cell? ⟨w.heap.size,1,none⟩=some (.int .i64 d)/\(W.setCell ⟨p,d,none⟩ u).cell? ⟨w.heap.size,2,none⟩=some (.int .i64 s)/\(W.setCell ⟨p,d,none⟩ u).cell? ⟨w.heap.size,3,none⟩=some (.int .i64 n)/\(W.setCell ⟨p,d,none⟩ u).cell? ⟨w.heap.size,4,none⟩=some (.int .i64 v))):=by
  rintro W u ⟨h1,h2,h3,h4,h5⟩
  exact ⟨(World.cell?_setCell_other _ _ _ _ (by simp <;> omega)).trans h1,(World.cell?_setCell_other _ _ _ _ (by simp <;> omega)).trans h2,(World.cell?_setCell_other _ _ _ _ (by simp <;> omega)).trans h3,(World.cell?_setCell_other _ _ _ _ (by simp <;> omega)).trans h4,(World.cell?_setCell_other _ _ _ _ (by simp <;> omega)).trans h5⟩
 clear hP R
 go_enter Tryz.func271,Tryz.ntmps271
 go_wp2
 go_region_with ((go_at_call 276;refine (zcM HR.out k d s n v (x.c.r s) hk hd rs.1 rs.2 _ p x ?_).mono ?_;(exact HB.out.same HR.out rfl);rintro e w2 ⟨rfl,hP2,hm2⟩;obtain ⟨hz2,hq2⟩:=HP.out.boxS HR.out hm2 rfl;have cs2:w2.cell? ⟨p,s,none⟩=some (.int .u16 (x.c.r s)):=hP2.reg s hs;have cd2:=hP2.reg d hd;have f2:=hP2.frozen d;have z2:=hP2.lt;have HRP:=hid hP2;clear hP2))
 all_goals go_wp2
 all_goals go_end0
 all_goals exact ⟨rfl,((HRP.out.putR HR.out d hd _ (zg2 k hk _ _ rd.1 rd.2 rs.1 rs.2).1 (zg2 k hk _ _ rd.1 rd.2 rs.1 rs.2).2)).same HR.out rfl,((HM.out.drew.trans hm2).set HP.out.big d _)⟩
theorem zoK (R:RS m B nr nw cr cw I T) (d s:Nat) (n v:Int) (hd:d<8) (hs:s<8) (hn:-16<=n/\n<=15) (w:World) (p:Nat) (x:C.St σ) (hP:PI B nr nw cr cw I T w p x) :
 Calls Tryz.prog 275 #[.pointer (some ⟨p,0,none⟩),ordV 14 d s n v] w (AP B nr nw cr cw I T w p x (C.act m x 14 d s n v)):=by
 have hlt:=hP.lt
 have hne:p≠w.heap.size:=by omega
 have hlt1:p<w.heap.size+1:=by omega
 have hd0:(0:Int)<=d:=by omega
 have hd8:(d:Int)<8:=by omega
 have hs0:(0:Int)<=s:=by omega
 have hs8:(s:Int)<8:=by omega
 have cd:=hP.reg d hd
 have cs:=hP.reg s hs
 have rd:=C.Cpu.r_bd hP.ok d
 have rs:=C.Cpu.r_bd hP.ok s
 have HP:=hid hP
 have HR:=hid R
 have HB:=hid (hP.box R (.cells #[.int .i64 ((14:Nat):Int),.int .i64 d,.int .i64 s,.int .i64 n,.int .i64 v] 225))
 have HM:=hid (PM.box R hP (.cells #[.int .i64 ((14:Nat):Int),.int .i64 d,.int .i64 s,.int .i64 n,.int .i64 v] 225))
 have hk:isFl 14:=Or.inr (Or.inr (Or.inr (Or.inl rfl)))
 clear hP R
 go_enter Tryz.func275,Tryz.ntmps275
 go_wp2
 go_region_held3 (λw'=>w'.cell? ⟨w.heap.size,0,none⟩=some (.int .i64 14)/\w'.cell? ⟨w.heap.size,1,none⟩=some (.int .i64 d)/\w'.cell? ⟨w.heap.size,2,none⟩=some (.int .i64 s)/\w'.cell? ⟨w.heap.size,3,none⟩=some (.int .i64 n)/\w'.cell? ⟨w.heap.size,4,none⟩=some (.int .i64 v)/\w'.cell? ⟨p,s,none⟩=some (.int .u16 (x.c.r s)))
  ((go_keep;done))
  ((go_at_call 276;refine (zcM HR.out 14 d s n v (x.c.r s) hk hd rs.1 rs.2 _ p x ?_).mono ?_;(exact HB.out.same HR.out rfl);rintro e w2 ⟨rfl,hP2,hm2⟩;obtain ⟨hz2,hq2⟩:=HP.out.boxS HR.out hm2 rfl;have cs2:w2.cell? ⟨p,s,none⟩=some (.int .u16 (x.c.r s)):=hP2.reg s hs;have cd2:=hP2.reg d hd;have f2:=hP2.frozen d;have z2:=hP2.lt;have HRP:=hid hP2;clear hP2))
 go_wp2
 go_end0
 exact ⟨rfl,HRP.out.same HR.out rfl,HM.out.drew.trans hm2⟩
theorem zoL (R:RS m B nr nw cr cw I T) (d s:Nat) (n v:Int) (hd:d<8) (hs:s<8) (hn:-16<=n/\n<=15) (w:World) (p:Nat) (x:C.St σ) (hP:PI B nr nw cr cw I T w p x) :
 Calls Tryz.prog 277 #[.pointer (some ⟨p,0,none⟩),ordV 15 d s n v] w (AP B nr nw cr cw I T w p x (C.act m x 15 d s n v)):=by
 have hlt:=hP.lt
 have hne:p≠w.heap.size:=by omega
 have hlt1:p<w.heap.size+1:=by omega
 have hd0:(0:Int)<=d:=by omega
 have hd8:(d:Int)<8:=by omega
 have hs0:(0:Int)<=s:=by omega
 have hs8:(s:Int)<8:=by omega
 have cd:=hP.reg d hd
 have cs:=hP.reg s hs
 have rd:=C.Cpu.r_bd hP.ok d
 have rs:=C.Cpu.r_bd hP.ok s
 have HP:=hid hP
 have HR:=hid R
 have HB:=hid (hP.box R (.cells #[.int .i64 ((15:Nat):Int),.int .i64 d,.int .i64 s,.int .i64 n,.int .i64 v] 225))
 have HM:=hid (PM.box R hP (.cells #[.int .i64 ((15:Nat):Int),.int .i64 d,.int .i64 s,.int .i64 n,.int .i64 v] 225))
 have hk:isFl 15:=Or.inr (Or.inl rfl)
 have hw:=u16w n
 have hnw:0<=n%65536/\n%65536<=65535:=by omega
 have HS:Hid (∀ (W:World) (u:Value),(W.cell? ⟨w.heap.size,0,none⟩=some (.int .i64 15)/\W.cell? ⟨w.heap.size,1,none⟩=some (.int .i64 d)/\W.cell? ⟨w.heap.size,2,none⟩=some (.int .i64 s)/\W.cell? ⟨w.heap.size,3,none⟩=some (.int .i64 n)/\W.cell? ⟨w.heap.size,4,none⟩=some (.int .i64 v))->((W.setCell ⟨p,d,none⟩ u).cell? ⟨w.heap.size,0,none⟩=some (.int .i64 15)/\(W.setCell ⟨p,d,none⟩ u).cell? ⟨w.heap.size,1,none⟩=some (.int .i64 d)/\(W.setCell ⟨p,d,none⟩ u).cell? ⟨w.heap.size,2,none⟩=some (.int .i64 s)/\(W.setCell ⟨p,d,none⟩ u).cell? ⟨w.heap.size,3,none⟩=some (.int .i64 n)/\(W.setCell ⟨p,d,none⟩ u).cell? ⟨w.heap.size,4,none⟩=some (.int .i64 v))):=by
  rintro W u ⟨h1,h2,h3,h4,h5⟩
  exact ⟨(World.cell?_setCell_other _ _ _ _ (by simp <;> omega)).trans h1,(World.cell?_setCell_other _ _ _ _ (by simp <;> omega)).trans h2,(World.cell?_setCell_other _ _ _ _ (by simp <;> omega)).trans h3,(World.cell?_setCell_other _ _ _ _ (by simp <;> omega)).trans h4,(World.cell?_setCell_other _ _ _ _ (by simp <;> omega)).trans h5⟩
 clear hP R
 go_enter Tryz.func277,Tryz.ntmps277
 go_wp2
 go_region_held3 (λw'=>w'.cell? ⟨w.heap.size,0,none⟩=some (.int .i64 15)/\w'.cell? ⟨w.heap.size,1,none⟩=some (.int .i64 d)/\w'.cell? ⟨w.heap.size,2,none⟩=some (.int .i64 s)/\w'.cell? ⟨w.heap.size,3,none⟩=some (.int .i64 n)/\w'.cell? ⟨w.heap.size,4,none⟩=some (.int .i64 v))
  (first|(go_keep;done)|exact HS.out _ _ (by assumption))
  ((go_at_call 276;refine (zcM HR.out 15 d s n v (n%65536) hk hd hnw.1 hnw.2 _ p x ?_).mono ?_;(exact HB.out.same HR.out rfl);rintro e w2 ⟨rfl,hP2,hm2⟩;obtain ⟨hz2,hq2⟩:=HP.out.boxS HR.out hm2 rfl;have cs2:w2.cell? ⟨p,s,none⟩=some (.int .u16 (x.c.r s)):=hP2.reg s hs;have cd2:=hP2.reg d hd;have f2:=hP2.frozen d;have z2:=hP2.lt;have HRP:=hid hP2;clear hP2))
 go_wp2
 go_end0
 exact ⟨rfl,((HRP.out.putR HR.out d hd _ (zg2 15 hk _ _ rd.1 rd.2 hnw.1 hnw.2).1 (zg2 15 hk _ _ rd.1 rd.2 hnw.1 hnw.2).2)).same HR.out rfl,((HM.out.drew.trans hm2).set HP.out.big d _)⟩
theorem zoM (R:RS m B nr nw cr cw I T) (d s:Nat) (n v:Int) (hd:d<8) (hs:s<8) (hv:0<=v) (hv':v<=65535) (w:World) (p:Nat) (x:C.St σ) (hfu:2<=m.fuel x.s) (hP:PI B nr nw cr cw I T w p x) :
 Calls Tryz.prog 283 #[.pointer (some ⟨p,0,none⟩),ordV 20 d s n v] w (AP B nr nw cr cw I T w p x (C.act m x 20 d s n v)):=by
 have hlt:=hP.lt
 have hne:p≠w.heap.size:=by omega
 have hlt1:p<w.heap.size+1:=by omega
 have hd0:(0:Int)<=d:=by omega
 have hd8:(d:Int)<8:=by omega
 have hs0:(0:Int)<=s:=by omega
 have hs8:(s:Int)<8:=by omega
 have cd:=hP.reg d hd
 have cs:=hP.reg s hs
 have rd:=C.Cpu.r_bd hP.ok d
 have rs:=C.Cpu.r_bd hP.ok s
 have HP:=hid hP
 have HR:=hid R
 have HB:=hid (hP.box R (.cells #[.int .i64 ((20:Nat):Int),.int .i64 d,.int .i64 s,.int .i64 n,.int .i64 v] 225))
 have HM:=hid (PM.box R hP (.cells #[.int .i64 ((20:Nat):Int),.int .i64 d,.int .i64 s,.int .i64 n,.int .i64 v] 225))
 obtain ⟨c8,_,_,_,_,_,_,c15,c16,_⟩:=hP.cells
 have hw:IntKind.u16.wrap v=v:=by rw [u16w];omega
 have HK:=hid hP.ok
 have HFU:=hid hfu
 clear hfu
 clear hP R
 go_enter Tryz.func283,Tryz.ntmps283
 go_wp2_with (go_at_call 256;refine (zc4 HR.out x.c.PC HK.out.2.2.1 HK.out.2.2.2 _ p x HFU.out ?_).mono ?_;(exact HB.out);rintro e w2 ⟨rfl,hP2,hm2⟩;obtain ⟨hz2,hq2⟩:=HP.out.boxS HR.out hm2 rfl;have q4:=hq2 4;have f2:=hP2.frozen 8;have z2:=hP2.lt;obtain ⟨e8,_,_,_,_,_,_,_,_,_⟩:=hP2.cells;have HRP:=hid hP2;clear hP2)
 go_end0
 exact ⟨rfl,HRP.out.putPC HR.out v hv hv',(HM.out.trans hm2).set HP.out.big 8 _⟩
theorem zoN (R:RS m B nr nw cr cw I T) (d s:Nat) (n v:Int) (hd:d<8) (hs:s<8) (hv:0<=v) (hv':v<=65535) (w:World) (p:Nat) (x:C.St σ) (hP:PI B nr nw cr cw I T w p x) :
 Calls Tryz.prog 284 #[.pointer (some ⟨p,0,none⟩),ordV 21 d s n v] w (AP B nr nw cr cw I T w p x (C.act m x 21 d s n v)):=by
 have hlt:=hP.lt
 have hne:p≠w.heap.size:=by omega
 have hlt1:p<w.heap.size+1:=by omega
 have hd0:(0:Int)<=d:=by omega
 have hd8:(d:Int)<8:=by omega
 have hs0:(0:Int)<=s:=by omega
 have hs8:(s:Int)<8:=by omega
 have cd:=hP.reg d hd
 have cs:=hP.reg s hs
 have rd:=C.Cpu.r_bd hP.ok d
 have rs:=C.Cpu.r_bd hP.ok s
 have HP:=hid hP
 have HR:=hid R
 have HB:=hid (hP.box R (.cells #[.int .i64 ((21:Nat):Int),.int .i64 d,.int .i64 s,.int .i64 n,.int .i64 v] 225))
 have HM:=hid (PM.box R hP (.cells #[.int .i64 ((21:Nat):Int),.int .i64 d,.int .i64 s,.int .i64 n,.int .i64 v] 225))
 clear hP R
 go_enter Tryz.func284,Tryz.ntmps284
 go_wp2_with (go_at_call 285;refine (zfh HR.out _ p x ?_).mono ?_;(exact HB.out);rintro e w2 ⟨rfl,hP2,hm2⟩;have f2:=hP2.frozen 8;have z2:=hP2.lt;obtain ⟨e8,_,_,_,_,_,_,_,_,_⟩:=hP2.cells;have HRP:=hid hP2;clear hP2)
 go_end0
 exact ⟨rfl,HRP.out.putPC HR.out _ (HR.out.word _ _).1 (HR.out.word _ _).2,(HM.out.trans hm2).set HP.out.big 8 _⟩
theorem zoO (R:RS m B nr nw cr cw I T) (d s:Nat) (n v:Int) (hd:d<8) (hs:s<8) (hv:0<=v) (hv':v<=65535) (w:World) (p:Nat) (x:C.St σ) (hfu:2<=m.fuel x.s) (hP:PI B nr nw cr cw I T w p x) :
 Calls Tryz.prog 286 #[.pointer (some ⟨p,0,none⟩),ordV 22 d s n v] w (AP B nr nw cr cw I T w p x (C.act m x 22 d s n v)):=by
 have hlt:=hP.lt
 have hne:p≠w.heap.size:=by omega
 have hlt1:p<w.heap.size+1:=by omega
 have hd0:(0:Int)<=d:=by omega
 have hd8:(d:Int)<8:=by omega
 have hs0:(0:Int)<=s:=by omega
 have hs8:(s:Int)<8:=by omega
 have cd:=hP.reg d hd
 have cs:=hP.reg s hs
 have rd:=C.Cpu.r_bd hP.ok d
 have rs:=C.Cpu.r_bd hP.ok s
 have HP:=hid hP
 have HR:=hid R
 have HB:=hid (hP.box R (.cells #[.int .i64 ((22:Nat):Int),.int .i64 d,.int .i64 s,.int .i64 n,.int .i64 v] 225))
 have HM:=hid (PM.box R hP (.cells #[.int .i64 ((22:Nat):Int),.int .i64 d,.int .i64 s,.int .i64 n,.int .i64 v] 225))
 have HFU:=hid hfu
 clear hfu
 clear hP R
 go_enter Tryz.func286,Tryz.ntmps286
 go_wp2
 go_region_with ((go_at_call 256;refine (zc4 HR.out (x.c.r s) rs.1 rs.2 _ p x HFU.out ?_).mono ?_;(exact HB.out.same HR.out rfl);rintro e w2 ⟨rfl,hP2,hm2⟩;obtain ⟨hz2,hq2⟩:=HP.out.boxS HR.out hm2 rfl;have HRP:=hid hP2;clear hP2))
 all_goals go_wp2
 all_goals go_end0
 all_goals exact ⟨rfl,HRP.out.same HR.out rfl,HM.out.drew.trans hm2⟩
theorem zoP (R:RS m B nr nw cr cw I T) (d s:Nat) (n v:Int) (hd:d<8) (hs:s<8) (hv:0<=v) (hv':v<=65535) (w:World) (p:Nat) (x:C.St σ) (hP:PI B nr nw cr cw I T w p x) :
 Calls Tryz.prog 287 #[.pointer (some ⟨p,0,none⟩),ordV 23 d s n v] w (AP B nr nw cr cw I T w p x (C.act m x 23 d s n v)):=by
 have hlt:=hP.lt
 have hne:p≠w.heap.size:=by omega
 have hlt1:p<w.heap.size+1:=by omega
 have hd0:(0:Int)<=d:=by omega
 have hd8:(d:Int)<8:=by omega
 have hs0:(0:Int)<=s:=by omega
 have hs8:(s:Int)<8:=by omega
 have cd:=hP.reg d hd
 have cs:=hP.reg s hs
 have rd:=C.Cpu.r_bd hP.ok d
 have rs:=C.Cpu.r_bd hP.ok s
 have HP:=hid hP
 have HR:=hid R
 have HB:=hid (hP.box R (.cells #[.int .i64 ((23:Nat):Int),.int .i64 d,.int .i64 s,.int .i64 n,.int .i64 v] 225))
 have HM:=hid (PM.box R hP (.cells #[.int .i64 ((23:Nat):Int),.int .i64 d,.int .i64 s,.int .i64 n,.int .i64 v] 225))
 clear hP R
 go_enter Tryz.func287,Tryz.ntmps287
 go_wp2_with (go_at_call 285;refine (zfh HR.out _ p x ?_).mono ?_;(exact HB.out);rintro e w2 ⟨rfl,hP2,hm2⟩;obtain ⟨hz2,hq2⟩:=HP.out.boxS HR.out hm2 rfl;have q1:=hq2 1;have cd2:=hP2.reg d hd;have f2:=hP2.frozen d;have z2:=hP2.lt;have HRP:=hid hP2;clear hP2)
 go_region
 go_wp2
 go_end0
 exact ⟨rfl,(HRP.out.putR HR.out d hd _ (HR.out.word _ _).1 (HR.out.word _ _).2).same HR.out rfl,((HM.out.trans hm2).set HP.out.big d _).drew⟩
theorem zoQ (R:RS m B nr nw cr cw I T) (d s:Nat) (n v:Int) (hd:d<8) (hs:s<8) (hv:0<=v) (hv':v<=65535) (w:World) (p:Nat) (x:C.St σ) (hP:PI B nr nw cr cw I T w p x) :
 Calls Tryz.prog 288 #[.pointer (some ⟨p,0,none⟩),ordV 24 d s n v] w (AP B nr nw cr cw I T w p x (C.act m x 24 d s n v)):=by
 have hlt:=hP.lt
 have hne:p≠w.heap.size:=by omega
 have hlt1:p<w.heap.size+1:=by omega
 have hd0:(0:Int)<=d:=by omega
 have hd8:(d:Int)<8:=by omega
 have hs0:(0:Int)<=s:=by omega
 have hs8:(s:Int)<8:=by omega
 have cd:=hP.reg d hd
 have cs:=hP.reg s hs
 have rd:=C.Cpu.r_bd hP.ok d
 have rs:=C.Cpu.r_bd hP.ok s
 have HP:=hid hP
 have HR:=hid R
 have HB:=hid (hP.box R (.cells #[.int .i64 ((24:Nat):Int),.int .i64 d,.int .i64 s,.int .i64 n,.int .i64 v] 225))
 have HM:=hid (PM.box R hP (.cells #[.int .i64 ((24:Nat):Int),.int .i64 d,.int .i64 s,.int .i64 n,.int .i64 v] 225))
 have hf:=hP.frozen 13
 obtain ⟨_,_,_,_,_,c13,c14,_,_,_⟩:=hP.cells
 clear hP R
 go_enter Tryz.func288,Tryz.ntmps288
 go_wp2
 go_end0
 exact ⟨rfl,((HP.out.putMay HR.out true).box HR.out _).same HR.out rfl,((PM.refl B T p x.s w).set HP.out.big 13 _).alloc (HP.out.hB HR.out) _⟩
theorem zoR (R:RS m B nr nw cr cw I T) (d s:Nat) (n v:Int) (hd:d<8) (hs:s<8) (hv:0<=v) (hv':v<=65535) (w:World) (p:Nat) (x:C.St σ) (hP:PI B nr nw cr cw I T w p x) :
 Calls Tryz.prog 289 #[.pointer (some ⟨p,0,none⟩),ordV 25 d s n v] w (AP B nr nw cr cw I T w p x (C.act m x 25 d s n v)):=by
 have hlt:=hP.lt
 have hne:p≠w.heap.size:=by omega
 have hlt1:p<w.heap.size+1:=by omega
 have hd0:(0:Int)<=d:=by omega
 have hd8:(d:Int)<8:=by omega
 have hs0:(0:Int)<=s:=by omega
 have hs8:(s:Int)<8:=by omega
 have cd:=hP.reg d hd
 have cs:=hP.reg s hs
 have rd:=C.Cpu.r_bd hP.ok d
 have rs:=C.Cpu.r_bd hP.ok s
 have HP:=hid hP
 have HR:=hid R
 have HB:=hid (hP.box R (.cells #[.int .i64 ((25:Nat):Int),.int .i64 d,.int .i64 s,.int .i64 n,.int .i64 v] 225))
 have HM:=hid (PM.box R hP (.cells #[.int .i64 ((25:Nat):Int),.int .i64 d,.int .i64 s,.int .i64 n,.int .i64 v] 225))
 have hf:=hP.frozen 13
 obtain ⟨_,_,_,_,_,c13,c14,_,_,_⟩:=hP.cells
 clear hP R
 go_enter Tryz.func289,Tryz.ntmps289
 go_wp2
 go_end0
 exact ⟨rfl,((HP.out.putMay HR.out false).box HR.out _).same HR.out rfl,((PM.refl B T p x.s w).set HP.out.big 13 _).alloc (HP.out.hB HR.out) _⟩
theorem zoS (R:RS m B nr nw cr cw I T) (d s:Nat) (n v:Int) (hd:d<8) (hs:s<8) (hv:0<=v) (hv':v<=65535) (w:World) (p:Nat) (x:C.St σ) (hP:PI B nr nw cr cw I T w p x) :
 Calls Tryz.prog 292 #[.pointer (some ⟨p,0,none⟩),ordV 27 d s n v] w (AP B nr nw cr cw I T w p x (C.act m x 27 d s n v)):=by
 have hlt:=hP.lt
 have hne:p≠w.heap.size:=by omega
 have hlt1:p<w.heap.size+1:=by omega
 have hd0:(0:Int)<=d:=by omega
 have hd8:(d:Int)<8:=by omega
 have hs0:(0:Int)<=s:=by omega
 have hs8:(s:Int)<8:=by omega
 have cd:=hP.reg d hd
 have cs:=hP.reg s hs
 have rd:=C.Cpu.r_bd hP.ok d
 have rs:=C.Cpu.r_bd hP.ok s
 have HP:=hid hP
 have HR:=hid R
 have HB:=hid (hP.box R (.cells #[.int .i64 ((27:Nat):Int),.int .i64 d,.int .i64 s,.int .i64 n,.int .i64 v] 225))
 have HM:=hid (PM.box R hP (.cells #[.int .i64 ((27:Nat):Int),.int .i64 d,.int .i64 s,.int .i64 n,.int .i64 v] 225))
 have hf:=hP.frozen 14
 obtain ⟨_,_,_,_,_,c13,c14,_,_,_⟩:=hP.cells
 clear hP R
 go_enter Tryz.func292,Tryz.ntmps292
 go_wp2
 go_end0
 exact ⟨rfl,((HP.out.putWaits HR.out true).box HR.out _).same HR.out rfl,((PM.refl B T p x.s w).set HP.out.big 14 _).alloc (HP.out.hB HR.out) _⟩
theorem zoT (R:RS m B nr nw cr cw I T) (d s:Nat) (n v:Int) (hd:d<8) (hs:s<8) (hv:0<=v) (hv':v<=65535) (w:World) (p:Nat) (x:C.St σ) (hP:PI B nr nw cr cw I T w p x) :
 Calls Tryz.prog 290 #[.pointer (some ⟨p,0,none⟩),ordV 26 d s n v] w (AP B nr nw cr cw I T w p x (C.act m x 26 d s n v)):=by
 have hlt:=hP.lt
 have hne:p≠w.heap.size:=by omega
 have hlt1:p<w.heap.size+1:=by omega
 have hd0:(0:Int)<=d:=by omega
 have hd8:(d:Int)<8:=by omega
 have hs0:(0:Int)<=s:=by omega
 have hs8:(s:Int)<8:=by omega
 have cd:=hP.reg d hd
 have cs:=hP.reg s hs
 have rd:=C.Cpu.r_bd hP.ok d
 have rs:=C.Cpu.r_bd hP.ok s
 have HP:=hid hP
 have HR:=hid R
 have HB:=hid (hP.box R (.cells #[.int .i64 ((26:Nat):Int),.int .i64 d,.int .i64 s,.int .i64 n,.int .i64 v] 225))
 have HM:=hid (PM.box R hP (.cells #[.int .i64 ((26:Nat):Int),.int .i64 d,.int .i64 s,.int .i64 n,.int .i64 v] 225))
 clear hP R
 go_enter Tryz.func290,Tryz.ntmps290
 go_wp2_with (go_at_call 291;refine (zfS HR.out _ p x ?_).mono ?_;(exact HB.out);rintro e w2 ⟨rfl,hP2,hm2⟩;have HRP:=hid hP2;clear hP2)
 go_end0
 exact ⟨rfl,HRP.out,HM.out.trans hm2⟩
theorem zoU (R:RS m B nr nw cr cw I T) (d s:Nat) (n v:Int) (hd:d<8) (hs:s<8) (hv:0<=v) (hv':v<=65535) (w:World) (p:Nat) (x:C.St σ) (hfu:4<=m.fuel x.s) (hP:PI B nr nw cr cw I T w p x) :
 Calls Tryz.prog 294 #[.pointer (some ⟨p,0,none⟩),ordV 31 d s n v] w (AP B nr nw cr cw I T w p x (C.act m x 31 d s n v)):=by
 have hlt:=hP.lt
 have hne:p≠w.heap.size:=by omega
 have hlt1:p<w.heap.size+1:=by omega
 have hd0:(0:Int)<=d:=by omega
 have hd8:(d:Int)<8:=by omega
 have hs0:(0:Int)<=s:=by omega
 have hs8:(s:Int)<8:=by omega
 have cd:=hP.reg d hd
 have cs:=hP.reg s hs
 have rd:=C.Cpu.r_bd hP.ok d
 have rs:=C.Cpu.r_bd hP.ok s
 have HP:=hid hP
 have HR:=hid R
 have HB:=hid (hP.box R (.cells #[.int .i64 ((31:Nat):Int),.int .i64 d,.int .i64 s,.int .i64 n,.int .i64 v] 225))
 have HM:=hid (PM.box R hP (.cells #[.int .i64 ((31:Nat):Int),.int .i64 d,.int .i64 s,.int .i64 n,.int .i64 v] 225))
 have HFU:=hid hfu
 clear hfu
 clear hP R
 go_enter Tryz.func294,Tryz.ntmps294
 go_wp2_with (go_at_call 229;refine (zfR HR.out 4 (by omega) (by omega) _ p x HFU.out ?_).mono ?_;(exact HB.out);rintro e w2 ⟨rfl,hP2,hm2⟩;have HRP:=hid hP2;clear hP2)
 go_end0
 exact ⟨rfl,HRP.out,HM.out.trans hm2⟩
end
end Go.Proofs.YtbennamieealbaaGreatDoor
