/-
  Parts of a proof, joined.
-/
import Derived.Test.YtbhpfkjfijdmaaaGreatDoorZy08
import Derived.Test.YtbhpfkjfijdmaaaGreatDoorZy03
import Derived.Deep.MidRow
namespace Go.Proofs.YtbhpfkjfijdmaaaGreatDoor
open Go.ChangeShapes Go.WideShapes Go.ChangeAt Go.RowKit
set_option linter.unusedVariables false
set_option maxRecDepth 100000
set_option maxHeartbeats 1600000
section
variable {σ : Type} {m : C.Mem σ} {B nr nw : Nat} {cr cw : Array Value × Array Value} {I : World -> σ -> Prop} {T : σ -> Nat -> Prop}
theorem jt_true (R:RS m B nr nw cr cw I T) (k d s:Nat) (n v:Int) (hv:0<=v) (hv':v<=65535) (b:Nat) (w:World) (p:Nat) (x:C.St σ) (hx0:0<=x.n) (hx1:x.n<=100) (hP:PI B nr nw cr cw I T w p x) (hb:w.cell? ⟨b,0,none⟩=some (fv 225 #[])) (ht:(true)=true) :
 Calls Tryz.prog 266 #[.pointer (some ⟨p,0,none⟩),ordV k d s n v,.pointer (some ⟨b,0,none⟩)] w (AP B nr nw cr cw I T w p x (C.jump x v)):=by
 have hlt:=hP.lt
 have hne:p ≠ w.heap.size:=by omega
 have hlt1:p < w.heap.size+1:=by omega
 have hbl:b < w.heap.size:=World.block_lt_of_cell? w _ hb
 have hbne:b ≠ w.heap.size:=by omega
 have hbl1:b < w.heap.size+1:=by omega
 have hw:IntKind.u16.wrap v=v:=by rw [u16w];omega
 have HP:=hid hP
 have HR:=hid R
 obtain ⟨c8,c9,c10,c11,c12,c13,c14,c15,c16,c17⟩:=hP.cells
 obtain ⟨c0,c1,c2,c3,c4,c5,c6,c7⟩:=hP.regs
 have HC:Hid (∀ W:World,Calls Tryz.prog 225 #[cpuV x.c] W fun e w'=>e = .returned (.bool true)/\Below W.heap.size W w'):=fun W=>(jt_pred x.c W).mono fun _ _ hh=>⟨hh.1.trans (ret_b ht),hh.2⟩
 clear hP R ht
 go_enter Tryz.func266,Tryz.ntmps266
 go_wp2
 go_region_held3 (fun w'=>w'.cell? ⟨b,0,none⟩=some (fv 225 #[])/\w'.cell? ⟨p,0,none⟩=some (.int .u16 (x.c.r 0))/\w'.cell? ⟨p,1,none⟩=some (.int .u16 (x.c.r 1))/\w'.cell? ⟨p,2,none⟩=some (.int .u16 (x.c.r 2))/\w'.cell? ⟨p,3,none⟩=some (.int .u16 (x.c.r 3))/\w'.cell? ⟨p,4,none⟩=some (.int .u16 (x.c.r 4))/\w'.cell? ⟨p,5,none⟩=some (.int .u16 (x.c.r 5))/\w'.cell? ⟨p,6,none⟩=some (.int .u16 (x.c.r 6))/\w'.cell? ⟨p,7,none⟩=some (.int .u16 (x.c.r 7))/\w'.cell? ⟨p,8,none⟩=some (.int .u16 x.c.PC)/\w'.cell? ⟨p,9,none⟩=some (.bool x.c.Z)/\w'.cell? ⟨p,10,none⟩=some (.bool x.c.N)/\w'.cell? ⟨p,11,none⟩=some (.bool x.c.C)/\w'.cell? ⟨p,12,none⟩=some (.bool x.c.V)/\w'.cell? ⟨p,13,none⟩=some (.bool x.c.May)/\w'.cell? ⟨p,14,none⟩=some (.bool x.c.Waits))
  ((go_keep;done))
  ((go_at_call 225;refine (HC.out _).mono ?_;rintro e w2 ⟨rfl,hb2⟩;obtain ⟨k2,f2⟩:=bcell hb2))
 have hbw:=stp (stA (st0 w) (.cells #[.int .i64 k,.int .i64 d,.int .i64 s,.int .i64 n,.int .i64 v] 255)).drew hb2
 have hP1:=HP.out.kept HR.out hbw
 obtain ⟨e8,e9,e10,e11,e12,e13,e14,e15,e16,e17⟩:=hP1.cells
 have ef:=hP1.frozen
 have el:=hP1.lt
 have q4:w2.cell? ⟨w.heap.size,4,none⟩=some (.int .i64 v):=(k2 _ 4 (by simp)).trans (by simp)
 have ql:w.heap.size < w2.heap.size:=by have:=hb2.size;simp at this;omega
 have HP1:=hid hP1
 have HBW:=hid hbw
 clear hP1 hbw k2 f2
 go_wp2
 go_end0
 exact ⟨rfl,(HP1.out.putPC HR.out v hv hv').putCyc HR.out _,(((PM.refl B T p x.s w).kept (HP.out.hB HR.out) HBW.out).set HP.out.big 8 _).set HP.out.big 17 _⟩
theorem jz_true (R:RS m B nr nw cr cw I T) (k d s:Nat) (n v:Int) (hv:0<=v) (hv':v<=65535) (b:Nat) (w:World) (p:Nat) (x:C.St σ) (hx0:0<=x.n) (hx1:x.n<=100) (hP:PI B nr nw cr cw I T w p x) (hb:w.cell? ⟨b,0,none⟩=some (fv 226 #[])) (ht:(x.c.Z)=true) :
 Calls Tryz.prog 266 #[.pointer (some ⟨p,0,none⟩),ordV k d s n v,.pointer (some ⟨b,0,none⟩)] w (AP B nr nw cr cw I T w p x (C.jump x v)):=by
 have hlt:=hP.lt
 have hne:p ≠ w.heap.size:=by omega
 have hlt1:p < w.heap.size+1:=by omega
 have hbl:b < w.heap.size:=World.block_lt_of_cell? w _ hb
 have hbne:b ≠ w.heap.size:=by omega
 have hbl1:b < w.heap.size+1:=by omega
 have hw:IntKind.u16.wrap v=v:=by rw [u16w];omega
 have HP:=hid hP
 have HR:=hid R
 obtain ⟨c8,c9,c10,c11,c12,c13,c14,c15,c16,c17⟩:=hP.cells
 obtain ⟨c0,c1,c2,c3,c4,c5,c6,c7⟩:=hP.regs
 have HC:Hid (∀ W:World,Calls Tryz.prog 226 #[cpuV x.c] W fun e w'=>e = .returned (.bool true)/\Below W.heap.size W w'):=fun W=>(jz_pred x.c W).mono fun _ _ hh=>⟨hh.1.trans (ret_b ht),hh.2⟩
 clear hP R ht
 go_enter Tryz.func266,Tryz.ntmps266
 go_wp2
 go_region_held3 (fun w'=>w'.cell? ⟨b,0,none⟩=some (fv 226 #[])/\w'.cell? ⟨p,0,none⟩=some (.int .u16 (x.c.r 0))/\w'.cell? ⟨p,1,none⟩=some (.int .u16 (x.c.r 1))/\w'.cell? ⟨p,2,none⟩=some (.int .u16 (x.c.r 2))/\w'.cell? ⟨p,3,none⟩=some (.int .u16 (x.c.r 3))/\w'.cell? ⟨p,4,none⟩=some (.int .u16 (x.c.r 4))/\w'.cell? ⟨p,5,none⟩=some (.int .u16 (x.c.r 5))/\w'.cell? ⟨p,6,none⟩=some (.int .u16 (x.c.r 6))/\w'.cell? ⟨p,7,none⟩=some (.int .u16 (x.c.r 7))/\w'.cell? ⟨p,8,none⟩=some (.int .u16 x.c.PC)/\w'.cell? ⟨p,9,none⟩=some (.bool x.c.Z)/\w'.cell? ⟨p,10,none⟩=some (.bool x.c.N)/\w'.cell? ⟨p,11,none⟩=some (.bool x.c.C)/\w'.cell? ⟨p,12,none⟩=some (.bool x.c.V)/\w'.cell? ⟨p,13,none⟩=some (.bool x.c.May)/\w'.cell? ⟨p,14,none⟩=some (.bool x.c.Waits))
  ((go_keep;done))
  ((go_at_call 226;refine (HC.out _).mono ?_;rintro e w2 ⟨rfl,hb2⟩;obtain ⟨k2,f2⟩:=bcell hb2))
 have hbw:=stp (stA (st0 w) (.cells #[.int .i64 k,.int .i64 d,.int .i64 s,.int .i64 n,.int .i64 v] 255)).drew hb2
 have hP1:=HP.out.kept HR.out hbw
 obtain ⟨e8,e9,e10,e11,e12,e13,e14,e15,e16,e17⟩:=hP1.cells
 have ef:=hP1.frozen
 have el:=hP1.lt
 have q4:w2.cell? ⟨w.heap.size,4,none⟩=some (.int .i64 v):=(k2 _ 4 (by simp)).trans (by simp)
 have ql:w.heap.size < w2.heap.size:=by have:=hb2.size;simp at this;omega
 have HP1:=hid hP1
 have HBW:=hid hbw
 clear hP1 hbw k2 f2
 go_wp2
 go_end0
 exact ⟨rfl,(HP1.out.putPC HR.out v hv hv').putCyc HR.out _,(((PM.refl B T p x.s w).kept (HP.out.hB HR.out) HBW.out).set HP.out.big 8 _).set HP.out.big 17 _⟩
theorem jz_false (R:RS m B nr nw cr cw I T) (k d s:Nat) (n v:Int) (hv:0<=v) (hv':v<=65535) (b:Nat) (w:World) (p:Nat) (x:C.St σ) (hx0:0<=x.n) (hx1:x.n<=100) (hP:PI B nr nw cr cw I T w p x) (hb:w.cell? ⟨b,0,none⟩=some (fv 226 #[])) (ht:(x.c.Z)=false) :
 Calls Tryz.prog 266 #[.pointer (some ⟨p,0,none⟩),ordV k d s n v,.pointer (some ⟨b,0,none⟩)] w (AP B nr nw cr cw I T w p x (x)):=by
 have hlt:=hP.lt
 have hne:p ≠ w.heap.size:=by omega
 have hlt1:p < w.heap.size+1:=by omega
 have hbl:b < w.heap.size:=World.block_lt_of_cell? w _ hb
 have hbne:b ≠ w.heap.size:=by omega
 have hbl1:b < w.heap.size+1:=by omega
 have hw:IntKind.u16.wrap v=v:=by rw [u16w];omega
 have HP:=hid hP
 have HR:=hid R
 obtain ⟨c8,c9,c10,c11,c12,c13,c14,c15,c16,c17⟩:=hP.cells
 obtain ⟨c0,c1,c2,c3,c4,c5,c6,c7⟩:=hP.regs
 have HC:Hid (∀ W:World,Calls Tryz.prog 226 #[cpuV x.c] W fun e w'=>e = .returned (.bool false)/\Below W.heap.size W w'):=fun W=>(jz_pred x.c W).mono fun _ _ hh=>⟨hh.1.trans (ret_b ht),hh.2⟩
 clear hP R ht
 go_enter Tryz.func266,Tryz.ntmps266
 go_wp2
 go_region_held3 (fun w'=>w'.cell? ⟨b,0,none⟩=some (fv 226 #[])/\w'.cell? ⟨p,0,none⟩=some (.int .u16 (x.c.r 0))/\w'.cell? ⟨p,1,none⟩=some (.int .u16 (x.c.r 1))/\w'.cell? ⟨p,2,none⟩=some (.int .u16 (x.c.r 2))/\w'.cell? ⟨p,3,none⟩=some (.int .u16 (x.c.r 3))/\w'.cell? ⟨p,4,none⟩=some (.int .u16 (x.c.r 4))/\w'.cell? ⟨p,5,none⟩=some (.int .u16 (x.c.r 5))/\w'.cell? ⟨p,6,none⟩=some (.int .u16 (x.c.r 6))/\w'.cell? ⟨p,7,none⟩=some (.int .u16 (x.c.r 7))/\w'.cell? ⟨p,8,none⟩=some (.int .u16 x.c.PC)/\w'.cell? ⟨p,9,none⟩=some (.bool x.c.Z)/\w'.cell? ⟨p,10,none⟩=some (.bool x.c.N)/\w'.cell? ⟨p,11,none⟩=some (.bool x.c.C)/\w'.cell? ⟨p,12,none⟩=some (.bool x.c.V)/\w'.cell? ⟨p,13,none⟩=some (.bool x.c.May)/\w'.cell? ⟨p,14,none⟩=some (.bool x.c.Waits))
  ((go_keep;done))
  ((go_at_call 226;refine (HC.out _).mono ?_;rintro e w2 ⟨rfl,hb2⟩;obtain ⟨k2,f2⟩:=bcell hb2))
 have hbw:=stp (stA (st0 w) (.cells #[.int .i64 k,.int .i64 d,.int .i64 s,.int .i64 n,.int .i64 v] 255)).drew hb2
 have hP1:=HP.out.kept HR.out hbw
 obtain ⟨e8,e9,e10,e11,e12,e13,e14,e15,e16,e17⟩:=hP1.cells
 have ef:=hP1.frozen
 have el:=hP1.lt
 have q4:w2.cell? ⟨w.heap.size,4,none⟩=some (.int .i64 v):=(k2 _ 4 (by simp)).trans (by simp)
 have ql:w.heap.size < w2.heap.size:=by have:=hb2.size;simp at this;omega
 have HP1:=hid hP1
 have HBW:=hid hbw
 clear hP1 hbw k2 f2
 go_wp2
 go_end0
 exact ⟨rfl,HP1.out,(PM.refl B T p x.s w).kept (HP.out.hB HR.out) HBW.out⟩
theorem jn_true (R:RS m B nr nw cr cw I T) (k d s:Nat) (n v:Int) (hv:0<=v) (hv':v<=65535) (b:Nat) (w:World) (p:Nat) (x:C.St σ) (hx0:0<=x.n) (hx1:x.n<=100) (hP:PI B nr nw cr cw I T w p x) (hb:w.cell? ⟨b,0,none⟩=some (fv 227 #[])) (ht:(x.c.N)=true) :
 Calls Tryz.prog 266 #[.pointer (some ⟨p,0,none⟩),ordV k d s n v,.pointer (some ⟨b,0,none⟩)] w (AP B nr nw cr cw I T w p x (C.jump x v)):=by
 have hlt:=hP.lt
 have hne:p ≠ w.heap.size:=by omega
 have hlt1:p < w.heap.size+1:=by omega
 have hbl:b < w.heap.size:=World.block_lt_of_cell? w _ hb
 have hbne:b ≠ w.heap.size:=by omega
 have hbl1:b < w.heap.size+1:=by omega
 have hw:IntKind.u16.wrap v=v:=by rw [u16w];omega
 have HP:=hid hP
 have HR:=hid R
 obtain ⟨c8,c9,c10,c11,c12,c13,c14,c15,c16,c17⟩:=hP.cells
 obtain ⟨c0,c1,c2,c3,c4,c5,c6,c7⟩:=hP.regs
 have HC:Hid (∀ W:World,Calls Tryz.prog 227 #[cpuV x.c] W fun e w'=>e = .returned (.bool true)/\Below W.heap.size W w'):=fun W=>(jn_pred x.c W).mono fun _ _ hh=>⟨hh.1.trans (ret_b ht),hh.2⟩
 clear hP R ht
 go_enter Tryz.func266,Tryz.ntmps266
 go_wp2
 go_region_held3 (fun w'=>w'.cell? ⟨b,0,none⟩=some (fv 227 #[])/\w'.cell? ⟨p,0,none⟩=some (.int .u16 (x.c.r 0))/\w'.cell? ⟨p,1,none⟩=some (.int .u16 (x.c.r 1))/\w'.cell? ⟨p,2,none⟩=some (.int .u16 (x.c.r 2))/\w'.cell? ⟨p,3,none⟩=some (.int .u16 (x.c.r 3))/\w'.cell? ⟨p,4,none⟩=some (.int .u16 (x.c.r 4))/\w'.cell? ⟨p,5,none⟩=some (.int .u16 (x.c.r 5))/\w'.cell? ⟨p,6,none⟩=some (.int .u16 (x.c.r 6))/\w'.cell? ⟨p,7,none⟩=some (.int .u16 (x.c.r 7))/\w'.cell? ⟨p,8,none⟩=some (.int .u16 x.c.PC)/\w'.cell? ⟨p,9,none⟩=some (.bool x.c.Z)/\w'.cell? ⟨p,10,none⟩=some (.bool x.c.N)/\w'.cell? ⟨p,11,none⟩=some (.bool x.c.C)/\w'.cell? ⟨p,12,none⟩=some (.bool x.c.V)/\w'.cell? ⟨p,13,none⟩=some (.bool x.c.May)/\w'.cell? ⟨p,14,none⟩=some (.bool x.c.Waits))
  ((go_keep;done))
  ((go_at_call 227;refine (HC.out _).mono ?_;rintro e w2 ⟨rfl,hb2⟩;obtain ⟨k2,f2⟩:=bcell hb2))
 have hbw:=stp (stA (st0 w) (.cells #[.int .i64 k,.int .i64 d,.int .i64 s,.int .i64 n,.int .i64 v] 255)).drew hb2
 have hP1:=HP.out.kept HR.out hbw
 obtain ⟨e8,e9,e10,e11,e12,e13,e14,e15,e16,e17⟩:=hP1.cells
 have ef:=hP1.frozen
 have el:=hP1.lt
 have q4:w2.cell? ⟨w.heap.size,4,none⟩=some (.int .i64 v):=(k2 _ 4 (by simp)).trans (by simp)
 have ql:w.heap.size < w2.heap.size:=by have:=hb2.size;simp at this;omega
 have HP1:=hid hP1
 have HBW:=hid hbw
 clear hP1 hbw k2 f2
 go_wp2
 go_end0
 exact ⟨rfl,(HP1.out.putPC HR.out v hv hv').putCyc HR.out _,(((PM.refl B T p x.s w).kept (HP.out.hB HR.out) HBW.out).set HP.out.big 8 _).set HP.out.big 17 _⟩
theorem jn_false (R:RS m B nr nw cr cw I T) (k d s:Nat) (n v:Int) (hv:0<=v) (hv':v<=65535) (b:Nat) (w:World) (p:Nat) (x:C.St σ) (hx0:0<=x.n) (hx1:x.n<=100) (hP:PI B nr nw cr cw I T w p x) (hb:w.cell? ⟨b,0,none⟩=some (fv 227 #[])) (ht:(x.c.N)=false) :
 Calls Tryz.prog 266 #[.pointer (some ⟨p,0,none⟩),ordV k d s n v,.pointer (some ⟨b,0,none⟩)] w (AP B nr nw cr cw I T w p x (x)):=by
 have hlt:=hP.lt
 have hne:p ≠ w.heap.size:=by omega
 have hlt1:p < w.heap.size+1:=by omega
 have hbl:b < w.heap.size:=World.block_lt_of_cell? w _ hb
 have hbne:b ≠ w.heap.size:=by omega
 have hbl1:b < w.heap.size+1:=by omega
 have hw:IntKind.u16.wrap v=v:=by rw [u16w];omega
 have HP:=hid hP
 have HR:=hid R
 obtain ⟨c8,c9,c10,c11,c12,c13,c14,c15,c16,c17⟩:=hP.cells
 obtain ⟨c0,c1,c2,c3,c4,c5,c6,c7⟩:=hP.regs
 have HC:Hid (∀ W:World,Calls Tryz.prog 227 #[cpuV x.c] W fun e w'=>e = .returned (.bool false)/\Below W.heap.size W w'):=fun W=>(jn_pred x.c W).mono fun _ _ hh=>⟨hh.1.trans (ret_b ht),hh.2⟩
 clear hP R ht
 go_enter Tryz.func266,Tryz.ntmps266
 go_wp2
 go_region_held3 (fun w'=>w'.cell? ⟨b,0,none⟩=some (fv 227 #[])/\w'.cell? ⟨p,0,none⟩=some (.int .u16 (x.c.r 0))/\w'.cell? ⟨p,1,none⟩=some (.int .u16 (x.c.r 1))/\w'.cell? ⟨p,2,none⟩=some (.int .u16 (x.c.r 2))/\w'.cell? ⟨p,3,none⟩=some (.int .u16 (x.c.r 3))/\w'.cell? ⟨p,4,none⟩=some (.int .u16 (x.c.r 4))/\w'.cell? ⟨p,5,none⟩=some (.int .u16 (x.c.r 5))/\w'.cell? ⟨p,6,none⟩=some (.int .u16 (x.c.r 6))/\w'.cell? ⟨p,7,none⟩=some (.int .u16 (x.c.r 7))/\w'.cell? ⟨p,8,none⟩=some (.int .u16 x.c.PC)/\w'.cell? ⟨p,9,none⟩=some (.bool x.c.Z)/\w'.cell? ⟨p,10,none⟩=some (.bool x.c.N)/\w'.cell? ⟨p,11,none⟩=some (.bool x.c.C)/\w'.cell? ⟨p,12,none⟩=some (.bool x.c.V)/\w'.cell? ⟨p,13,none⟩=some (.bool x.c.May)/\w'.cell? ⟨p,14,none⟩=some (.bool x.c.Waits))
  ((go_keep;done))
  ((go_at_call 227;refine (HC.out _).mono ?_;rintro e w2 ⟨rfl,hb2⟩;obtain ⟨k2,f2⟩:=bcell hb2))
 have hbw:=stp (stA (st0 w) (.cells #[.int .i64 k,.int .i64 d,.int .i64 s,.int .i64 n,.int .i64 v] 255)).drew hb2
 have hP1:=HP.out.kept HR.out hbw
 obtain ⟨e8,e9,e10,e11,e12,e13,e14,e15,e16,e17⟩:=hP1.cells
 have ef:=hP1.frozen
 have el:=hP1.lt
 have q4:w2.cell? ⟨w.heap.size,4,none⟩=some (.int .i64 v):=(k2 _ 4 (by simp)).trans (by simp)
 have ql:w.heap.size < w2.heap.size:=by have:=hb2.size;simp at this;omega
 have HP1:=hid hP1
 have HBW:=hid hbw
 clear hP1 hbw k2 f2
 go_wp2
 go_end0
 exact ⟨rfl,HP1.out,(PM.refl B T p x.s w).kept (HP.out.hB HR.out) HBW.out⟩
theorem jc_true (R:RS m B nr nw cr cw I T) (k d s:Nat) (n v:Int) (hv:0<=v) (hv':v<=65535) (b:Nat) (w:World) (p:Nat) (x:C.St σ) (hx0:0<=x.n) (hx1:x.n<=100) (hP:PI B nr nw cr cw I T w p x) (hb:w.cell? ⟨b,0,none⟩=some (fv 228 #[])) (ht:(x.c.C)=true) :
 Calls Tryz.prog 266 #[.pointer (some ⟨p,0,none⟩),ordV k d s n v,.pointer (some ⟨b,0,none⟩)] w (AP B nr nw cr cw I T w p x (C.jump x v)):=by
 have hlt:=hP.lt
 have hne:p ≠ w.heap.size:=by omega
 have hlt1:p < w.heap.size+1:=by omega
 have hbl:b < w.heap.size:=World.block_lt_of_cell? w _ hb
 have hbne:b ≠ w.heap.size:=by omega
 have hbl1:b < w.heap.size+1:=by omega
 have hw:IntKind.u16.wrap v=v:=by rw [u16w];omega
 have HP:=hid hP
 have HR:=hid R
 obtain ⟨c8,c9,c10,c11,c12,c13,c14,c15,c16,c17⟩:=hP.cells
 obtain ⟨c0,c1,c2,c3,c4,c5,c6,c7⟩:=hP.regs
 have HC:Hid (∀ W:World,Calls Tryz.prog 228 #[cpuV x.c] W fun e w'=>e = .returned (.bool true)/\Below W.heap.size W w'):=fun W=>(jc_pred x.c W).mono fun _ _ hh=>⟨hh.1.trans (ret_b ht),hh.2⟩
 clear hP R ht
 go_enter Tryz.func266,Tryz.ntmps266
 go_wp2
 go_region_held3 (fun w'=>w'.cell? ⟨b,0,none⟩=some (fv 228 #[])/\w'.cell? ⟨p,0,none⟩=some (.int .u16 (x.c.r 0))/\w'.cell? ⟨p,1,none⟩=some (.int .u16 (x.c.r 1))/\w'.cell? ⟨p,2,none⟩=some (.int .u16 (x.c.r 2))/\w'.cell? ⟨p,3,none⟩=some (.int .u16 (x.c.r 3))/\w'.cell? ⟨p,4,none⟩=some (.int .u16 (x.c.r 4))/\w'.cell? ⟨p,5,none⟩=some (.int .u16 (x.c.r 5))/\w'.cell? ⟨p,6,none⟩=some (.int .u16 (x.c.r 6))/\w'.cell? ⟨p,7,none⟩=some (.int .u16 (x.c.r 7))/\w'.cell? ⟨p,8,none⟩=some (.int .u16 x.c.PC)/\w'.cell? ⟨p,9,none⟩=some (.bool x.c.Z)/\w'.cell? ⟨p,10,none⟩=some (.bool x.c.N)/\w'.cell? ⟨p,11,none⟩=some (.bool x.c.C)/\w'.cell? ⟨p,12,none⟩=some (.bool x.c.V)/\w'.cell? ⟨p,13,none⟩=some (.bool x.c.May)/\w'.cell? ⟨p,14,none⟩=some (.bool x.c.Waits))
  ((go_keep;done))
  ((go_at_call 228;refine (HC.out _).mono ?_;rintro e w2 ⟨rfl,hb2⟩;obtain ⟨k2,f2⟩:=bcell hb2))
 have hbw:=stp (stA (st0 w) (.cells #[.int .i64 k,.int .i64 d,.int .i64 s,.int .i64 n,.int .i64 v] 255)).drew hb2
 have hP1:=HP.out.kept HR.out hbw
 obtain ⟨e8,e9,e10,e11,e12,e13,e14,e15,e16,e17⟩:=hP1.cells
 have ef:=hP1.frozen
 have el:=hP1.lt
 have q4:w2.cell? ⟨w.heap.size,4,none⟩=some (.int .i64 v):=(k2 _ 4 (by simp)).trans (by simp)
 have ql:w.heap.size < w2.heap.size:=by have:=hb2.size;simp at this;omega
 have HP1:=hid hP1
 have HBW:=hid hbw
 clear hP1 hbw k2 f2
 go_wp2
 go_end0
 exact ⟨rfl,(HP1.out.putPC HR.out v hv hv').putCyc HR.out _,(((PM.refl B T p x.s w).kept (HP.out.hB HR.out) HBW.out).set HP.out.big 8 _).set HP.out.big 17 _⟩
theorem jc_false (R:RS m B nr nw cr cw I T) (k d s:Nat) (n v:Int) (hv:0<=v) (hv':v<=65535) (b:Nat) (w:World) (p:Nat) (x:C.St σ) (hx0:0<=x.n) (hx1:x.n<=100) (hP:PI B nr nw cr cw I T w p x) (hb:w.cell? ⟨b,0,none⟩=some (fv 228 #[])) (ht:(x.c.C)=false) :
 Calls Tryz.prog 266 #[.pointer (some ⟨p,0,none⟩),ordV k d s n v,.pointer (some ⟨b,0,none⟩)] w (AP B nr nw cr cw I T w p x (x)):=by
 have hlt:=hP.lt
 have hne:p ≠ w.heap.size:=by omega
 have hlt1:p < w.heap.size+1:=by omega
 have hbl:b < w.heap.size:=World.block_lt_of_cell? w _ hb
 have hbne:b ≠ w.heap.size:=by omega
 have hbl1:b < w.heap.size+1:=by omega
 have hw:IntKind.u16.wrap v=v:=by rw [u16w];omega
 have HP:=hid hP
 have HR:=hid R
 obtain ⟨c8,c9,c10,c11,c12,c13,c14,c15,c16,c17⟩:=hP.cells
 obtain ⟨c0,c1,c2,c3,c4,c5,c6,c7⟩:=hP.regs
 have HC:Hid (∀ W:World,Calls Tryz.prog 228 #[cpuV x.c] W fun e w'=>e = .returned (.bool false)/\Below W.heap.size W w'):=fun W=>(jc_pred x.c W).mono fun _ _ hh=>⟨hh.1.trans (ret_b ht),hh.2⟩
 clear hP R ht
 go_enter Tryz.func266,Tryz.ntmps266
 go_wp2
 go_region_held3 (fun w'=>w'.cell? ⟨b,0,none⟩=some (fv 228 #[])/\w'.cell? ⟨p,0,none⟩=some (.int .u16 (x.c.r 0))/\w'.cell? ⟨p,1,none⟩=some (.int .u16 (x.c.r 1))/\w'.cell? ⟨p,2,none⟩=some (.int .u16 (x.c.r 2))/\w'.cell? ⟨p,3,none⟩=some (.int .u16 (x.c.r 3))/\w'.cell? ⟨p,4,none⟩=some (.int .u16 (x.c.r 4))/\w'.cell? ⟨p,5,none⟩=some (.int .u16 (x.c.r 5))/\w'.cell? ⟨p,6,none⟩=some (.int .u16 (x.c.r 6))/\w'.cell? ⟨p,7,none⟩=some (.int .u16 (x.c.r 7))/\w'.cell? ⟨p,8,none⟩=some (.int .u16 x.c.PC)/\w'.cell? ⟨p,9,none⟩=some (.bool x.c.Z)/\w'.cell? ⟨p,10,none⟩=some (.bool x.c.N)/\w'.cell? ⟨p,11,none⟩=some (.bool x.c.C)/\w'.cell? ⟨p,12,none⟩=some (.bool x.c.V)/\w'.cell? ⟨p,13,none⟩=some (.bool x.c.May)/\w'.cell? ⟨p,14,none⟩=some (.bool x.c.Waits))
  ((go_keep;done))
  ((go_at_call 228;refine (HC.out _).mono ?_;rintro e w2 ⟨rfl,hb2⟩;obtain ⟨k2,f2⟩:=bcell hb2))
 have hbw:=stp (stA (st0 w) (.cells #[.int .i64 k,.int .i64 d,.int .i64 s,.int .i64 n,.int .i64 v] 255)).drew hb2
 have hP1:=HP.out.kept HR.out hbw
 obtain ⟨e8,e9,e10,e11,e12,e13,e14,e15,e16,e17⟩:=hP1.cells
 have ef:=hP1.frozen
 have el:=hP1.lt
 have q4:w2.cell? ⟨w.heap.size,4,none⟩=some (.int .i64 v):=(k2 _ 4 (by simp)).trans (by simp)
 have ql:w.heap.size < w2.heap.size:=by have:=hb2.size;simp at this;omega
 have HP1:=hid hP1
 have HBW:=hid hbw
 clear hP1 hbw k2 f2
 go_wp2
 go_end0
 exact ⟨rfl,HP1.out,(PM.refl B T p x.s w).kept (HP.out.hB HR.out) HBW.out⟩
theorem jnz_true (R:RS m B nr nw cr cw I T) (k d s:Nat) (n v:Int) (hv:0<=v) (hv':v<=65535) (b:Nat) (w:World) (p:Nat) (x:C.St σ) (hx0:0<=x.n) (hx1:x.n<=100) (hP:PI B nr nw cr cw I T w p x) (hb:w.cell? ⟨b,0,none⟩=some (fv 239 #[])) (ht:(!x.c.Z)=true) :
 Calls Tryz.prog 266 #[.pointer (some ⟨p,0,none⟩),ordV k d s n v,.pointer (some ⟨b,0,none⟩)] w (AP B nr nw cr cw I T w p x (C.jump x v)):=by
 have hlt:=hP.lt
 have hne:p ≠ w.heap.size:=by omega
 have hlt1:p < w.heap.size+1:=by omega
 have hbl:b < w.heap.size:=World.block_lt_of_cell? w _ hb
 have hbne:b ≠ w.heap.size:=by omega
 have hbl1:b < w.heap.size+1:=by omega
 have hw:IntKind.u16.wrap v=v:=by rw [u16w];omega
 have HP:=hid hP
 have HR:=hid R
 obtain ⟨c8,c9,c10,c11,c12,c13,c14,c15,c16,c17⟩:=hP.cells
 obtain ⟨c0,c1,c2,c3,c4,c5,c6,c7⟩:=hP.regs
 have HC:Hid (∀ W:World,Calls Tryz.prog 239 #[cpuV x.c] W fun e w'=>e = .returned (.bool true)/\Below W.heap.size W w'):=fun W=>(jnz_pred x.c W).mono fun _ _ hh=>⟨hh.1.trans (ret_b ht),hh.2⟩
 clear hP R ht
 go_enter Tryz.func266,Tryz.ntmps266
 go_wp2
 go_region_held3 (fun w'=>w'.cell? ⟨b,0,none⟩=some (fv 239 #[])/\w'.cell? ⟨p,0,none⟩=some (.int .u16 (x.c.r 0))/\w'.cell? ⟨p,1,none⟩=some (.int .u16 (x.c.r 1))/\w'.cell? ⟨p,2,none⟩=some (.int .u16 (x.c.r 2))/\w'.cell? ⟨p,3,none⟩=some (.int .u16 (x.c.r 3))/\w'.cell? ⟨p,4,none⟩=some (.int .u16 (x.c.r 4))/\w'.cell? ⟨p,5,none⟩=some (.int .u16 (x.c.r 5))/\w'.cell? ⟨p,6,none⟩=some (.int .u16 (x.c.r 6))/\w'.cell? ⟨p,7,none⟩=some (.int .u16 (x.c.r 7))/\w'.cell? ⟨p,8,none⟩=some (.int .u16 x.c.PC)/\w'.cell? ⟨p,9,none⟩=some (.bool x.c.Z)/\w'.cell? ⟨p,10,none⟩=some (.bool x.c.N)/\w'.cell? ⟨p,11,none⟩=some (.bool x.c.C)/\w'.cell? ⟨p,12,none⟩=some (.bool x.c.V)/\w'.cell? ⟨p,13,none⟩=some (.bool x.c.May)/\w'.cell? ⟨p,14,none⟩=some (.bool x.c.Waits))
  ((go_keep;done))
  ((go_at_call 239;refine (HC.out _).mono ?_;rintro e w2 ⟨rfl,hb2⟩;obtain ⟨k2,f2⟩:=bcell hb2))
 have hbw:=stp (stA (st0 w) (.cells #[.int .i64 k,.int .i64 d,.int .i64 s,.int .i64 n,.int .i64 v] 255)).drew hb2
 have hP1:=HP.out.kept HR.out hbw
 obtain ⟨e8,e9,e10,e11,e12,e13,e14,e15,e16,e17⟩:=hP1.cells
 have ef:=hP1.frozen
 have el:=hP1.lt
 have q4:w2.cell? ⟨w.heap.size,4,none⟩=some (.int .i64 v):=(k2 _ 4 (by simp)).trans (by simp)
 have ql:w.heap.size < w2.heap.size:=by have:=hb2.size;simp at this;omega
 have HP1:=hid hP1
 have HBW:=hid hbw
 clear hP1 hbw k2 f2
 go_wp2
 go_end0
 exact ⟨rfl,(HP1.out.putPC HR.out v hv hv').putCyc HR.out _,(((PM.refl B T p x.s w).kept (HP.out.hB HR.out) HBW.out).set HP.out.big 8 _).set HP.out.big 17 _⟩
theorem jnz_false (R:RS m B nr nw cr cw I T) (k d s:Nat) (n v:Int) (hv:0<=v) (hv':v<=65535) (b:Nat) (w:World) (p:Nat) (x:C.St σ) (hx0:0<=x.n) (hx1:x.n<=100) (hP:PI B nr nw cr cw I T w p x) (hb:w.cell? ⟨b,0,none⟩=some (fv 239 #[])) (ht:(!x.c.Z)=false) :
 Calls Tryz.prog 266 #[.pointer (some ⟨p,0,none⟩),ordV k d s n v,.pointer (some ⟨b,0,none⟩)] w (AP B nr nw cr cw I T w p x (x)):=by
 have hlt:=hP.lt
 have hne:p ≠ w.heap.size:=by omega
 have hlt1:p < w.heap.size+1:=by omega
 have hbl:b < w.heap.size:=World.block_lt_of_cell? w _ hb
 have hbne:b ≠ w.heap.size:=by omega
 have hbl1:b < w.heap.size+1:=by omega
 have hw:IntKind.u16.wrap v=v:=by rw [u16w];omega
 have HP:=hid hP
 have HR:=hid R
 obtain ⟨c8,c9,c10,c11,c12,c13,c14,c15,c16,c17⟩:=hP.cells
 obtain ⟨c0,c1,c2,c3,c4,c5,c6,c7⟩:=hP.regs
 have HC:Hid (∀ W:World,Calls Tryz.prog 239 #[cpuV x.c] W fun e w'=>e = .returned (.bool false)/\Below W.heap.size W w'):=fun W=>(jnz_pred x.c W).mono fun _ _ hh=>⟨hh.1.trans (ret_b ht),hh.2⟩
 clear hP R ht
 go_enter Tryz.func266,Tryz.ntmps266
 go_wp2
 go_region_held3 (fun w'=>w'.cell? ⟨b,0,none⟩=some (fv 239 #[])/\w'.cell? ⟨p,0,none⟩=some (.int .u16 (x.c.r 0))/\w'.cell? ⟨p,1,none⟩=some (.int .u16 (x.c.r 1))/\w'.cell? ⟨p,2,none⟩=some (.int .u16 (x.c.r 2))/\w'.cell? ⟨p,3,none⟩=some (.int .u16 (x.c.r 3))/\w'.cell? ⟨p,4,none⟩=some (.int .u16 (x.c.r 4))/\w'.cell? ⟨p,5,none⟩=some (.int .u16 (x.c.r 5))/\w'.cell? ⟨p,6,none⟩=some (.int .u16 (x.c.r 6))/\w'.cell? ⟨p,7,none⟩=some (.int .u16 (x.c.r 7))/\w'.cell? ⟨p,8,none⟩=some (.int .u16 x.c.PC)/\w'.cell? ⟨p,9,none⟩=some (.bool x.c.Z)/\w'.cell? ⟨p,10,none⟩=some (.bool x.c.N)/\w'.cell? ⟨p,11,none⟩=some (.bool x.c.C)/\w'.cell? ⟨p,12,none⟩=some (.bool x.c.V)/\w'.cell? ⟨p,13,none⟩=some (.bool x.c.May)/\w'.cell? ⟨p,14,none⟩=some (.bool x.c.Waits))
  ((go_keep;done))
  ((go_at_call 239;refine (HC.out _).mono ?_;rintro e w2 ⟨rfl,hb2⟩;obtain ⟨k2,f2⟩:=bcell hb2))
 have hbw:=stp (stA (st0 w) (.cells #[.int .i64 k,.int .i64 d,.int .i64 s,.int .i64 n,.int .i64 v] 255)).drew hb2
 have hP1:=HP.out.kept HR.out hbw
 obtain ⟨e8,e9,e10,e11,e12,e13,e14,e15,e16,e17⟩:=hP1.cells
 have ef:=hP1.frozen
 have el:=hP1.lt
 have q4:w2.cell? ⟨w.heap.size,4,none⟩=some (.int .i64 v):=(k2 _ 4 (by simp)).trans (by simp)
 have ql:w.heap.size < w2.heap.size:=by have:=hb2.size;simp at this;omega
 have HP1:=hid hP1
 have HBW:=hid hbw
 clear hP1 hbw k2 f2
 go_wp2
 go_end0
 exact ⟨rfl,HP1.out,(PM.refl B T p x.s w).kept (HP.out.hB HR.out) HBW.out⟩
end
abbrev actsL (b12 b13 b16 b17 b18 b19 b29:Nat):Array Value :=
 #[fv 207 #[],fv 208 #[],fv 209 #[],fv 210 #[],fv 212 #[],fv 214 #[],fv 215 #[],fv 217 #[],fv 217 #[],fv 217 #[],fv 217 #[],fv 217 #[],
   fv 262 #[.pointer (some ⟨b12,0,none⟩)],fv 262 #[.pointer (some ⟨b13,0,none⟩)],fv 221 #[],fv 223 #[],
   fv 266 #[.pointer (some ⟨b16,0,none⟩)],fv 266 #[.pointer (some ⟨b17,0,none⟩)],fv 266 #[.pointer (some ⟨b18,0,none⟩)],fv 266 #[.pointer (some ⟨b19,0,none⟩)],
   fv 229 #[],fv 230 #[],fv 232 #[],fv 233 #[],fv 234 #[],fv 235 #[],fv 236 #[],fv 238 #[],fv 217 #[],
   fv 266 #[.pointer (some ⟨b29,0,none⟩)],.nilFunc,fv 240 #[]]
theorem shiftF_any (g:Nat) (w:World):Calls Tryz.prog 218 #[fv g #[]] w fun e w'=>e = .returned (fv 262 #[.pointer (some ⟨w.heap.size,0,none⟩)])/\w'=w.alloc (.cells #[fv g #[]] 305):=by
 go_enter Tryz.func218,Tryz.ntmps218
 go_wp2
 go_ret
 exact ⟨rfl,rfl⟩
theorem jumpF_any (g:Nat) (w:World):Calls Tryz.prog 224 #[fv g #[]] w fun e w'=>e = .returned (fv 266 #[.pointer (some ⟨w.heap.size,0,none⟩)])/\w'=w.alloc (.cells #[fv g #[]] 308):=by
 go_enter Tryz.func224,Tryz.ntmps224
 go_wp2
 go_ret
 exact ⟨rfl,rfl⟩
theorem there_new (w:World) (cs:Array Value) (t:TypeId) (n:Nat) (h:cs.size=n):(w.alloc (.cells cs t)).there w.heap.size 0 n:=fun j hj=>by
 refine ⟨?_,Lib.frozen_of_heap (heap_alloc_new w _) _⟩
 rw [cell_new _ _ _ _ rfl,Array.getElem?_eq_getElem (by omega)]
 rfl
theorem below_setCells {n:Nat} {a:World} {b:Nat} (hb:n<=b):∀ (vs:List Value) (o:Nat) (w:World),Below n a w->Below n a (w.setCells b o vs)
 | [],o,w,h=>h
 | v :: vs,o,w,h=>below_setCells hb vs (o+1) _ (h.setCell hb v)
theorem cutL {P:Program} {ops:Array Oper} {rest:List Oper} {Q:Exit->Act->World->Prop} {a:Act} {w:World} (K:World->Prop) (h:K w) (k:∀ w',K w'->wpList P ops Q rest a w'):wpList P ops Q rest a w:=k w h
theorem actsL_one (a b c d e f g:Nat):(actsL a b c d e f g).all (·.oneCell')=true:=by simp [actsL,Value.oneCell']
theorem info_acts:(Tryz.prog.info? 261).map (·.size)=some 32:=by kernel_rfl
theorem under_acts:Tryz.prog.underlying 261=some (.array 32 260):=by kernel_rfl
def boxes (W:World) (b12 b13 b16 b17 b18 b19 b29:Nat):Prop :=
 W.cell? ⟨b12,0,none⟩=some (fv 219 #[])/\W.cell? ⟨b13,0,none⟩=some (fv 220 #[])/\W.cell? ⟨b16,0,none⟩=some (fv 225 #[])/\W.cell? ⟨b17,0,none⟩=some (fv 226 #[])/\W.cell? ⟨b18,0,none⟩=some (fv 227 #[])/\W.cell? ⟨b19,0,none⟩=some (fv 228 #[])/\W.cell? ⟨b29,0,none⟩=some (fv 239 #[])
theorem boxes_at (w:World) (L:List Value) (z:Obj) (t t':TypeId):boxes (((((((((w.alloc z).alloc (.cells #[fv 219 #[]] t)).alloc (.cells #[fv 220 #[]] t)).alloc (.cells #[fv 225 #[]] t')).alloc (.cells #[fv 226 #[]] t')).alloc (.cells #[fv 227 #[]] t')).alloc (.cells #[fv 228 #[]] t')).alloc (.cells #[fv 239 #[]] t')).setCells w.heap.size 0 L)
 (w.heap.size+1) (w.heap.size+1+1) (w.heap.size+1+1+1) (w.heap.size+1+1+1+1) (w.heap.size+1+1+1+1+1) (w.heap.size+1+1+1+1+1+1) (w.heap.size+1+1+1+1+1+1+1):=by
 have out:∀ (X:World) (b':Nat),b' ≠ w.heap.size->(X.setCells w.heap.size 0 L).cell? ⟨b',0,none⟩=X.cell? ⟨b',0,none⟩:=fun X b' h=>World.cell?_setCells_out _ L 0 X _ (fun e=>absurd e h)
 unfold boxes
 refine ⟨?_,?_,?_,?_,?_,?_,?_⟩ <;> rw [out _ _ (by omega)]
 ·rw [World.cell?_alloc_lt _ _ _ (by simp <;> omega),World.cell?_alloc_lt _ _ _ (by simp <;> omega),World.cell?_alloc_lt _ _ _ (by simp <;> omega),World.cell?_alloc_lt _ _ _ (by simp <;> omega),World.cell?_alloc_lt _ _ _ (by simp <;> omega),World.cell?_alloc_lt _ _ _ (by simp <;> omega),cell_new _ _ _ _ (by simp)];rfl
 ·rw [World.cell?_alloc_lt _ _ _ (by simp <;> omega),World.cell?_alloc_lt _ _ _ (by simp <;> omega),World.cell?_alloc_lt _ _ _ (by simp <;> omega),World.cell?_alloc_lt _ _ _ (by simp <;> omega),World.cell?_alloc_lt _ _ _ (by simp <;> omega),cell_new _ _ _ _ (by simp)];rfl
 ·rw [World.cell?_alloc_lt _ _ _ (by simp <;> omega),World.cell?_alloc_lt _ _ _ (by simp <;> omega),World.cell?_alloc_lt _ _ _ (by simp <;> omega),World.cell?_alloc_lt _ _ _ (by simp <;> omega),cell_new _ _ _ _ (by simp)];rfl
 ·rw [World.cell?_alloc_lt _ _ _ (by simp <;> omega),World.cell?_alloc_lt _ _ _ (by simp <;> omega),World.cell?_alloc_lt _ _ _ (by simp <;> omega),cell_new _ _ _ _ (by simp)];rfl
 ·rw [World.cell?_alloc_lt _ _ _ (by simp <;> omega),World.cell?_alloc_lt _ _ _ (by simp <;> omega),cell_new _ _ _ _ (by simp)];rfl
 ·rw [World.cell?_alloc_lt _ _ _ (by simp <;> omega),cell_new _ _ _ _ (by simp)];rfl
 ·rw [cell_new _ _ _ _ (by simp)];rfl
theorem acts_any (w:World):Calls Tryz.prog 176 #[] w fun e w'=>∃ b12 b13 b16 b17 b18 b19 b29,e = .returned (.agg (actsL b12 b13 b16 b17 b18 b19 b29))/\boxes w' b12 b13 b16 b17 b18 b19 b29/\Below w.heap.size w w':=by
 have hload:∀ W:World,W.rangeAt w.heap.size 0 (actsL (w.heap.size+1) (w.heap.size+1+1) (w.heap.size+1+1+1) (w.heap.size+1+1+1+1) (w.heap.size+1+1+1+1+1) (w.heap.size+1+1+1+1+1+1) (w.heap.size+1+1+1+1+1+1+1)).toList->(loadVar 261 ⟨w.heap.size,0,none⟩).run Tryz.prog W = .ok (.agg (actsL (w.heap.size+1) (w.heap.size+1+1) (w.heap.size+1+1+1) (w.heap.size+1+1+1+1) (w.heap.size+1+1+1+1+1) (w.heap.size+1+1+1+1+1+1) (w.heap.size+1+1+1+1+1+1+1))) W:=fun W h =>
  run_loadVar_mid W w.heap.size 0 261 _ (.array 32 260) h under_acts rfl info_acts
 have HL:=hid hload
 clear hload
 go_enter Tryz.func176,Tryz.ntmps176
 go_wp2_with (first
  | (go_at_call 218;refine (shiftF_any _ _).mono ?_;rintro e w' ⟨rfl,rfl⟩)
  | (go_at_call 224;refine (jumpF_any _ _).mono ?_;rintro e w' ⟨rfl,rfl⟩)
  | (refine wpList_store_mid rfl 261 (.tmp 0) (.tmp 8) rfl w.heap.size 0 _ rfl rfl ?_ ?_ ?_ ?_
     ·exact World.there_alloc (World.there_alloc (World.there_alloc (World.there_alloc (World.there_alloc (World.there_alloc (World.there_alloc (there_new w _ _ 32 rfl) _) _) _) _) _) _) _
     ·exact info_acts
     ·exact actsL_one (w.heap.size+1) (w.heap.size+1+1) (w.heap.size+1+1+1) (w.heap.size+1+1+1+1) (w.heap.size+1+1+1+1+1) (w.heap.size+1+1+1+1+1+1) (w.heap.size+1+1+1+1+1+1+1)
     refine cutL (fun W=>W.rangeAt w.heap.size 0 (actsL (w.heap.size+1) (w.heap.size+1+1) (w.heap.size+1+1+1) (w.heap.size+1+1+1+1) (w.heap.size+1+1+1+1+1) (w.heap.size+1+1+1+1+1+1) (w.heap.size+1+1+1+1+1+1+1)).toList/\boxes W (w.heap.size+1) (w.heap.size+1+1) (w.heap.size+1+1+1) (w.heap.size+1+1+1+1) (w.heap.size+1+1+1+1+1) (w.heap.size+1+1+1+1+1+1) (w.heap.size+1+1+1+1+1+1+1)/\Below w.heap.size w W) ⟨?_,?_,?_⟩ ?_
     ·exact World.rangeAt_setCells_same _ _ _ _ (World.there_alloc (World.there_alloc (World.there_alloc (World.there_alloc (World.there_alloc (World.there_alloc (World.there_alloc (there_new w _ _ 32 rfl) _) _) _) _) _) _) _)
     ·exact boxes_at w _ _ _ _
     ·exact below_setCells (Nat.le_refl _) _ _ _ (stA (stA (stA (stA (stA (stA (stA (stA (st0 w) _) _) _) _) _) _) _) _)
     rintro W ⟨hR,hX,hB⟩
     have HRG:=hid hR
     have HX:=hid hX
     have HB:=hid hB
     clear hR hX hB))
 have hl:=HL.out W HRG.out
 exact bodyPost_ret (v:=.agg (actsL (w.heap.size+1) (w.heap.size+1+1) (w.heap.size+1+1+1) (w.heap.size+1+1+1+1) (w.heap.size+1+1+1+1+1) (w.heap.size+1+1+1+1+1+1) (w.heap.size+1+1+1+1+1+1+1))) (by simp only [results,Tryz.results176];simp;exact hl) rfl ⟨_,_,_,_,_,_,_,rfl,HX.out,HB.out⟩
end Go.Proofs.YtbhpfkjfijdmaaaGreatDoor
