/-
  Parts of a proof, joined.
-/
import Derived.Test.YtbhpfkjfijdmaaaGreatDoorZv06
import Derived.Test.YtbhpfkjfijdmaaaGreatDoorZv03
import Derived.Test.YtbhpfkjfijdmaaaGreatDoorZv04
namespace Go.Proofs.YtbhpfkjfijdmaaaGreatDoor
open Go.ChangeShapes Go.WideShapes Go.ChangeAt Go.RowKit
set_option linter.unusedVariables false
set_option maxRecDepth 100000
set_option maxHeartbeats 1600000
section
variable {σ : Type} {m : C.Mem σ} {B nr nw : Nat} {cr cw : Array Value × Array Value} {I : World -> σ -> Prop} {T : σ -> Nat -> Prop}
theorem jt_true (R:RS m B nr nw cr cw I T) (k d s:Nat) (n v:Int) (hv:0<=v) (hv':v<=65535) (b:Nat) (w:World) (p:Nat) (x:C.St σ) (hx0:0<=x.n) (hx1:x.n<=100) (hP:PI B nr nw cr cw I T w p x) (hb:w.cell? ⟨b,0,none⟩=some (fv 225 #[])) (ht:(true)=true) :
 Calls Tryz.prog 266 #[.pointer (some ⟨p,0,none⟩),ordV k d s n v,.pointer (some ⟨b,0,none⟩)] w (AP B nr nw cr cw I T w p x (C.jump x v)):=by
 have hlt:=hP.lt
 have hne:p ≠ w.heap.size:=by omega
 have hlt1:p < w.heap.size+1:=by omega
 have hbl:b < w.heap.size:=World.block_lt_of_cell? w _ hb
 have hbne:b ≠ w.heap.size:=by omega
 have hbl1:b < w.heap.size+1:=by omega
 have hw:IntKind.u16.wrap v=v:=by rw [u16w];omega
 have HP:=hid hP
 have HR:=hid R
 obtain ⟨c8,c9,c10,c11,c12,c13,c14,c15,c16,c17⟩:=hP.cells
 obtain ⟨c0,c1,c2,c3,c4,c5,c6,c7⟩:=hP.regs
 have HC:Hid (∀ W:World,Calls Tryz.prog 225 #[cpuV x.c] W fun e w'=>e = .returned (.bool true)/\Below W.heap.size W w'):=fun W=>(jt_pred x.c W).mono fun _ _ hh=>⟨hh.1.trans (ret_b ht),hh.2⟩
 clear hP R ht
 go_enter Tryz.func266,Tryz.ntmps266
 go_wp2
 go_region_held3 (fun w'=>w'.cell? ⟨b,0,none⟩=some (fv 225 #[])/\w'.cell? ⟨p,0,none⟩=some (.int .u16 (x.c.r 0))/\w'.cell? ⟨p,1,none⟩=some (.int .u16 (x.c.r 1))/\w'.cell? ⟨p,2,none⟩=some (.int .u16 (x.c.r 2))/\w'.cell? ⟨p,3,none⟩=some (.int .u16 (x.c.r 3))/\w'.cell? ⟨p,4,none⟩=some (.int .u16 (x.c.r 4))/\w'.cell? ⟨p,5,none⟩=some (.int .u16 (x.c.r 5))/\w'.cell? ⟨p,6,none⟩=some (.int .u16 (x.c.r 6))/\w'.cell? ⟨p,7,none⟩=some (.int .u16 (x.c.r 7))/\w'.cell? ⟨p,8,none⟩=some (.int .u16 x.c.PC)/\w'.cell? ⟨p,9,none⟩=some (.bool x.c.Z)/\w'.cell? ⟨p,10,none⟩=some (.bool x.c.N)/\w'.cell? ⟨p,11,none⟩=some (.bool x.c.C)/\w'.cell? ⟨p,12,none⟩=some (.bool x.c.V)/\w'.cell? ⟨p,13,none⟩=some (.bool x.c.May)/\w'.cell? ⟨p,14,none⟩=some (.bool x.c.Waits))
  ((go_keep;done))
  ((go_at_call 225;refine (HC.out _).mono ?_;rintro e w2 ⟨rfl,hb2⟩;obtain ⟨k2,f2⟩:=bcell hb2))
 have hbw:=stp (stA (st0 w) (.cells #[.int .i64 k,.int .i64 d,.int .i64 s,.int .i64 n,.int .i64 v] 255)).drew hb2
 have hP1:=HP.out.kept HR.out hbw
 obtain ⟨e8,e9,e10,e11,e12,e13,e14,e15,e16,e17⟩:=hP1.cells
 have ef:=hP1.frozen
 have el:=hP1.lt
 have q4:w2.cell? ⟨w.heap.size,4,none⟩=some (.int .i64 v):=(k2 _ 4 (by simp)).trans (by simp)
 have ql:w.heap.size < w2.heap.size:=by have:=hb2.size;simp at this;omega
 have HP1:=hid hP1
 have HBW:=hid hbw
 clear hP1 hbw k2 f2
 go_wp2
 go_end0
 exact ⟨rfl,(HP1.out.putPC HR.out v hv hv').putCyc HR.out _,(((PM.refl B T p x.s w).kept (HP.out.hB HR.out) HBW.out).set HP.out.big 8 _).set HP.out.big 17 _⟩
theorem jz_true (R:RS m B nr nw cr cw I T) (k d s:Nat) (n v:Int) (hv:0<=v) (hv':v<=65535) (b:Nat) (w:World) (p:Nat) (x:C.St σ) (hx0:0<=x.n) (hx1:x.n<=100) (hP:PI B nr nw cr cw I T w p x) (hb:w.cell? ⟨b,0,none⟩=some (fv 226 #[])) (ht:(x.c.Z)=true) :
 Calls Tryz.prog 266 #[.pointer (some ⟨p,0,none⟩),ordV k d s n v,.pointer (some ⟨b,0,none⟩)] w (AP B nr nw cr cw I T w p x (C.jump x v)):=by
 have hlt:=hP.lt
 have hne:p ≠ w.heap.size:=by omega
 have hlt1:p < w.heap.size+1:=by omega
 have hbl:b < w.heap.size:=World.block_lt_of_cell? w _ hb
 have hbne:b ≠ w.heap.size:=by omega
 have hbl1:b < w.heap.size+1:=by omega
 have hw:IntKind.u16.wrap v=v:=by rw [u16w];omega
 have HP:=hid hP
 have HR:=hid R
 obtain ⟨c8,c9,c10,c11,c12,c13,c14,c15,c16,c17⟩:=hP.cells
 obtain ⟨c0,c1,c2,c3,c4,c5,c6,c7⟩:=hP.regs
 have HC:Hid (∀ W:World,Calls Tryz.prog 226 #[cpuV x.c] W fun e w'=>e = .returned (.bool true)/\Below W.heap.size W w'):=fun W=>(jz_pred x.c W).mono fun _ _ hh=>⟨hh.1.trans (ret_b ht),hh.2⟩
 clear hP R ht
 go_enter Tryz.func266,Tryz.ntmps266
 go_wp2
 go_region_held3 (fun w'=>w'.cell? ⟨b,0,none⟩=some (fv 226 #[])/\w'.cell? ⟨p,0,none⟩=some (.int .u16 (x.c.r 0))/\w'.cell? ⟨p,1,none⟩=some (.int .u16 (x.c.r 1))/\w'.cell? ⟨p,2,none⟩=some (.int .u16 (x.c.r 2))/\w'.cell? ⟨p,3,none⟩=some (.int .u16 (x.c.r 3))/\w'.cell? ⟨p,4,none⟩=some (.int .u16 (x.c.r 4))/\w'.cell? ⟨p,5,none⟩=some (.int .u16 (x.c.r 5))/\w'.cell? ⟨p,6,none⟩=some (.int .u16 (x.c.r 6))/\w'.cell? ⟨p,7,none⟩=some (.int .u16 (x.c.r 7))/\w'.cell? ⟨p,8,none⟩=some (.int .u16 x.c.PC)/\w'.cell? ⟨p,9,none⟩=some (.bool x.c.Z)/\w'.cell? ⟨p,10,none⟩=some (.bool x.c.N)/\w'.cell? ⟨p,11,none⟩=some (.bool x.c.C)/\w'.cell? ⟨p,12,none⟩=some (.bool x.c.V)/\w'.cell? ⟨p,13,none⟩=some (.bool x.c.May)/\w'.cell? ⟨p,14,none⟩=some (.bool x.c.Waits))
  ((go_keep;done))
  ((go_at_call 226;refine (HC.out _).mono ?_;rintro e w2 ⟨rfl,hb2⟩;obtain ⟨k2,f2⟩:=bcell hb2))
 have hbw:=stp (stA (st0 w) (.cells #[.int .i64 k,.int .i64 d,.int .i64 s,.int .i64 n,.int .i64 v] 255)).drew hb2
 have hP1:=HP.out.kept HR.out hbw
 obtain ⟨e8,e9,e10,e11,e12,e13,e14,e15,e16,e17⟩:=hP1.cells
 have ef:=hP1.frozen
 have el:=hP1.lt
 have q4:w2.cell? ⟨w.heap.size,4,none⟩=some (.int .i64 v):=(k2 _ 4 (by simp)).trans (by simp)
 have ql:w.heap.size < w2.heap.size:=by have:=hb2.size;simp at this;omega
 have HP1:=hid hP1
 have HBW:=hid hbw
 clear hP1 hbw k2 f2
 go_wp2
 go_end0
 exact ⟨rfl,(HP1.out.putPC HR.out v hv hv').putCyc HR.out _,(((PM.refl B T p x.s w).kept (HP.out.hB HR.out) HBW.out).set HP.out.big 8 _).set HP.out.big 17 _⟩
theorem jz_false (R:RS m B nr nw cr cw I T) (k d s:Nat) (n v:Int) (hv:0<=v) (hv':v<=65535) (b:Nat) (w:World) (p:Nat) (x:C.St σ) (hx0:0<=x.n) (hx1:x.n<=100) (hP:PI B nr nw cr cw I T w p x) (hb:w.cell? ⟨b,0,none⟩=some (fv 226 #[])) (ht:(x.c.Z)=false) :
 Calls Tryz.prog 266 #[.pointer (some ⟨p,0,none⟩),ordV k d s n v,.pointer (some ⟨b,0,none⟩)] w (AP B nr nw cr cw I T w p x (x)):=by
 have hlt:=hP.lt
 have hne:p ≠ w.heap.size:=by omega
 have hlt1:p < w.heap.size+1:=by omega
 have hbl:b < w.heap.size:=World.block_lt_of_cell? w _ hb
 have hbne:b ≠ w.heap.size:=by omega
 have hbl1:b < w.heap.size+1:=by omega
 have hw:IntKind.u16.wrap v=v:=by rw [u16w];omega
 have HP:=hid hP
 have HR:=hid R
 obtain ⟨c8,c9,c10,c11,c12,c13,c14,c15,c16,c17⟩:=hP.cells
 obtain ⟨c0,c1,c2,c3,c4,c5,c6,c7⟩:=hP.regs
 have HC:Hid (∀ W:World,Calls Tryz.prog 226 #[cpuV x.c] W fun e w'=>e = .returned (.bool false)/\Below W.heap.size W w'):=fun W=>(jz_pred x.c W).mono fun _ _ hh=>⟨hh.1.trans (ret_b ht),hh.2⟩
 clear hP R ht
 go_enter Tryz.func266,Tryz.ntmps266
 go_wp2
 go_region_held3 (fun w'=>w'.cell? ⟨b,0,none⟩=some (fv 226 #[])/\w'.cell? ⟨p,0,none⟩=some (.int .u16 (x.c.r 0))/\w'.cell? ⟨p,1,none⟩=some (.int .u16 (x.c.r 1))/\w'.cell? ⟨p,2,none⟩=some (.int .u16 (x.c.r 2))/\w'.cell? ⟨p,3,none⟩=some (.int .u16 (x.c.r 3))/\w'.cell? ⟨p,4,none⟩=some (.int .u16 (x.c.r 4))/\w'.cell? ⟨p,5,none⟩=some (.int .u16 (x.c.r 5))/\w'.cell? ⟨p,6,none⟩=some (.int .u16 (x.c.r 6))/\w'.cell? ⟨p,7,none⟩=some (.int .u16 (x.c.r 7))/\w'.cell? ⟨p,8,none⟩=some (.int .u16 x.c.PC)/\w'.cell? ⟨p,9,none⟩=some (.bool x.c.Z)/\w'.cell? ⟨p,10,none⟩=some (.bool x.c.N)/\w'.cell? ⟨p,11,none⟩=some (.bool x.c.C)/\w'.cell? ⟨p,12,none⟩=some (.bool x.c.V)/\w'.cell? ⟨p,13,none⟩=some (.bool x.c.May)/\w'.cell? ⟨p,14,none⟩=some (.bool x.c.Waits))
  ((go_keep;done))
  ((go_at_call 226;refine (HC.out _).mono ?_;rintro e w2 ⟨rfl,hb2⟩;obtain ⟨k2,f2⟩:=bcell hb2))
 have hbw:=stp (stA (st0 w) (.cells #[.int .i64 k,.int .i64 d,.int .i64 s,.int .i64 n,.int .i64 v] 255)).drew hb2
 have hP1:=HP.out.kept HR.out hbw
 obtain ⟨e8,e9,e10,e11,e12,e13,e14,e15,e16,e17⟩:=hP1.cells
 have ef:=hP1.frozen
 have el:=hP1.lt
 have q4:w2.cell? ⟨w.heap.size,4,none⟩=some (.int .i64 v):=(k2 _ 4 (by simp)).trans (by simp)
 have ql:w.heap.size < w2.heap.size:=by have:=hb2.size;simp at this;omega
 have HP1:=hid hP1
 have HBW:=hid hbw
 clear hP1 hbw k2 f2
 go_wp2
 go_end0
 exact ⟨rfl,HP1.out,(PM.refl B T p x.s w).kept (HP.out.hB HR.out) HBW.out⟩
theorem jn_true (R:RS m B nr nw cr cw I T) (k d s:Nat) (n v:Int) (hv:0<=v) (hv':v<=65535) (b:Nat) (w:World) (p:Nat) (x:C.St σ) (hx0:0<=x.n) (hx1:x.n<=100) (hP:PI B nr nw cr cw I T w p x) (hb:w.cell? ⟨b,0,none⟩=some (fv 227 #[])) (ht:(x.c.N)=true) :
 Calls Tryz.prog 266 #[.pointer (some ⟨p,0,none⟩),ordV k d s n v,.pointer (some ⟨b,0,none⟩)] w (AP B nr nw cr cw I T w p x (C.jump x v)):=by
 have hlt:=hP.lt
 have hne:p ≠ w.heap.size:=by omega
 have hlt1:p < w.heap.size+1:=by omega
 have hbl:b < w.heap.size:=World.block_lt_of_cell? w _ hb
 have hbne:b ≠ w.heap.size:=by omega
 have hbl1:b < w.heap.size+1:=by omega
 have hw:IntKind.u16.wrap v=v:=by rw [u16w];omega
 have HP:=hid hP
 have HR:=hid R
 obtain ⟨c8,c9,c10,c11,c12,c13,c14,c15,c16,c17⟩:=hP.cells
 obtain ⟨c0,c1,c2,c3,c4,c5,c6,c7⟩:=hP.regs
 have HC:Hid (∀ W:World,Calls Tryz.prog 227 #[cpuV x.c] W fun e w'=>e = .returned (.bool true)/\Below W.heap.size W w'):=fun W=>(jn_pred x.c W).mono fun _ _ hh=>⟨hh.1.trans (ret_b ht),hh.2⟩
 clear hP R ht
 go_enter Tryz.func266,Tryz.ntmps266
 go_wp2
 go_region_held3 (fun w'=>w'.cell? ⟨b,0,none⟩=some (fv 227 #[])/\w'.cell? ⟨p,0,none⟩=some (.int .u16 (x.c.r 0))/\w'.cell? ⟨p,1,none⟩=some (.int .u16 (x.c.r 1))/\w'.cell? ⟨p,2,none⟩=some (.int .u16 (x.c.r 2))/\w'.cell? ⟨p,3,none⟩=some (.int .u16 (x.c.r 3))/\w'.cell? ⟨p,4,none⟩=some (.int .u16 (x.c.r 4))/\w'.cell? ⟨p,5,none⟩=some (.int .u16 (x.c.r 5))/\w'.cell? ⟨p,6,none⟩=some (.int .u16 (x.c.r 6))/\w'.cell? ⟨p,7,none⟩=some (.int .u16 (x.c.r 7))/\w'.cell? ⟨p,8,none⟩=some (.int .u16 x.c.PC)/\w'.cell? ⟨p,9,none⟩=some (.bool x.c.Z)/\w'.cell? ⟨p,10,none⟩=some (.bool x.c.N)/\w'.cell? ⟨p,11,none⟩=some (.bool x.c.C)/\w'.cell? ⟨p,12,none⟩=some (.bool x.c.V)/\w'.cell? ⟨p,13,none⟩=some (.bool x.c.May)/\w'.cell? ⟨p,14,none⟩=some (.bool x.c.Waits))
  ((go_keep;done))
  ((go_at_call 227;refine (HC.out _).mono ?_;rintro e w2 ⟨rfl,hb2⟩;obtain ⟨k2,f2⟩:=bcell hb2))
 have hbw:=stp (stA (st0 w) (.cells #[.int .i64 k,.int .i64 d,.int .i64 s,.int .i64 n,.int .i64 v] 255)).drew hb2
 have hP1:=HP.out.kept HR.out hbw
 obtain ⟨e8,e9,e10,e11,e12,e13,e14,e15,e16,e17⟩:=hP1.cells
 have ef:=hP1.frozen
 have el:=hP1.lt
 have q4:w2.cell? ⟨w.heap.size,4,none⟩=some (.int .i64 v):=(k2 _ 4 (by simp)).trans (by simp)
 have ql:w.heap.size < w2.heap.size:=by have:=hb2.size;simp at this;omega
 have HP1:=hid hP1
 have HBW:=hid hbw
 clear hP1 hbw k2 f2
 go_wp2
 go_end0
 exact ⟨rfl,(HP1.out.putPC HR.out v hv hv').putCyc HR.out _,(((PM.refl B T p x.s w).kept (HP.out.hB HR.out) HBW.out).set HP.out.big 8 _).set HP.out.big 17 _⟩
theorem jn_false (R:RS m B nr nw cr cw I T) (k d s:Nat) (n v:Int) (hv:0<=v) (hv':v<=65535) (b:Nat) (w:World) (p:Nat) (x:C.St σ) (hx0:0<=x.n) (hx1:x.n<=100) (hP:PI B nr nw cr cw I T w p x) (hb:w.cell? ⟨b,0,none⟩=some (fv 227 #[])) (ht:(x.c.N)=false) :
 Calls Tryz.prog 266 #[.pointer (some ⟨p,0,none⟩),ordV k d s n v,.pointer (some ⟨b,0,none⟩)] w (AP B nr nw cr cw I T w p x (x)):=by
 have hlt:=hP.lt
 have hne:p ≠ w.heap.size:=by omega
 have hlt1:p < w.heap.size+1:=by omega
 have hbl:b < w.heap.size:=World.block_lt_of_cell? w _ hb
 have hbne:b ≠ w.heap.size:=by omega
 have hbl1:b < w.heap.size+1:=by omega
 have hw:IntKind.u16.wrap v=v:=by rw [u16w];omega
 have HP:=hid hP
 have HR:=hid R
 obtain ⟨c8,c9,c10,c11,c12,c13,c14,c15,c16,c17⟩:=hP.cells
 obtain ⟨c0,c1,c2,c3,c4,c5,c6,c7⟩:=hP.regs
 have HC:Hid (∀ W:World,Calls Tryz.prog 227 #[cpuV x.c] W fun e w'=>e = .returned (.bool false)/\Below W.heap.size W w'):=fun W=>(jn_pred x.c W).mono fun _ _ hh=>⟨hh.1.trans (ret_b ht),hh.2⟩
 clear hP R ht
 go_enter Tryz.func266,Tryz.ntmps266
 go_wp2
 go_region_held3 (fun w'=>w'.cell? ⟨b,0,none⟩=some (fv 227 #[])/\w'.cell? ⟨p,0,none⟩=some (.int .u16 (x.c.r 0))/\w'.cell? ⟨p,1,none⟩=some (.int .u16 (x.c.r 1))/\w'.cell? ⟨p,2,none⟩=some (.int .u16 (x.c.r 2))/\w'.cell? ⟨p,3,none⟩=some (.int .u16 (x.c.r 3))/\w'.cell? ⟨p,4,none⟩=some (.int .u16 (x.c.r 4))/\w'.cell? ⟨p,5,none⟩=some (.int .u16 (x.c.r 5))/\w'.cell? ⟨p,6,none⟩=some (.int .u16 (x.c.r 6))/\w'.cell? ⟨p,7,none⟩=some (.int .u16 (x.c.r 7))/\w'.cell? ⟨p,8,none⟩=some (.int .u16 x.c.PC)/\w'.cell? ⟨p,9,none⟩=some (.bool x.c.Z)/\w'.cell? ⟨p,10,none⟩=some (.bool x.c.N)/\w'.cell? ⟨p,11,none⟩=some (.bool x.c.C)/\w'.cell? ⟨p,12,none⟩=some (.bool x.c.V)/\w'.cell? ⟨p,13,none⟩=some (.bool x.c.May)/\w'.cell? ⟨p,14,none⟩=some (.bool x.c.Waits))
  ((go_keep;done))
  ((go_at_call 227;refine (HC.out _).mono ?_;rintro e w2 ⟨rfl,hb2⟩;obtain ⟨k2,f2⟩:=bcell hb2))
 have hbw:=stp (stA (st0 w) (.cells #[.int .i64 k,.int .i64 d,.int .i64 s,.int .i64 n,.int .i64 v] 255)).drew hb2
 have hP1:=HP.out.kept HR.out hbw
 obtain ⟨e8,e9,e10,e11,e12,e13,e14,e15,e16,e17⟩:=hP1.cells
 have ef:=hP1.frozen
 have el:=hP1.lt
 have q4:w2.cell? ⟨w.heap.size,4,none⟩=some (.int .i64 v):=(k2 _ 4 (by simp)).trans (by simp)
 have ql:w.heap.size < w2.heap.size:=by have:=hb2.size;simp at this;omega
 have HP1:=hid hP1
 have HBW:=hid hbw
 clear hP1 hbw k2 f2
 go_wp2
 go_end0
 exact ⟨rfl,HP1.out,(PM.refl B T p x.s w).kept (HP.out.hB HR.out) HBW.out⟩
theorem jc_true (R:RS m B nr nw cr cw I T) (k d s:Nat) (n v:Int) (hv:0<=v) (hv':v<=65535) (b:Nat) (w:World) (p:Nat) (x:C.St σ) (hx0:0<=x.n) (hx1:x.n<=100) (hP:PI B nr nw cr cw I T w p x) (hb:w.cell? ⟨b,0,none⟩=some (fv 228 #[])) (ht:(x.c.C)=true) :
 Calls Tryz.prog 266 #[.pointer (some ⟨p,0,none⟩),ordV k d s n v,.pointer (some ⟨b,0,none⟩)] w (AP B nr nw cr cw I T w p x (C.jump x v)):=by
 have hlt:=hP.lt
 have hne:p ≠ w.heap.size:=by omega
 have hlt1:p < w.heap.size+1:=by omega
 have hbl:b < w.heap.size:=World.block_lt_of_cell? w _ hb
 have hbne:b ≠ w.heap.size:=by omega
 have hbl1:b < w.heap.size+1:=by omega
 have hw:IntKind.u16.wrap v=v:=by rw [u16w];omega
 have HP:=hid hP
 have HR:=hid R
 obtain ⟨c8,c9,c10,c11,c12,c13,c14,c15,c16,c17⟩:=hP.cells
 obtain ⟨c0,c1,c2,c3,c4,c5,c6,c7⟩:=hP.regs
 have HC:Hid (∀ W:World,Calls Tryz.prog 228 #[cpuV x.c] W fun e w'=>e = .returned (.bool true)/\Below W.heap.size W w'):=fun W=>(jc_pred x.c W).mono fun _ _ hh=>⟨hh.1.trans (ret_b ht),hh.2⟩
 clear hP R ht
 go_enter Tryz.func266,Tryz.ntmps266
 go_wp2
 go_region_held3 (fun w'=>w'.cell? ⟨b,0,none⟩=some (fv 228 #[])/\w'.cell? ⟨p,0,none⟩=some (.int .u16 (x.c.r 0))/\w'.cell? ⟨p,1,none⟩=some (.int .u16 (x.c.r 1))/\w'.cell? ⟨p,2,none⟩=some (.int .u16 (x.c.r 2))/\w'.cell? ⟨p,3,none⟩=some (.int .u16 (x.c.r 3))/\w'.cell? ⟨p,4,none⟩=some (.int .u16 (x.c.r 4))/\w'.cell? ⟨p,5,none⟩=some (.int .u16 (x.c.r 5))/\w'.cell? ⟨p,6,none⟩=some (.int .u16 (x.c.r 6))/\w'.cell? ⟨p,7,none⟩=some (.int .u16 (x.c.r 7))/\w'.cell? ⟨p,8,none⟩=some (.int .u16 x.c.PC)/\w'.cell? ⟨p,9,none⟩=some (.bool x.c.Z)/\w'.cell? ⟨p,10,none⟩=some (.bool x.c.N)/\w'.cell? ⟨p,11,none⟩=some (.bool x.c.C)/\w'.cell? ⟨p,12,none⟩=some (.bool x.c.V)/\w'.cell? ⟨p,13,none⟩=some (.bool x.c.May)/\w'.cell? ⟨p,14,none⟩=some (.bool x.c.Waits))
  ((go_keep;done))
  ((go_at_call 228;refine (HC.out _).mono ?_;rintro e w2 ⟨rfl,hb2⟩;obtain ⟨k2,f2⟩:=bcell hb2))
 have hbw:=stp (stA (st0 w) (.cells #[.int .i64 k,.int .i64 d,.int .i64 s,.int .i64 n,.int .i64 v] 255)).drew hb2
 have hP1:=HP.out.kept HR.out hbw
 obtain ⟨e8,e9,e10,e11,e12,e13,e14,e15,e16,e17⟩:=hP1.cells
 have ef:=hP1.frozen
 have el:=hP1.lt
 have q4:w2.cell? ⟨w.heap.size,4,none⟩=some (.int .i64 v):=(k2 _ 4 (by simp)).trans (by simp)
 have ql:w.heap.size < w2.heap.size:=by have:=hb2.size;simp at this;omega
 have HP1:=hid hP1
 have HBW:=hid hbw
 clear hP1 hbw k2 f2
 go_wp2
 go_end0
 exact ⟨rfl,(HP1.out.putPC HR.out v hv hv').putCyc HR.out _,(((PM.refl B T p x.s w).kept (HP.out.hB HR.out) HBW.out).set HP.out.big 8 _).set HP.out.big 17 _⟩
theorem jc_false (R:RS m B nr nw cr cw I T) (k d s:Nat) (n v:Int) (hv:0<=v) (hv':v<=65535) (b:Nat) (w:World) (p:Nat) (x:C.St σ) (hx0:0<=x.n) (hx1:x.n<=100) (hP:PI B nr nw cr cw I T w p x) (hb:w.cell? ⟨b,0,none⟩=some (fv 228 #[])) (ht:(x.c.C)=false) :
 Calls Tryz.prog 266 #[.pointer (some ⟨p,0,none⟩),ordV k d s n v,.pointer (some ⟨b,0,none⟩)] w (AP B nr nw cr cw I T w p x (x)):=by
 have hlt:=hP.lt
 have hne:p ≠ w.heap.size:=by omega
 have hlt1:p < w.heap.size+1:=by omega
 have hbl:b < w.heap.size:=World.block_lt_of_cell? w _ hb
 have hbne:b ≠ w.heap.size:=by omega
 have hbl1:b < w.heap.size+1:=by omega
 have hw:IntKind.u16.wrap v=v:=by rw [u16w];omega
 have HP:=hid hP
 have HR:=hid R
 obtain ⟨c8,c9,c10,c11,c12,c13,c14,c15,c16,c17⟩:=hP.cells
 obtain ⟨c0,c1,c2,c3,c4,c5,c6,c7⟩:=hP.regs
 have HC:Hid (∀ W:World,Calls Tryz.prog 228 #[cpuV x.c] W fun e w'=>e = .returned (.bool false)/\Below W.heap.size W w'):=fun W=>(jc_pred x.c W).mono fun _ _ hh=>⟨hh.1.trans (ret_b ht),hh.2⟩
 clear hP R ht
 go_enter Tryz.func266,Tryz.ntmps266
 go_wp2
 go_region_held3 (fun w'=>w'.cell? ⟨b,0,none⟩=some (fv 228 #[])/\w'.cell? ⟨p,0,none⟩=some (.int .u16 (x.c.r 0))/\w'.cell? ⟨p,1,none⟩=some (.int .u16 (x.c.r 1))/\w'.cell? ⟨p,2,none⟩=some (.int .u16 (x.c.r 2))/\w'.cell? ⟨p,3,none⟩=some (.int .u16 (x.c.r 3))/\w'.cell? ⟨p,4,none⟩=some (.int .u16 (x.c.r 4))/\w'.cell? ⟨p,5,none⟩=some (.int .u16 (x.c.r 5))/\w'.cell? ⟨p,6,none⟩=some (.int .u16 (x.c.r 6))/\w'.cell? ⟨p,7,none⟩=some (.int .u16 (x.c.r 7))/\w'.cell? ⟨p,8,none⟩=some (.int .u16 x.c.PC)/\w'.cell? ⟨p,9,none⟩=some (.bool x.c.Z)/\w'.cell? ⟨p,10,none⟩=some (.bool x.c.N)/\w'.cell? ⟨p,11,none⟩=some (.bool x.c.C)/\w'.cell? ⟨p,12,none⟩=some (.bool x.c.V)/\w'.cell? ⟨p,13,none⟩=some (.bool x.c.May)/\w'.cell? ⟨p,14,none⟩=some (.bool x.c.Waits))
  ((go_keep;done))
  ((go_at_call 228;refine (HC.out _).mono ?_;rintro e w2 ⟨rfl,hb2⟩;obtain ⟨k2,f2⟩:=bcell hb2))
 have hbw:=stp (stA (st0 w) (.cells #[.int .i64 k,.int .i64 d,.int .i64 s,.int .i64 n,.int .i64 v] 255)).drew hb2
 have hP1:=HP.out.kept HR.out hbw
 obtain ⟨e8,e9,e10,e11,e12,e13,e14,e15,e16,e17⟩:=hP1.cells
 have ef:=hP1.frozen
 have el:=hP1.lt
 have q4:w2.cell? ⟨w.heap.size,4,none⟩=some (.int .i64 v):=(k2 _ 4 (by simp)).trans (by simp)
 have ql:w.heap.size < w2.heap.size:=by have:=hb2.size;simp at this;omega
 have HP1:=hid hP1
 have HBW:=hid hbw
 clear hP1 hbw k2 f2
 go_wp2
 go_end0
 exact ⟨rfl,HP1.out,(PM.refl B T p x.s w).kept (HP.out.hB HR.out) HBW.out⟩
theorem jnz_true (R:RS m B nr nw cr cw I T) (k d s:Nat) (n v:Int) (hv:0<=v) (hv':v<=65535) (b:Nat) (w:World) (p:Nat) (x:C.St σ) (hx0:0<=x.n) (hx1:x.n<=100) (hP:PI B nr nw cr cw I T w p x) (hb:w.cell? ⟨b,0,none⟩=some (fv 239 #[])) (ht:(!x.c.Z)=true) :
 Calls Tryz.prog 266 #[.pointer (some ⟨p,0,none⟩),ordV k d s n v,.pointer (some ⟨b,0,none⟩)] w (AP B nr nw cr cw I T w p x (C.jump x v)):=by
 have hlt:=hP.lt
 have hne:p ≠ w.heap.size:=by omega
 have hlt1:p < w.heap.size+1:=by omega
 have hbl:b < w.heap.size:=World.block_lt_of_cell? w _ hb
 have hbne:b ≠ w.heap.size:=by omega
 have hbl1:b < w.heap.size+1:=by omega
 have hw:IntKind.u16.wrap v=v:=by rw [u16w];omega
 have HP:=hid hP
 have HR:=hid R
 obtain ⟨c8,c9,c10,c11,c12,c13,c14,c15,c16,c17⟩:=hP.cells
 obtain ⟨c0,c1,c2,c3,c4,c5,c6,c7⟩:=hP.regs
 have HC:Hid (∀ W:World,Calls Tryz.prog 239 #[cpuV x.c] W fun e w'=>e = .returned (.bool true)/\Below W.heap.size W w'):=fun W=>(jnz_pred x.c W).mono fun _ _ hh=>⟨hh.1.trans (ret_b ht),hh.2⟩
 clear hP R ht
 go_enter Tryz.func266,Tryz.ntmps266
 go_wp2
 go_region_held3 (fun w'=>w'.cell? ⟨b,0,none⟩=some (fv 239 #[])/\w'.cell? ⟨p,0,none⟩=some (.int .u16 (x.c.r 0))/\w'.cell? ⟨p,1,none⟩=some (.int .u16 (x.c.r 1))/\w'.cell? ⟨p,2,none⟩=some (.int .u16 (x.c.r 2))/\w'.cell? ⟨p,3,none⟩=some (.int .u16 (x.c.r 3))/\w'.cell? ⟨p,4,none⟩=some (.int .u16 (x.c.r 4))/\w'.cell? ⟨p,5,none⟩=some (.int .u16 (x.c.r 5))/\w'.cell? ⟨p,6,none⟩=some (.int .u16 (x.c.r 6))/\w'.cell? ⟨p,7,none⟩=some (.int .u16 (x.c.r 7))/\w'.cell? ⟨p,8,none⟩=some (.int .u16 x.c.PC)/\w'.cell? ⟨p,9,none⟩=some (.bool x.c.Z)/\w'.cell? ⟨p,10,none⟩=some (.bool x.c.N)/\w'.cell? ⟨p,11,none⟩=some (.bool x.c.C)/\w'.cell? ⟨p,12,none⟩=some (.bool x.c.V)/\w'.cell? ⟨p,13,none⟩=some (.bool x.c.May)/\w'.cell? ⟨p,14,none⟩=some (.bool x.c.Waits))
  ((go_keep;done))
  ((go_at_call 239;refine (HC.out _).mono ?_;rintro e w2 ⟨rfl,hb2⟩;obtain ⟨k2,f2⟩:=bcell hb2))
 have hbw:=stp (stA (st0 w) (.cells #[.int .i64 k,.int .i64 d,.int .i64 s,.int .i64 n,.int .i64 v] 255)).drew hb2
 have hP1:=HP.out.kept HR.out hbw
 obtain ⟨e8,e9,e10,e11,e12,e13,e14,e15,e16,e17⟩:=hP1.cells
 have ef:=hP1.frozen
 have el:=hP1.lt
 have q4:w2.cell? ⟨w.heap.size,4,none⟩=some (.int .i64 v):=(k2 _ 4 (by simp)).trans (by simp)
 have ql:w.heap.size < w2.heap.size:=by have:=hb2.size;simp at this;omega
 have HP1:=hid hP1
 have HBW:=hid hbw
 clear hP1 hbw k2 f2
 go_wp2
 go_end0
 exact ⟨rfl,(HP1.out.putPC HR.out v hv hv').putCyc HR.out _,(((PM.refl B T p x.s w).kept (HP.out.hB HR.out) HBW.out).set HP.out.big 8 _).set HP.out.big 17 _⟩
theorem jnz_false (R:RS m B nr nw cr cw I T) (k d s:Nat) (n v:Int) (hv:0<=v) (hv':v<=65535) (b:Nat) (w:World) (p:Nat) (x:C.St σ) (hx0:0<=x.n) (hx1:x.n<=100) (hP:PI B nr nw cr cw I T w p x) (hb:w.cell? ⟨b,0,none⟩=some (fv 239 #[])) (ht:(!x.c.Z)=false) :
 Calls Tryz.prog 266 #[.pointer (some ⟨p,0,none⟩),ordV k d s n v,.pointer (some ⟨b,0,none⟩)] w (AP B nr nw cr cw I T w p x (x)):=by
 have hlt:=hP.lt
 have hne:p ≠ w.heap.size:=by omega
 have hlt1:p < w.heap.size+1:=by omega
 have hbl:b < w.heap.size:=World.block_lt_of_cell? w _ hb
 have hbne:b ≠ w.heap.size:=by omega
 have hbl1:b < w.heap.size+1:=by omega
 have hw:IntKind.u16.wrap v=v:=by rw [u16w];omega
 have HP:=hid hP
 have HR:=hid R
 obtain ⟨c8,c9,c10,c11,c12,c13,c14,c15,c16,c17⟩:=hP.cells
 obtain ⟨c0,c1,c2,c3,c4,c5,c6,c7⟩:=hP.regs
 have HC:Hid (∀ W:World,Calls Tryz.prog 239 #[cpuV x.c] W fun e w'=>e = .returned (.bool false)/\Below W.heap.size W w'):=fun W=>(jnz_pred x.c W).mono fun _ _ hh=>⟨hh.1.trans (ret_b ht),hh.2⟩
 clear hP R ht
 go_enter Tryz.func266,Tryz.ntmps266
 go_wp2
 go_region_held3 (fun w'=>w'.cell? ⟨b,0,none⟩=some (fv 239 #[])/\w'.cell? ⟨p,0,none⟩=some (.int .u16 (x.c.r 0))/\w'.cell? ⟨p,1,none⟩=some (.int .u16 (x.c.r 1))/\w'.cell? ⟨p,2,none⟩=some (.int .u16 (x.c.r 2))/\w'.cell? ⟨p,3,none⟩=some (.int .u16 (x.c.r 3))/\w'.cell? ⟨p,4,none⟩=some (.int .u16 (x.c.r 4))/\w'.cell? ⟨p,5,none⟩=some (.int .u16 (x.c.r 5))/\w'.cell? ⟨p,6,none⟩=some (.int .u16 (x.c.r 6))/\w'.cell? ⟨p,7,none⟩=some (.int .u16 (x.c.r 7))/\w'.cell? ⟨p,8,none⟩=some (.int .u16 x.c.PC)/\w'.cell? ⟨p,9,none⟩=some (.bool x.c.Z)/\w'.cell? ⟨p,10,none⟩=some (.bool x.c.N)/\w'.cell? ⟨p,11,none⟩=some (.bool x.c.C)/\w'.cell? ⟨p,12,none⟩=some (.bool x.c.V)/\w'.cell? ⟨p,13,none⟩=some (.bool x.c.May)/\w'.cell? ⟨p,14,none⟩=some (.bool x.c.Waits))
  ((go_keep;done))
  ((go_at_call 239;refine (HC.out _).mono ?_;rintro e w2 ⟨rfl,hb2⟩;obtain ⟨k2,f2⟩:=bcell hb2))
 have hbw:=stp (stA (st0 w) (.cells #[.int .i64 k,.int .i64 d,.int .i64 s,.int .i64 n,.int .i64 v] 255)).drew hb2
 have hP1:=HP.out.kept HR.out hbw
 obtain ⟨e8,e9,e10,e11,e12,e13,e14,e15,e16,e17⟩:=hP1.cells
 have ef:=hP1.frozen
 have el:=hP1.lt
 have q4:w2.cell? ⟨w.heap.size,4,none⟩=some (.int .i64 v):=(k2 _ 4 (by simp)).trans (by simp)
 have ql:w.heap.size < w2.heap.size:=by have:=hb2.size;simp at this;omega
 have HP1:=hid hP1
 have HBW:=hid hbw
 clear hP1 hbw k2 f2
 go_wp2
 go_end0
 exact ⟨rfl,HP1.out,(PM.refl B T p x.s w).kept (HP.out.hB HR.out) HBW.out⟩
end
def wordsAt (w:World) (g:Nat) (l:List Int):Prop:=∀ i,i < l.length->w.cell? ⟨g,i,none⟩=some (.int .u16 (l.getD i 0))
theorem and_mod (x:Int) (h:0<=x) (h':x<=65535):bits .and .u16 x 7=x % 8/\bits .and .u16 x 15=x % 16 :=
 ⟨by have:=M.and_low x 3 (by omega) h h';simpa using this,by have:=M.and_low x 4 (by omega) h h';simpa using this⟩
theorem held8 {w1 w2:World} {n c h a0 a1 a2 a3 a4:Value} {t t':TypeId} (hb:Below ((w1.alloc (.cells #[n,c,h] t)).alloc (.cells #[a0,a1,a2,a3,a4] t')).drew.heap.size ((w1.alloc (.cells #[n,c,h] t)).alloc (.cells #[a0,a1,a2,a3,a4] t')).drew w2) :
 w2.cell? ⟨w1.heap.size,0,none⟩=some n/\w2.cell? ⟨w1.heap.size,1,none⟩=some c/\w2.cell? ⟨w1.heap.size,2,none⟩=some h/\w2.cell? ⟨w1.heap.size+1,0,none⟩=some a0/\w2.cell? ⟨w1.heap.size+1,1,none⟩=some a1 /\
  w2.cell? ⟨w1.heap.size+1,2,none⟩=some a2/\w2.cell? ⟨w1.heap.size+1,3,none⟩=some a3/\w2.cell? ⟨w1.heap.size+1,4,none⟩=some a4:=by
 have e:∀ i,((w1.alloc (.cells #[n,c,h] t)).alloc (.cells #[a0,a1,a2,a3,a4] t')).drew.cell? ⟨w1.heap.size,i,none⟩=#[n,c,h][i]?:=fun i =>
  (World.cell?_alloc_lt (w1.alloc (.cells #[n,c,h] t)) _ _ (by simp)).trans (cell_new _ _ _ _ rfl)
 have e':∀ i,((w1.alloc (.cells #[n,c,h] t)).alloc (.cells #[a0,a1,a2,a3,a4] t')).drew.cell? ⟨w1.heap.size+1,i,none⟩=#[a0,a1,a2,a3,a4][i]?:=fun i=>cell_new (w1.alloc (.cells #[n,c,h] t)) _ _ _ (by simp)
 refine ⟨?_,?_,?_,?_,?_,?_,?_,?_⟩
 ·rw [hb.cell (by simp;omega),e];rfl
 ·rw [hb.cell (by simp;omega),e];rfl
 ·rw [hb.cell (by simp;omega),e];rfl
 ·rw [hb.cell (by simp),e'];rfl
 ·rw [hb.cell (by simp),e'];rfl
 ·rw [hb.cell (by simp),e'];rfl
 ·rw [hb.cell (by simp),e'];rfl
 ·rw [hb.cell (by simp),e'];rfl
theorem far5 (w2:World) (b:Nat) (v0 v1 v2 v3 v4:Value) (p:Addr) (h:b ≠ p.block) :
 (((((w2.setCell ⟨b,0,none⟩ v0).setCell ⟨b,1,none⟩ v1).setCell ⟨b,2,none⟩ v2).setCell ⟨b,3,none⟩ v3).setCell ⟨b,4,none⟩ v4).cell? p=w2.cell? p:=by
 rw [World.cell?_setCell_far _ _ _ _ h,World.cell?_setCell_far _ _ _ _ h,World.cell?_setCell_far _ _ _ _ h,World.cell?_setCell_far _ _ _ _ h,World.cell?_setCell_far _ _ _ _ h]
theorem held8s {w w1 w2:World} {n c h a0 a1 a2 a3 a4 v0 v1 v2 v3 v4:Value} (hz:w.heap.size < w1.heap.size)
 (hh:w2.cell? ⟨w1.heap.size,0,none⟩=some n/\w2.cell? ⟨w1.heap.size,1,none⟩=some c/\w2.cell? ⟨w1.heap.size,2,none⟩=some h/\w2.cell? ⟨w1.heap.size+1,0,none⟩=some a0/\w2.cell? ⟨w1.heap.size+1,1,none⟩=some a1 /\
   w2.cell? ⟨w1.heap.size+1,2,none⟩=some a2/\w2.cell? ⟨w1.heap.size+1,3,none⟩=some a3/\w2.cell? ⟨w1.heap.size+1,4,none⟩=some a4) :
 (((((w2.setCell ⟨w.heap.size,0,none⟩ v0).setCell ⟨w.heap.size,1,none⟩ v1).setCell ⟨w.heap.size,2,none⟩ v2).setCell ⟨w.heap.size,3,none⟩ v3).setCell ⟨w.heap.size,4,none⟩ v4).cell? ⟨w1.heap.size,0,none⟩=some n/\(((((w2.setCell ⟨w.heap.size,0,none⟩ v0).setCell ⟨w.heap.size,1,none⟩ v1).setCell ⟨w.heap.size,2,none⟩ v2).setCell ⟨w.heap.size,3,none⟩ v3).setCell ⟨w.heap.size,4,none⟩ v4).cell? ⟨w1.heap.size,1,none⟩=some c/\(((((w2.setCell ⟨w.heap.size,0,none⟩ v0).setCell ⟨w.heap.size,1,none⟩ v1).setCell ⟨w.heap.size,2,none⟩ v2).setCell ⟨w.heap.size,3,none⟩ v3).setCell ⟨w.heap.size,4,none⟩ v4).cell? ⟨w1.heap.size,2,none⟩=some h/\(((((w2.setCell ⟨w.heap.size,0,none⟩ v0).setCell ⟨w.heap.size,1,none⟩ v1).setCell ⟨w.heap.size,2,none⟩ v2).setCell ⟨w.heap.size,3,none⟩ v3).setCell ⟨w.heap.size,4,none⟩ v4).cell? ⟨w1.heap.size+1,0,none⟩=some a0/\(((((w2.setCell ⟨w.heap.size,0,none⟩ v0).setCell ⟨w.heap.size,1,none⟩ v1).setCell ⟨w.heap.size,2,none⟩ v2).setCell ⟨w.heap.size,3,none⟩ v3).setCell ⟨w.heap.size,4,none⟩ v4).cell? ⟨w1.heap.size+1,1,none⟩=some a1 /\
  (((((w2.setCell ⟨w.heap.size,0,none⟩ v0).setCell ⟨w.heap.size,1,none⟩ v1).setCell ⟨w.heap.size,2,none⟩ v2).setCell ⟨w.heap.size,3,none⟩ v3).setCell ⟨w.heap.size,4,none⟩ v4).cell? ⟨w1.heap.size+1,2,none⟩=some a2/\(((((w2.setCell ⟨w.heap.size,0,none⟩ v0).setCell ⟨w.heap.size,1,none⟩ v1).setCell ⟨w.heap.size,2,none⟩ v2).setCell ⟨w.heap.size,3,none⟩ v3).setCell ⟨w.heap.size,4,none⟩ v4).cell? ⟨w1.heap.size+1,3,none⟩=some a3/\(((((w2.setCell ⟨w.heap.size,0,none⟩ v0).setCell ⟨w.heap.size,1,none⟩ v1).setCell ⟨w.heap.size,2,none⟩ v2).setCell ⟨w.heap.size,3,none⟩ v3).setCell ⟨w.heap.size,4,none⟩ v4).cell? ⟨w1.heap.size+1,4,none⟩=some a4:=by
 obtain ⟨h1,h2,h3,h4,h5,h6,h7,h8⟩:=hh
 refine ⟨?_,?_,?_,?_,?_,?_,?_,?_⟩
 ·exact (far5 _ _ _ _ _ _ _ _ (by simp;omega)).trans h1
 ·exact (far5 _ _ _ _ _ _ _ _ (by simp;omega)).trans h2
 ·exact (far5 _ _ _ _ _ _ _ _ (by simp;omega)).trans h3
 ·exact (far5 _ _ _ _ _ _ _ _ (by simp;omega)).trans h4
 ·exact (far5 _ _ _ _ _ _ _ _ (by simp;omega)).trans h5
 ·exact (far5 _ _ _ _ _ _ _ _ (by simp;omega)).trans h6
 ·exact (far5 _ _ _ _ _ _ _ _ (by simp;omega)).trans h7
 ·exact (far5 _ _ _ _ _ _ _ _ (by simp;omega)).trans h8
theorem newRes {w w1 w2:World} {o o':Obj} {t:TypeId} (hb1:Below (w.alloc (.cells #[.int .i64 0,.int .i64 0,.int .i64 0,.int .i64 0,.int .i64 0] t)).heap.size (w.alloc (.cells #[.int .i64 0,.int .i64 0,.int .i64 0,.int .i64 0,.int .i64 0] t)) w1)
 (hb2:Below ((w1.alloc o).alloc o').drew.heap.size ((w1.alloc o).alloc o').drew w2) :
 (∀ i,i < 5->w2.cell? ⟨w.heap.size,i,none⟩=some (.int .i64 0)) /\ ∀ i,w2.frozen? ⟨w.heap.size,i,none⟩=false:=by
 have hz:w.heap.size < w1.heap.size:=by have:=hb1.size;simp at this;omega
 have b:Below w1.heap.size w1 w2:=((stA (stA (st0 w1) o) o').drew).trans (hb2.mono (by simp;omega))
 refine ⟨fun i hi=>?_,fun i=>?_⟩
 ·rw [b.cell hz,hb1.cell (by simp),cell_new _ _ _ _ rfl]
  have hc:i=0 \/ i=1 \/ i=2 \/ i=3 \/ i=4:=by omega
  rcases hc with rfl | rfl | rfl | rfl | rfl <;> rfl
 ·rw [b.frozen hz,hb1.frozen (by simp)]
  simp
end Go.Proofs.YtbhpfkjfijdmaaaGreatDoor
