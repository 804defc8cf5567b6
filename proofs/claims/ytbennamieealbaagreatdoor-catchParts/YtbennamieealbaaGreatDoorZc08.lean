/-
  Parts of a proof, joined.
-/
import Derived.Test.YtbennamieealbaaGreatDoorZc07
import Derived.Deep.RegionHeld3
import Derived.WalkKit
import Derived.ProofKit
import Derived.Maps.OwnOps
import Derived.ChangeMaps5
import Derived.Below
import Derived.Deep.RegionWith
set_option linter.unusedVariables false
set_option maxRecDepth 100000
set_option maxHeartbeats 1600000
namespace Go.Proofs.YtbennamieealbaaGreatDoor
open Go.ChangeShapes Go.WideShapes Go.ChangeAt Go.RowKit
section
variable {σ : Type} {m : C.Mem σ} {B nr nw : Nat} {cr cw : Array Value × Array Value} {I : World -> σ -> Prop} {T : σ -> Nat -> Prop}
theorem RS.kept (R:RS m B nr nw cr cw I T) {w w':World} {s:σ} (h:I w s) (hb:Below w.heap.size w w'):I w' s:=R.keep h hb.size (λk hk=>hb.block k (hk.lt (R.lt h)))
theorem RS.out (R:RS m B nr nw cr cw I T) {w:World} {s:σ} (h:I w s) {k:Nat} (hk:w.heap.size<=k):¬ T s k:=λht=>by have:=R.lt h k ht;omega
theorem RS.outN (R:RS m B nr nw cr cw I T) {w w0:World} {s:σ} {cs:Array Value} {t:TypeId} (h:I w s) (e:w0.heap=(w.alloc (.cells cs t)).heap) (ht:t≠66):¬ Tw T w0 s w.heap.size:=Tw.of (R.out h (Nat.le_refl _)) (by rw [e];exact heap_alloc_new w _) ht
theorem RS.box (R:RS m B nr nw cr cw I T) {w w1:World} {s:σ} {cs:Array Value} {t:TypeId} {T':Nat->Prop} (h:I w s) (hm:Mv B (Tw T (w.alloc (.cells cs t)) s) T' (w.alloc (.cells cs t)) w1) (ht:t≠66:=by decide):w.heap.size<w1.heap.size /\ ∀ o,w1.cell? ⟨w.heap.size,o,none⟩=cs[o]?:=by
 refine ⟨by have:=hm.size;simp at this;omega,λo=>?_⟩
 rw [hm.cell (by simp) (R.outN h rfl ht) o]
 exact zai _ _ _ _ rfl
theorem Mv.unbox {B:Nat} {T:σ->Nat->Prop} {s:σ} {T':Nat->Prop} {w w':World} {o:Obj} (h:Mv B (Tw T (w.alloc o) s) T' (w.alloc o) w') (hB:B<=w.heap.size):Mv B (Tw T w s) T' w w':=(((Mv.refl B (Tw T w s) w).alloc hB o).weak (λk hk=>hk.low (stA (st0 w) o))).trans h
theorem zca (R:RS m B nr nw cr cw I T) (a:Int) (ha:0<=a) (ha':a<=65535) (w:World) (s:σ) (hI:I w s) :
 Calls Tryz.prog 91 #[.agg #[fw nr cr,fw nw cw],.int .u16 a] w λe w'=>e = .returned (.int .u16 (m.rdw s a).1)/\I w' (m.rdw s a).2/\Mv B (Tw T w s) (Tw T w' (m.rdw s a).2) w w':=by
 have HI:=hid hI
 have HR:=hid R
 have hB:=R.big hI
 clear hI R
 unfold C.Mem.rdw
 have hw:IntKind.u16.wrap (a+1)=(a+1)%65536:=IntKind.wrap_u16 _
 go_enter Tryz.func91,Tryz.ntmps91
 go_wp2_with (first
  | (go_at_call 180;first
      | (refine (HR.out.read _ (m.rd s a).2 ((a+1)%65536) (by omega) (by omega) HI1.out).mono ?_;rintro e w2 ⟨rfl,hI2,hm2⟩)
      | (refine (HR.out.read _ s a ha ha' (HR.out.kept HI.out (stA (st0 _) _))).mono ?_;rintro e w1 ⟨rfl,hI1,hm1⟩;obtain ⟨hz1,hc1⟩:=HR.out.box HI.out hm1;have c0:=hc1 0;have c1:=hc1 1;have HI1:=hid hI1;clear hc1 hI1))
  | (go_at_call 181;refine (zrz _ _ _ (HR.out.byte _ _).1 (HR.out.byte _ _).2 (HR.out.byte _ _).1 (HR.out.byte _ _).2).mono ?_;rintro e w' ⟨rfl,rfl⟩))
 go_ret
 exact ⟨rfl,hI2,(hm1.trans hm2).unbox hB⟩
theorem zdK (R:RS m B nr nw cr cw I T) (a n:Int) (ha:0<=a) (ha':a<=65535) (hn:0<=n) (hn':n<=65535) (w:World) (s:σ) (hfu:2<=m.fuel s) (hI:I w s) :
 Calls Tryz.prog 267 #[.agg #[fw nr cr,fw nw cw],.int .u16 a,.int .u16 n] w λe w'=>e = .returned (.tuple #[])/\I w' (m.wrw s a n)/\Mv B (Tw T w s) (Tw T w' (m.wrw s a n)) w w':=by
 have HI:=hid hI
 have HR:=hid R
 have hB:=R.big hI
 have hfu1:1<=m.fuel (m.wr s a (n/256)):=by have:=R.fwr s a (n/256);omega
 have hfu0:1<=m.fuel s:=by omega
 have HFU1:=hid hfu1
 have HFU0:=hid hfu0
 clear hI R hfu hfu0 hfu1
 unfold C.Mem.wrw
 have hw:IntKind.u16.wrap (a+1)=(a+1)%65536:=IntKind.wrap_u16 _
 go_enter Tryz.func267,Tryz.ntmps267
 go_wp2_with (first
  | (go_at_call 270;first
      | (refine (HR.out.write _ (m.wr s a (n/256)) ((a+1)%65536) (n%256) (by omega) (by omega) (by omega) (by omega) HFU1.out HI1.out).mono ?_;rintro e w2 ⟨rfl,hI2,hm2⟩)
      | (refine (HR.out.write _ s a (n/256) ha ha' (by omega) (by omega) HFU0.out (HR.out.kept HI.out (stA (st0 _) _))).mono ?_;rintro e w1 ⟨rfl,hI1,hm1⟩;obtain ⟨hz1,hc1⟩:=HR.out.box HI.out hm1;have c0:=hc1 0;have c1:=hc1 1;have HI1:=hid hI1;clear hc1 hI1))
  | (go_at_call 159;refine (zkS n _ hn hn').mono ?_;rintro e w' ⟨rfl,rfl⟩))
 go_end0
 exact ⟨rfl,hI2,(hm1.trans hm2).unbox hB⟩
theorem RS.word (R:RS m B nr nw cr cw I T) (s:σ) (a:Int):0<=(m.rdw s a).1/\(m.rdw s a).1<=65535:=by
 have h1:=R.byte s a
 have h2:=R.byte (m.rd s a).2 ((a+1)%65536)
 unfold C.Mem.rdw
 simp only
 omega
theorem RS.frdw (R:RS m B nr nw cr cw I T) (s:σ) (a:Int):m.fuel s<=m.fuel (m.rdw s a).2:=by
 unfold C.Mem.rdw
 exact Nat.le_trans (R.frd s a) (R.frd _ _)
theorem RS.fwrw (R:RS m B nr nw cr cw I T) (s:σ) (a n:Int):m.fuel s<=m.fuel (m.wrw s a n)+2:=by
 unfold C.Mem.wrw
 have h1:=R.fwr s a (n/256)
 have h2:=R.fwr (m.wr s a (n/256)) ((a+1)%65536) (n%256)
 omega
theorem RS.fpush (R:RS m B nr nw cr cw I T) (x:C.St σ) (n:Int):m.fuel x.s<=m.fuel (C.push m x n).s+2:=R.fwrw _ _ _
theorem u16w (x:Int):IntKind.u16.wrap x=x%65536:=IntKind.wrap_u16 x
theorem zdz (R:RS m B nr nw cr cw I T) (n:Int) (hn:0<=n) (hn':n<=65535) (w:World) (p:Nat) (x:C.St σ) (hfu:2<=m.fuel x.s) (hP:PI B nr nw cr cw I T w p x) :
 Calls Tryz.prog 256 #[.pointer (some ⟨p,0,none⟩),.int .u16 n] w λe w'=>e = .returned (.tuple #[])/\PI B nr nw cr cw I T w' p (C.push m x n)/\PM B T p x.s (C.push m x n).s w w':=by
 have h7:=hP.reg 7 (by omega)
 have hlt:=hP.lt
 have hf:=hP.frozen 7
 have hr:=C.Cpu.r_bd hP.ok 7
 have hw:=u16w (x.c.r 7-2)
 have HP:=hid hP
 have HR:=hid R
 have HP1:=hid (hP.putR R 7 (by omega) ((x.c.r 7-2)%65536) (by omega) (by omega))
 have HFU:=hid hfu
 clear hP R hfu
 go_enter Tryz.func256,Tryz.ntmps256
 go_wp2
 go_region
 go_wp2
 refine cutW (λW=>PI B nr nw cr cw I T W p ⟨x.c.set (7:Nat) ((x.c.r 7-2)%65536),x.s,x.n⟩/\PM B T p x.s x.s w W) ⟨HP1.out.same HR.out rfl,((PM.refl B T p x.s w).set HP.out.big 7 _).drew⟩ ?_
 rintro W ⟨hW,hmW⟩
 have q7:=hW.reg 7 (by omega)
 rw [C.Cpu.r_set HP.out.ok 7 (by omega)] at q7
 obtain ⟨_,_,_,_,_,_,_,q15,q16,_⟩:=hW.cells
 have hltW:=hW.lt
 have HW:=hid hW
 have HM:=hid hmW
 clear hW hmW h7 hlt hf hw HP1
 go_region_held3 (λw'=>w'.cell? ⟨p,7,none⟩=some (.int .u16 ((x.c.r 7-2)%65536))/\w'.cell? ⟨p,15,none⟩=some (fw nr cr)/\w'.cell? ⟨p,16,none⟩=some (fw nw cw))
  ((go_keep;done))
  ((go_at_call 267;refine (zdK HR.out _ _ (by omega) (by omega) hn hn' _ x.s HFU.out ?_).mono ?_;(exact HW.out.invS HR.out rfl);rintro e w1 ⟨rfl,hI1,hm1⟩;obtain ⟨k1,f1,z1⟩:=HW.out.after hm1 rfl))
 go_wp2
 go_end0
 exact ⟨rfl,HW.out.movedS HR.out hI1 hm1 rfl,HM.out.drew.moved hm1⟩
theorem zf9 (R:RS m B nr nw cr cw I T) (w:World) (p:Nat) (x:C.St σ) (hP:PI B nr nw cr cw I T w p x) :
 Calls Tryz.prog 285 #[.pointer (some ⟨p,0,none⟩)] w λe w'=>e = .returned (.int .u16 (C.popV m x))/\PI B nr nw cr cw I T w' p (C.pop m x)/\PM B T p x.s (C.pop m x).s w w':=by
 have h7:w.cell? ⟨p,7,none⟩=some (.int .u16 (x.c.r 7)):=hP.reg 7 (by omega)
 obtain ⟨_,_,_,_,_,_,_,c15,c16,_⟩:=hP.cells
 have hlt:=hP.lt
 have hr:=C.Cpu.r_bd hP.ok 7
 have hr1:=hr.1
 have hr2:=hr.2
 have HP:=hid hP
 have HR:=hid R
 clear hP R hr
 go_enter Tryz.func285,Tryz.ntmps285
 go_wp2
 go_region_held3 (λw'=>w'.cell? ⟨p,7,none⟩=some (.int .u16 (x.c.r 7))/\w'.cell? ⟨p,15,none⟩=some (fw nr cr)/\w'.cell? ⟨p,16,none⟩=some (fw nw cw))
  ((go_keep;done))
  ((go_at_call 91;refine (zca HR.out (x.c.r 7) hr1 hr2 _ x.s ?_).mono ?_;(exact HP.out.invS HR.out rfl);rintro e w1 ⟨rfl,hI1,hm1⟩;obtain ⟨k1,f1,z1⟩:=HP.out.after hm1 rfl))
 have hP1:=HP.out.movedS HR.out hI1 hm1 rfl
 have HP1:=hid (hP1.putR HR.out 7 (by omega) ((x.c.r 7+2)%65536) (by omega) (by omega))
 have hw:=u16w (x.c.r 7+2)
 clear hP1
 go_wp2
 go_region
 go_wp2
 go_ret
 exact ⟨rfl,HP1.out.same HR.out rfl,(((PM.refl B T p x.s w).drew.moved hm1).set HP.out.big 7 _).drew⟩
end
def signTo (b:Nat->Bool):Nat->Int
 | 0=>0
 | k+1=>signTo b k+(if b k then 2 ^ k else 0)
theorem zhs (b:Nat->Bool):∀ k,0<=signTo b k/\signTo b k<2 ^ k
 | 0=>by simp [signTo]
 | k+1=>by
  have:=zhs b k
  have e:(2:Int) ^ (k+1)=2*2 ^ k:=by rw [Int.pow_succ];omega
  simp only [signTo]
  rw [e]
  split <;> omega
theorem or_bit:∀ k:Nat,k<5->∀ s:Nat,s<32->s<2 ^ k->bits .or .u16 (s:Int) ((2 ^ k:Nat):Int)=((s+2 ^ k:Nat):Int):=by decide +kernel
theorem zdL (b:Nat->Bool) (k:Nat) (hk:k<5) (x:Int) (hx:x=((2 ^ k:Nat):Int)):bits .or .u16 (signTo b k) x=signTo b k+2 ^ k:=by
 obtain ⟨h0,h1⟩:=zhs b k
 obtain ⟨s,hs⟩:=Int.eq_ofNat_of_zero_le h0
 have h2:s<2 ^ k:=by
  have:((s:Nat):Int)<((2 ^ k:Nat):Int):=by rw [<- hs];simpa using h1
  omega
 have h3:2 ^ k<=16:=by
  have:k=0 \/ k=1 \/ k=2 \/ k=3 \/ k=4:=by omega
  rcases this with rfl|rfl|rfl|rfl|rfl <;> decide
 rw [hs,hx,or_bit k hk s (by omega) h2]
 simp
def cbit (c:C.Cpu):Nat->Bool
 | 0=>c.Z|1=>c.N|2=>c.C|3=>c.V|_=>c.May
theorem zp5 (c:C.Cpu):signTo (cbit c) 5=C.sign c:=by
 simp only [signTo,cbit,C.sign]
 simp
theorem zrA (x0 x1 x2 x3 x4:Value) (w:World):(Instr.index 377 (.agg #[x0,x1,x2,x3,x4]) (.int .i64 0)).run Tryz.prog w = .ok x0 w:=by kernel_rfl
theorem zrB (x0 x1 x2 x3 x4:Value) (w:World):(Instr.index 377 (.agg #[x0,x1,x2,x3,x4]) (.int .i64 1)).run Tryz.prog w = .ok x1 w:=by kernel_rfl
theorem zrC (x0 x1 x2 x3 x4:Value) (w:World):(Instr.index 377 (.agg #[x0,x1,x2,x3,x4]) (.int .i64 2)).run Tryz.prog w = .ok x2 w:=by kernel_rfl
theorem zrD (x0 x1 x2 x3 x4:Value) (w:World):(Instr.index 377 (.agg #[x0,x1,x2,x3,x4]) (.int .i64 3)).run Tryz.prog w = .ok x3 w:=by kernel_rfl
theorem zrE (x0 x1 x2 x3 x4:Value) (w:World):(Instr.index 377 (.agg #[x0,x1,x2,x3,x4]) (.int .i64 4)).run Tryz.prog w = .ok x4 w:=by kernel_rfl
theorem zbN {b:Nat->Bool} {k:Nat} (h:b k=true):signTo b (k+1)=signTo b k+2 ^ k:=by simp [signTo,h]
theorem zb0 {b:Nat->Bool} {k:Nat} (h:b k=false):signTo b (k+1)=signTo b k:=by simp [signTo,h]
theorem ret_u {k:IntKind} {a b:Int} (h:a=b):Value.int k a = .int k b:=by rw [h]
theorem zkT (c:C.Cpu) (w:World):Calls Tryz.prog 257 #[cpuV c] w λe w'=>e = .returned (.int .u16 (signTo (cbit c) 5))/\Below w.heap.size w w':=by
 go_enter Tryz.func257,Tryz.ntmps257
 go_wp2
 go_loop [3,17] (λs i=>∃ k:Nat,k<=5/\i = .int .i64 k/\s = .int .u16 (signTo (cbit c) k)) (λ_ i=>5-(intOf i).toNat)
 case atStart=>exact ⟨0,by omega,rfl,rfl⟩
 case round =>
  obtain ⟨k,hk,rfl,rfl⟩:=hrel
  have hc:k=0 \/ k=1 \/ k=2 \/ k=3 \/ k=4 \/ k=5:=by omega
  rcases hc with rfl|rfl|rfl|rfl|rfl|rfl
  ·have i0:=zrA
   by_cases hz:c.Z=true
   ·have hy:=hid (zbN (b:=cbit c) (k:=0) hz)
    go_wp2
    go_round
    case rel=>exact ⟨_,_,_,_,⟨1,by omega,by go_num,ret_u ((zdL (cbit c) 0 (by omega) _ (by decide)).trans hy.out.symm)⟩,rfl,rfl,rfl,rfl⟩
    case measure=>simp [intOf]
   ·have hz':c.Z=false:=by simpa using hz
    have hy:=hid (zb0 (b:=cbit c) (k:=0) hz')
    clear hz
    go_wp2
    go_round
    case rel=>exact ⟨_,_,_,_,⟨1,by omega,by go_num,ret_u hy.out.symm⟩,rfl,rfl,rfl,rfl⟩
    case measure=>simp [intOf]
  ·have i0:=zrB
   by_cases hz:c.N=true
   ·have hy:=hid (zbN (b:=cbit c) (k:=1) hz)
    go_wp2
    go_round
    case rel=>exact ⟨_,_,_,_,⟨2,by omega,by go_num,ret_u ((zdL (cbit c) 1 (by omega) _ (by decide)).trans hy.out.symm)⟩,rfl,rfl,rfl,rfl⟩
    case measure=>simp [intOf]
   ·have hz':c.N=false:=by simpa using hz
    have hy:=hid (zb0 (b:=cbit c) (k:=1) hz')
    clear hz
    go_wp2
    go_round
    case rel=>exact ⟨_,_,_,_,⟨2,by omega,by go_num,ret_u hy.out.symm⟩,rfl,rfl,rfl,rfl⟩
    case measure=>simp [intOf]
  ·have i0:=zrC
   by_cases hz:c.C=true
   ·have hy:=hid (zbN (b:=cbit c) (k:=2) hz)
    go_wp2
    go_round
    case rel=>exact ⟨_,_,_,_,⟨3,by omega,by go_num,ret_u ((zdL (cbit c) 2 (by omega) _ (by decide)).trans hy.out.symm)⟩,rfl,rfl,rfl,rfl⟩
    case measure=>simp [intOf]
   ·have hz':c.C=false:=by simpa using hz
    have hy:=hid (zb0 (b:=cbit c) (k:=2) hz')
    clear hz
    go_wp2
    go_round
    case rel=>exact ⟨_,_,_,_,⟨3,by omega,by go_num,ret_u hy.out.symm⟩,rfl,rfl,rfl,rfl⟩
    case measure=>simp [intOf]
  ·have i0:=zrD
   by_cases hz:c.V=true
   ·have hy:=hid (zbN (b:=cbit c) (k:=3) hz)
    go_wp2
    go_round
    case rel=>exact ⟨_,_,_,_,⟨4,by omega,by go_num,ret_u ((zdL (cbit c) 3 (by omega) _ (by decide)).trans hy.out.symm)⟩,rfl,rfl,rfl,rfl⟩
    case measure=>simp [intOf]
   ·have hz':c.V=false:=by simpa using hz
    have hy:=hid (zb0 (b:=cbit c) (k:=3) hz')
    clear hz
    go_wp2
    go_round
    case rel=>exact ⟨_,_,_,_,⟨4,by omega,by go_num,ret_u hy.out.symm⟩,rfl,rfl,rfl,rfl⟩
    case measure=>simp [intOf]
  ·have i0:=zrE
   by_cases hz:c.May=true
   ·have hy:=hid (zbN (b:=cbit c) (k:=4) hz)
    go_wp2
    go_round
    case rel=>exact ⟨_,_,_,_,⟨5,by omega,by go_num,ret_u ((zdL (cbit c) 4 (by omega) _ (by decide)).trans hy.out.symm)⟩,rfl,rfl,rfl,rfl⟩
    case measure=>simp [intOf]
   ·have hz':c.May=false:=by simpa using hz
    have hy:=hid (zb0 (b:=cbit c) (k:=4) hz')
    clear hz
    go_wp2
    go_round
    case rel=>exact ⟨_,_,_,_,⟨5,by omega,by go_num,ret_u hy.out.symm⟩,rfl,rfl,rfl,rfl⟩
    case measure=>simp [intOf]
  ·go_wp2
   go_ret
   exact ⟨rfl,stA (st0 _) _⟩
theorem znL (c:C.Cpu) (w:World):Calls Tryz.prog 257 #[cpuV c] w λe w'=>e = .returned (.int .u16 (C.sign c))/\Below w.heap.size w w':=by
 rw [<- zp5];exact zkT c w
section
variable {σ : Type} {m : C.Mem σ} {B nr nw : Nat} {cr cw : Array Value × Array Value} {I : World -> σ -> Prop} {T : σ -> Nat -> Prop}
theorem zht (R:RS m B nr nw cr cw I T) (a:Int) (ha:0<=a) (ha':a<=65535) (w:World) (p:Nat) (x:C.St σ) (hfu:4<=m.fuel x.s) (hP:PI B nr nw cr cw I T w p x) :
 Calls Tryz.prog 229 #[.pointer (some ⟨p,0,none⟩),.int .u16 a] w λe w'=>e = .returned (.tuple #[])/\PI B nr nw cr cw I T w' p (C.leave m x a)/\PM B T p x.s (C.leave m x a).s w w':=by
 obtain ⟨c8,_,_,_,_,_,_,_,_,_⟩:=hP.cells
 have hlt:=hP.lt
 have HP:=hid hP
 have HR:=hid R
 have HK:=hid hP.ok
 have HFU:=hid hfu
 have HFL:Hid (2<=m.fuel (C.push m x x.c.PC).s):=hid (by have:=R.fpush x x.c.PC;omega)
 clear hP R hfu
 go_enter Tryz.func229,Tryz.ntmps229
 go_wp2_with (first
  | (go_at_call 256;first
      | (refine (zdz HR.out _ (C.sign_bd _).1 (Int.le_trans (C.sign_bd _).2 (by omega)) _ p y1 HFL.out (HY1.out.kept HR.out hb2)).mono ?_;rintro e w3 ⟨rfl,hP3,hm3⟩;generalize hy2:C.push m y1 (C.sign y1.c)=y2 at hP3 hm3;obtain ⟨_,_,_,_,_,_,_,e15,e16,_⟩:=hP3.cells;have ef1:=hP3.frozen 13;have ef2:=hP3.frozen 14;have el:=hP3.lt;have HY2:=hid hP3;have HE2:=hid hy2;clear hP3 hy2)
      | (refine (zdz HR.out _ HK.out.2.2.1 HK.out.2.2.2 _ p x (Nat.le_trans (by decide) HFU.out) HP.out).mono ?_;rintro e w1 ⟨rfl,hP1,hm1⟩;generalize hy1:C.push m x x.c.PC=y1 at hP1 hm1 HFL;obtain ⟨d8,d9,d10,d11,d12,d13,d14,d15,d16,d17⟩:=hP1.cells;obtain ⟨d0,d1,d2,d3,d4,d5,d6,d7⟩:=hP1.regs;have dl:=hP1.lt;have HY1:=hid hP1;have HE1:=hid hy1;clear hP1 hy1))
  | (go_at_call 257;refine (znL y1.c _).mono ?_;rintro e w2 ⟨rfl,hb2⟩)
  | (go_at_call 91;refine (zca HR.out a ha ha' _ y2.s ?_).mono ?_;(exact ((HY2.out.putMay HR.out false).putWaits HR.out false).inv);rintro e w4 ⟨rfl,hI4,hm4⟩;obtain ⟨k4,f4,z4⟩:=((HY2.out.putMay HR.out false).putWaits HR.out false).after hm4 rfl))
 go_end0
 have h1:=HE1.out
 have h2:=HE2.out
 have hE:C.leave m x a=⟨{ y2.c with May:=false,Waits:=false,PC:=(m.rdw y2.s a).1 },(m.rdw y2.s a).2,y2.n⟩:=by subst h1;subst h2;rfl
 rw [hE]
 exact ⟨rfl,(((HY2.out.putMay HR.out false).putWaits HR.out false).movedS HR.out hI4 hm4 rfl).putPC HR.out _ (HR.out.word _ _).1 (HR.out.word _ _).2,(((((hm1.kept (HY1.out.hB HR.out) hb2).trans hm3).set HP.out.big 13 _).set HP.out.big 14 _).moved hm4).set HP.out.big 8 _⟩
theorem zcb (w:World) (p:Nat) (r:Nat) (n v:Int) (hr:r<8) (hc:w.cell? ⟨p,r,none⟩=some (.int .u16 v)) (hlt:p<w.heap.size) :
 Calls Tryz.prog 265 #[.pointer (some ⟨p,0,none⟩),.int .i64 r,.int .i64 n] w λe w'=>e = .returned (.int .u16 ((v+n)%65536))/\w'=w:=by
 have h0:(0:Int)<=r:=by omega
 have h8:(r:Int)<8:=by omega
 go_enter Tryz.func265,Tryz.ntmps265
 go_wp2
 go_ret
 exact ⟨ret_i (by rw [u16w,u16w];omega),rfl⟩
theorem zga (R:RS m B nr nw cr cw I T) (w:World) (p:Nat) (x:C.St σ) (hP:PI B nr nw cr cw I T w p x) :
 Calls Tryz.prog 258 #[.pointer (some ⟨p,0,none⟩)] w λe w'=>e = .returned (.int .u16 (m.rdw x.s x.c.PC).1)/\PI B nr nw cr cw I T w' p ⟨{ x.c with PC:=(x.c.PC+2)%65536 },(m.rdw x.s x.c.PC).2,x.n⟩/\PM B T p x.s (m.rdw x.s x.c.PC).2 w w':=by
 obtain ⟨c8,_,_,_,_,_,_,c15,c16,_⟩:=hP.cells
 have hlt:=hP.lt
 have HP:=hid hP
 have HR:=hid R
 have HK:=hid hP.ok
 clear hP R
 go_enter Tryz.func258,Tryz.ntmps258
 go_wp2
 go_region_held3 (λw'=>w'.cell? ⟨p,8,none⟩=some (.int .u16 x.c.PC)/\w'.cell? ⟨p,15,none⟩=some (fw nr cr)/\w'.cell? ⟨p,16,none⟩=some (fw nw cw))
  ((go_keep;done))
  ((go_at_call 91;refine (zca HR.out x.c.PC HK.out.2.2.1 HK.out.2.2.2 _ x.s ?_).mono ?_;(exact HP.out.invS HR.out rfl);rintro e w1 ⟨rfl,hI1,hm1⟩;obtain ⟨k1,f1,z1⟩:=HP.out.after hm1 rfl))
 have hP1:=HP.out.movedS HR.out hI1 hm1 rfl
 have hPC:=HK.out.2.2
 have HP1:=hid (hP1.putPC HR.out ((x.c.PC+2)%65536) (by omega) (by omega))
 have hw:=u16w (x.c.PC+2)
 clear hP1 hPC
 go_wp2
 go_ret
 exact ⟨rfl,HP1.out.same HR.out rfl,((PM.refl B T p x.s w).drew.moved hm1).set HP.out.big 8 _⟩
theorem zdM (n:Int) (k:Nat) (h0:0<=n) (h1:n<=65535) (hk:k<16) (y:Int) (hy:y=((2 ^ k:Nat):Int)):(bits .and .u16 n y != 0)=decide (n/((2 ^ k:Nat):Int)%2=1):=by
 obtain ⟨N,rfl⟩:=Int.eq_ofNat_of_zero_le h0
 have hp:2 ^ k<65536:=Nat.pow_lt_pow_right (by omega) hk
 rw [hy,u16_and_nat N (2 ^ k) (by omega) hp,M.and_pow,Nat.testBit_eq_decide_div_mod_eq]
 have h2:0<2 ^ k:=Nat.pos_of_ne_zero (by simp)
 have e:((N:Int)/((2 ^ k:Nat):Int)%2=1) ↔ (N/2 ^ k%2=1):=by
  rw [<- Int.natCast_ediv];omega
 by_cases h:N/2 ^ k%2=1
 ·rw [decide_eq_true (e.2 h),decide_eq_true h]
  simp only [if_true,bne_iff_ne,ne_eq]
  omega
 ·rw [decide_eq_false (λx=>h (e.1 x)),decide_eq_false h]
  simp
theorem zhu (R:RS m B nr nw cr cw I T) (w:World) (p:Nat) (x:C.St σ) (hP:PI B nr nw cr cw I T w p x) :
 Calls Tryz.prog 291 #[.pointer (some ⟨p,0,none⟩)] w λe w'=>e = .returned (.tuple #[])/\PI B nr nw cr cw I T w' p (C.comeBack m x)/\PM B T p x.s (C.comeBack m x).s w w':=by
 have HP:=hid hP
 have HR:=hid R
 have hn:=hid (R.word x.s (x.c.r 7))
 clear hP R
 generalize hE:C.comeBack m x=z
 have HE:=hid hE
 clear hE
 go_enter Tryz.func291,Tryz.ntmps291
 go_wp2_with (first
  | (go_at_call 285;first
      | (refine (zf9 HR.out _ p _ HY1.out).mono ?_;rintro e w2 ⟨rfl,hP2,hm2⟩;have ef:=hP2.frozen;have el:=hP2.lt;have es8:=hP2.cells;obtain ⟨e8,e9,e10,e11,e12,e13,_,_,_,_⟩:=hP2.cells;have HY2:=hid hP2;clear hP2 es8)
      | (refine (zf9 HR.out _ p x HP.out).mono ?_;rintro e w1 ⟨rfl,hP1,hm1⟩;have HY1:=hid hP1;clear hP1)))
 go_end0
 have hE:=HE.out
 subst hE
 have b0:=zdM (C.popV m x) 0 hn.out.1 hn.out.2 (by omega) 1 rfl
 have b1:=zdM (C.popV m x) 1 hn.out.1 hn.out.2 (by omega) 2 rfl
 have b2:=zdM (C.popV m x) 2 hn.out.1 hn.out.2 (by omega) 4 rfl
 have b3:=zdM (C.popV m x) 3 hn.out.1 hn.out.2 (by omega) 8 rfl
 have b4:=zdM (C.popV m x) 4 hn.out.1 hn.out.2 (by omega) 16 rfl
 rw [show ((2 ^ 0:Nat):Int)=1 from rfl,Int.ediv_one] at b0
 rw [show ((2 ^ 1:Nat):Int)=2 from rfl] at b1
 rw [show ((2 ^ 2:Nat):Int)=4 from rfl] at b2
 rw [show ((2 ^ 3:Nat):Int)=8 from rfl] at b3
 rw [show ((2 ^ 4:Nat):Int)=16 from rfl] at b4
 rw [b0,b1,b2,b3,b4]
 exact ⟨rfl,(((((HY2.out.putPC HR.out _ (HR.out.word _ _).1 (HR.out.word _ _).2).putZ HR.out _).putN HR.out _).putC HR.out _).putV HR.out _).putMay HR.out _,
  ((((((hm1.trans hm2).set HP.out.big 8 _).set HP.out.big 9 _).set HP.out.big 10 _).set HP.out.big 11 _).set HP.out.big 12 _).set HP.out.big 13 _⟩
end
def mapAt (w:World) (b:Nat) (l:List (Int × Value)):Prop :=
 ∃ es clock,w.heap[b]? = some (.map es clock)/\es.toList.map (λe=>(e.key,e.val))=l.map (λp=>(Value.int .i64 p.1,p.2))
theorem zij (op:Int):∀ (es:List MapEntry) (l:List (Int × Value)),es.map (λe=>(e.key,e.val))=l.map (λp=>(Value.int .i64 p.1,p.2))->∀ i:Nat,
 ∃ r,Instr.findNow (.int .i64) (.int .i64 op) es i=some r/\r.map (·.2)=(l.find? (λp=>p.1 == op)).map (·.2)
 | [],[],_,i=>⟨none,rfl,rfl⟩
 | [],_::_,h,_=>by cases h
 | _::_,[],h,_=>by cases h
 | e::es,p::l,h,i=>by
  simp only [List.map_cons,List.cons.injEq,Prod.mk.injEq] at h
  obtain ⟨⟨hk,hv⟩,h⟩:=h
  by_cases c:p.1=op
  ·refine ⟨some (i,e.val),?_,?_⟩
   ·simp [Instr.findNow,hk,Instr.sameNow,c]
   ·simp [c,hv]
  ·obtain ⟨r,h1,h2⟩:=zij op es l h (i+1)
   refine ⟨r,?_,?_⟩
   ·have c':(op == p.1)=false:=by simp;omega
    simp [Instr.findNow,hk,Instr.sameNow,c',h1]
   ·have c':(p.1 == op)=false:=by simp;omega
    rw [h2,List.find?_cons,c']
theorem zjE (w:World):mapAt (w.alloc (.map #[] 0)) w.heap.size []:=⟨#[],0,(MapKept.heap_alloc w _).1,rfl⟩
theorem mapAt.lt {w:World} {b:Nat} {l:List (Int × Value)} (h:mapAt w b l):b<w.heap.size:=by
 obtain ⟨es,c,hb,_⟩:=h
 exact (Array.getElem?_eq_some_iff.1 hb).1
theorem mapAt.alloc {w:World} {b:Nat} {l:List (Int × Value)} (h:mapAt w b l) (o:Obj):mapAt (w.alloc o) b l:=by
 have hlt:=h.lt
 obtain ⟨es,c,hb,hm⟩:=h
 exact ⟨es,c,by rw [(MapKept.heap_alloc w o).2 b hlt];exact hb,hm⟩
structure Stored (w w' : World) (b : Nat) : Prop where
 size:w'.heap.size=w.heap.size
 cell:∀ p v,w.cell? p=some v->w'.cell? p=some v
 grown:∀ W,Below W.heap.size W w->W.heap.size<=b->Below W.heap.size W w'
theorem zdN {w:World} {b:Nat} {es:Array MapEntry} {clock:Nat} (hb:w.heap[b]? = some (.map es clock)) (es':Array MapEntry) (clock':Nat) :
 Stored w { w with heap:=w.heap.setIfInBounds b (.map es' clock') } b:=by
 have hs:=MapKept.heap_set (o':=.map es' clock') hb
 refine ⟨by simp,λp v hp=>?_,λW hg hW=>hg.trans ⟨rfl,rfl,rfl,by simp,λk hk=>hs.2 k (by omega)⟩⟩
 ·have hne:p.block≠b:=by
   intro e
   simp [World.cell?,e,hb] at hp
  simp only [World.cell?] at hp ⊢
  rw [hs.2 _ hne]
  exact hp
theorem zjF {P:Program} {t k e:TypeId} (ht:P.underlying t=some (.map k e)) (hk:P.underlying k=some (.int .i64)) {w:World} {b:Nat} {l:List (Int × Value)} (h:mapAt w b l) (x:Int) (v:Value)
 (hf:l.find? (λp=>p.1 == x)=none):∃ w',(Instr.mapUpdate t (.map (some b)) (.int .i64 x) v).run P w = .ok () w'/\mapAt w' b (l++[(x,v)])/\Stored w w' b:=by
 obtain ⟨es,c,hb,hm⟩:=h
 obtain ⟨r,h1,h2⟩:=zij x es.toList l hm 0
 have hr:r=none:=by
  cases r with
  | none=>rfl
  | some q=>simp [hf] at h2
 subst hr
 have hc:(Instr.checkKey false 10000 k (.int .i64 x)).run P w = .ok () w:=MapKept.run_checkKey (k:=.int .i64 x) hk (by simp [MapKept.IsKey]) false 9999
 refine ⟨{ w with heap:=w.heap.setIfInBounds b (.map (es.push { key:=.int .i64 x,val:=v,born:=c }) (c+1)) },?_,?_,zdN hb _ _⟩
 ·simp [Instr.mapUpdate,run_underlying ht,MapKept.run_getObj_map hb,hc,MapKept.run_findKey hk h1,MapKept.run_setObj_map _ hb,Result.andThen]
 ·exact ⟨_,_,(MapKept.heap_set hb).1,by simp [hm]⟩
theorem zaK {P:Program} (w:World) {ops:Array Oper} {rest:List Oper} {o:Oper} {a:Act} {Q:Exit->Act->World->Prop}
 (hg:o.guard=none) (m x v:Operand) (t:TypeId) (hop:o.op=Op.insert t m x v) (k e:TypeId) (ht:P.underlying t=some (.map k e)) (hk:P.underlying k=some (.int .i64))
 (b:Nat) (l:List (Int × Value)) (hm:a.eval m = .map (some b)) (h:mapAt w b l) (key:Int) (val:Value) (hx:a.eval x = .int .i64 key) (hv:a.eval v=val) (hf:l.find? (λp=>p.1 == key)=none)
 (hK:∀ w',mapAt w' b (l++[(key,val)])->Stored w w' b->wpList P ops Q rest (a.put o.dst undef) w'):wpList P ops Q (o::rest) a w:=by
 refine wpList_plain hg λK' hK'=>?_
 obtain ⟨w',hrun,r1,r2⟩:=zjF ht hk h key val hf
 unfold Oper.wp
 simp [execOp,hop,hm,hx,hv,hrun,Result.andThen]
 exact hK' _ _ (hK w' r1 r2)
theorem za5 {P:Program} {t k e:TypeId} (ht:P.underlying t=some (.map k e)) (hk:P.underlying k=some (.int .i64)) {w:World} {b:Nat} {l:List (Int × Value)} (h:mapAt w b l) (x:Int) (z:Value)
 (hz:(zeroValue e).run P w = .ok z w):(Instr.lookup t (.map (some b)) (.int .i64 x) true).run P w =
  .ok (.tuple #[((l.find? (λp=>p.1 == x)).map (·.2)).getD z,.bool (l.find? (λp=>p.1 == x)).isSome]) w:=by
 obtain ⟨es,c,hb,hm⟩:=h
 obtain ⟨r,h1,h2⟩:=zij x es.toList l hm 0
 have hc:∀ em,(Instr.checkKey em 10000 k (.int .i64 x)).run P w = .ok () w:=λem=>MapKept.run_checkKey (k:=.int .i64 x) hk (by simp [MapKept.IsKey]) em 9999
 cases r with
 | none =>
  have hn:l.find? (λp=>p.1 == x)=none:=by simpa using h2.symm
  rw [hn]
  simp [Instr.lookup,run_underlying ht,MapKept.run_getObj_map hb,hc,MapKept.run_findKey hk h1,hz,Result.andThen]
 | some q =>
  obtain ⟨i,v⟩:=q
  cases hq:l.find? (λp=>p.1 == x) with
  | none=>simp [hq] at h2
  | some y =>
   simp [hq] at h2
   simp [Instr.lookup,run_underlying ht,MapKept.run_getObj_map hb,hc,MapKept.run_findKey hk h1,Result.andThen,h2]
def fnV (n:Nat):Value:=.func (.func n) #[] #[]
def cloV (c:Nat):Value:=.func (.func 348) #[] #[.pointer (some ⟨c,0,none⟩)]
def table (c9 c10 c11:Nat):List (Int × Value):=[(7,fnV 335),(15,fnV 335),(8,fnV 336),(14,fnV 336),(9,cloV c9),(10,cloV c10),(11,cloV c11),(28,fnV 341)]
theorem zik (g:Nat) (w:World) :
 Calls Tryz.prog 337 #[.func (.func g) #[] #[]] w λe w'=>e = .returned (cloV w.heap.size)/\w'=w.alloc (.cells #[fnV g] 417):=by
 go_enter Tryz.func337,Tryz.ntmps337
 go_wp2
 go_ret
 exact ⟨rfl,rfl⟩
theorem zaH:Tryz.prog.underlying 407=some (.map 3 405):=by kernel_rfl
theorem cell_kept {w:World} {p:Addr} {v:Value} (h:w.cell? p=some v) (o:Obj):(w.alloc o).cell? p=some v:=by
 rw [World.cell?_alloc_lt]
 ·exact h
 ·unfold World.cell? at h
  split at h
  ·rename_i hb;exact (Array.getElem?_eq_some_iff.1 hb).1
  ·cases h
theorem zgb (w:World) (v:Value) (t:TypeId):(w.alloc (.cells #[v] t)).cell? ⟨w.heap.size,0,none⟩=some v:=by simp
theorem zaL (w:World):Calls Tryz.prog 331 #[] w λe w'=>∃ b c9 c10 c11,e = .returned (.map (some b))/\mapAt w' b (table c9 c10 c11) /\
 w'.cell? ⟨c9,0,none⟩=some (fnV 338)/\w'.cell? ⟨c10,0,none⟩=some (fnV 339)/\w'.cell? ⟨c11,0,none⟩=some (fnV 340)/\Below w.heap.size w w':=by
 have hmm:=@run_makeMap Tryz.prog
 have hm0:=zjE w
 go_enter Tryz.func331,Tryz.ntmps331
 go_wp2_with (first
  | (go_at_call 337;refine (zik _ _).mono ?_;rintro e w' ⟨rfl,rfl⟩)
  | (refine zaK _ rfl _ _ _ 407 rfl 3 405 zaH Tryz.underlying3 w.heap.size [] rfl hm0 7 (fnV 335) rfl rfl rfl ?_;intro w1 hm1 hs1)
  | (refine zaK _ rfl _ _ _ 407 rfl 3 405 zaH Tryz.underlying3 w.heap.size [(7,fnV 335)] rfl hm1 15 (fnV 335) rfl rfl rfl ?_;intro w2 hm2 hs2)
  | (refine zaK _ rfl _ _ _ 407 rfl 3 405 zaH Tryz.underlying3 w.heap.size [(7,fnV 335),(15,fnV 335)] rfl hm2 8 (fnV 336) rfl rfl rfl ?_;intro w3 hm3 hs3)
  | (refine zaK _ rfl _ _ _ 407 rfl 3 405 zaH Tryz.underlying3 w.heap.size [(7,fnV 335),(15,fnV 335),(8,fnV 336)] rfl hm3 14 (fnV 336) rfl rfl rfl ?_;intro w4 hm4 hs4)
  | (refine zaK _ rfl _ _ _ 407 rfl 3 405 zaH Tryz.underlying3 w.heap.size [(7,fnV 335),(15,fnV 335),(8,fnV 336),(14,fnV 336)] rfl (hm4.alloc _) 9 (cloV w4.heap.size) rfl rfl rfl ?_;intro w5 hm5 hs5)
  | (refine zaK _ rfl _ _ _ 407 rfl 3 405 zaH Tryz.underlying3 w.heap.size [(7,fnV 335),(15,fnV 335),(8,fnV 336),(14,fnV 336),(9,cloV w4.heap.size)] rfl (hm5.alloc _) 10 (cloV w5.heap.size) rfl rfl rfl ?_;intro w6 hm6 hs6)
  | (refine zaK _ rfl _ _ _ 407 rfl 3 405 zaH Tryz.underlying3 w.heap.size [(7,fnV 335),(15,fnV 335),(8,fnV 336),(14,fnV 336),(9,cloV w4.heap.size),(10,cloV w5.heap.size)] rfl (hm6.alloc _) 11 (cloV w6.heap.size) rfl rfl rfl ?_;intro w7 hm7 hs7)
  | (refine zaK _ rfl _ _ _ 407 rfl 3 405 zaH Tryz.underlying3 w.heap.size [(7,fnV 335),(15,fnV 335),(8,fnV 336),(14,fnV 336),(9,cloV w4.heap.size),(10,cloV w5.heap.size),(11,cloV w6.heap.size)] rfl hm7 28 (fnV 341) rfl rfl rfl ?_;intro w8 hm8 hs8))
 go_ret
 have k9:=hs8.cell _ _ (hs7.cell _ _ (cell_kept (hs6.cell _ _ (cell_kept (hs5.cell _ _ (zgb w4 (fnV 338) 417)) (.cells #[fnV 339] 417))) (.cells #[fnV 340] 417)))
 have k10:=hs8.cell _ _ (hs7.cell _ _ (cell_kept (hs6.cell _ _ (zgb w5 (fnV 339) 417)) (.cells #[fnV 340] 417)))
 have k11:=hs8.cell _ _ (hs7.cell _ _ (zgb w6 (fnV 340) 417))
 have hg0:Below w.heap.size w (w.alloc (.map #[] 0)):=stA (st0 w) _
 have hg4:=hs4.grown w (hs3.grown w (hs2.grown w (hs1.grown w hg0 (Nat.le_refl _)) (Nat.le_refl _)) (Nat.le_refl _)) (Nat.le_refl _)
 have hg5:=hs5.grown w (stA hg4 _) (Nat.le_refl _)
 have hg6:=hs6.grown w (stA hg5 _) (Nat.le_refl _)
 have hg7:=hs7.grown w (stA hg6 _) (Nat.le_refl _)
 exact ⟨w.heap.size,w4.heap.size,w5.heap.size,w6.heap.size,rfl,hm8,k9,k10,k11,hs8.grown w hg7 (Nat.le_refl _)⟩
theorem b_and (a b:Int) (w:World):Calls Tryz.prog 338 #[.int .u16 a,.int .u16 b] w λe w'=>e = .returned (.int .u16 (bits .and .u16 a b))/\w'=w:=by
 go_enter Tryz.func338,Tryz.ntmps338
 go_wp2
 go_ret
 exact ⟨rfl,rfl⟩
theorem b_or (a b:Int) (w:World):Calls Tryz.prog 339 #[.int .u16 a,.int .u16 b] w λe w'=>e = .returned (.int .u16 (bits .or .u16 a b))/\w'=w:=by
 go_enter Tryz.func339,Tryz.ntmps339
 go_wp2
 go_ret
 exact ⟨rfl,rfl⟩
theorem b_xor (a b:Int) (w:World):Calls Tryz.prog 340 #[.int .u16 a,.int .u16 b] w λe w'=>e = .returned (.int .u16 (bits .xor .u16 a b))/\w'=w:=by
 go_enter Tryz.func340,Tryz.ntmps340
 go_wp2
 go_ret
 exact ⟨rfl,rfl⟩
theorem zp6 (a b:Int) (c:Nat) (w:World) (hc:w.cell? ⟨c,0,none⟩=some (fnV 338)) :
 Calls Tryz.prog 348 #[.int .u16 a,.int .u16 b,.pointer (some ⟨c,0,none⟩)] w λe w'=>e = .returned (.tuple #[.int .u16 (bits .and .u16 a b),.bool false,.bool false])/\w'=w:=by
 unfold fnV at hc
 go_enter Tryz.func348,Tryz.ntmps348
 go_wp2_with (go_at_call 338;refine (b_and _ _ _).mono ?_;rintro e w' ⟨rfl,rfl⟩)
 go_ret3
 exact ⟨rfl,rfl⟩
theorem zrF (a b:Int) (c:Nat) (w:World) (hc:w.cell? ⟨c,0,none⟩=some (fnV 339)) :
 Calls Tryz.prog 348 #[.int .u16 a,.int .u16 b,.pointer (some ⟨c,0,none⟩)] w λe w'=>e = .returned (.tuple #[.int .u16 (bits .or .u16 a b),.bool false,.bool false])/\w'=w:=by
 unfold fnV at hc
 go_enter Tryz.func348,Tryz.ntmps348
 go_wp2_with (go_at_call 339;refine (b_or _ _ _).mono ?_;rintro e w' ⟨rfl,rfl⟩)
 go_ret3
 exact ⟨rfl,rfl⟩
theorem zp7 (a b:Int) (c:Nat) (w:World) (hc:w.cell? ⟨c,0,none⟩=some (fnV 340)) :
 Calls Tryz.prog 348 #[.int .u16 a,.int .u16 b,.pointer (some ⟨c,0,none⟩)] w λe w'=>e = .returned (.tuple #[.int .u16 (bits .xor .u16 a b),.bool false,.bool false])/\w'=w:=by
 unfold fnV at hc
 go_enter Tryz.func348,Tryz.ntmps348
 go_wp2_with (go_at_call 340;refine (b_xor _ _ _).mono ?_;rintro e w' ⟨rfl,rfl⟩)
 go_ret3
 exact ⟨rfl,rfl⟩
theorem zp8 (a b:Int) (w:World) (ha:0<=a) (ha':a<=65535) (hb:0<=b) (hb':b<=65535) :
 Calls Tryz.prog 341 #[.int .u16 a,.int .u16 b] w λe w'=>e = .returned (.tuple #[.int .u16 (M.mulN a b),.bool (M.mulC a b),.bool false])/\w'=w:=by
 go_enter Tryz.func341,Tryz.ntmps341
 go_wp2_with (go_at_call 342;refine (zp0 _ _ _ ha ha' hb hb').mono ?_;rintro e w' ⟨rfl,rfl⟩)
 go_ret3
 exact ⟨rfl,rfl⟩
theorem zb1 (w:World):(zeroValue 405).run Tryz.prog w = .ok .nilFunc w:=by kernel_rfl
end Go.Proofs.YtbennamieealbaaGreatDoor
