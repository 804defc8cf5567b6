/-
  Parts of a proof, joined.
-/
import Derived.Test.YtbennamieealbaaGreatDoorZg21
import Derived.WalkKit
import Derived.ProofKit
import Derived.Maps.OwnOps
import Derived.ChangeMaps5
import Derived.Below
import Derived.Deep.RegionWith
set_option linter.unusedVariables false
set_option maxRecDepth 100000
set_option maxHeartbeats 1600000
namespace Go.Proofs.YtbennamieealbaaGreatDoor
open Go.ChangeShapes Go.WideShapes Go.ChangeAt Go.RowKit
section
variable {σ : Type} {m : C.Mem σ} {B nr nw : Nat} {cr cw : Array Value × Array Value} {I : World -> σ -> Prop} {T : σ -> Nat -> Prop}
theorem zfR (R:RS m B nr nw cr cw I T) (a:Int) (ha:0<=a) (ha':a<=65535) (w:World) (p:Nat) (x:C.St σ) (hfu:4<=m.fuel x.s) (hP:PI B nr nw cr cw I T w p x) :
 Calls Tryz.prog 229 #[.pointer (some ⟨p,0,none⟩),.int .u16 a] w λe w'=>e = .returned (.tuple #[])/\PI B nr nw cr cw I T w' p (C.leave m x a)/\PM B T p x.s (C.leave m x a).s w w':=by
 obtain ⟨c8,_,_,_,_,_,_,_,_,_⟩:=hP.cells
 have hlt:=hP.lt
 have HP:=hid hP
 have HR:=hid R
 have HK:=hid hP.ok
 have HFU:=hid hfu
 have HFL:Hid (2<=m.fuel (C.push m x x.c.PC).s):=hid (by have:=R.fpush x x.c.PC;omega)
 clear hP R hfu
 go_enter Tryz.func229,Tryz.ntmps229
 go_wp2_with (first
  | (go_at_call 256;first
      | (refine (zc4 HR.out _ (C.sign_bd _).1 (Int.le_trans (C.sign_bd _).2 (by omega)) _ p y1 HFL.out (HY1.out.kept HR.out hb2)).mono ?_;rintro e w3 ⟨rfl,hP3,hm3⟩;generalize hy2:C.push m y1 (C.sign y1.c)=y2 at hP3 hm3;obtain ⟨_,_,_,_,_,_,_,e15,e16,_⟩:=hP3.cells;have ef1:=hP3.frozen 13;have ef2:=hP3.frozen 14;have el:=hP3.lt;have HY2:=hid hP3;have HE2:=hid hy2;clear hP3 hy2)
      | (refine (zc4 HR.out _ HK.out.2.2.1 HK.out.2.2.2 _ p x (Nat.le_trans (by decide) HFU.out) HP.out).mono ?_;rintro e w1 ⟨rfl,hP1,hm1⟩;generalize hy1:C.push m x x.c.PC=y1 at hP1 hm1 HFL;obtain ⟨d8,d9,d10,d11,d12,d13,d14,d15,d16,d17⟩:=hP1.cells;obtain ⟨d0,d1,d2,d3,d4,d5,d6,d7⟩:=hP1.regs;have dl:=hP1.lt;have HY1:=hid hP1;have HE1:=hid hy1;clear hP1 hy1))
  | (go_at_call 257;refine (zlj y1.c _).mono ?_;rintro e w2 ⟨rfl,hb2⟩)
  | (go_at_call 91;refine (zbY HR.out a ha ha' _ y2.s ?_).mono ?_;(exact ((HY2.out.putMay HR.out false).putWaits HR.out false).inv);rintro e w4 ⟨rfl,hI4,hm4⟩;obtain ⟨k4,f4,z4⟩:=((HY2.out.putMay HR.out false).putWaits HR.out false).after hm4 rfl))
 go_end0
 have h1:=HE1.out
 have h2:=HE2.out
 have hE:C.leave m x a=⟨{ y2.c with May:=false,Waits:=false,PC:=(m.rdw y2.s a).1 },(m.rdw y2.s a).2,y2.n⟩:=by subst h1;subst h2;rfl
 rw [hE]
 exact ⟨rfl,(((HY2.out.putMay HR.out false).putWaits HR.out false).movedS HR.out hI4 hm4 rfl).putPC HR.out _ (HR.out.word _ _).1 (HR.out.word _ _).2,(((((hm1.kept (HY1.out.hB HR.out) hb2).trans hm3).set HP.out.big 13 _).set HP.out.big 14 _).moved hm4).set HP.out.big 8 _⟩
theorem zbZ (w:World) (p:Nat) (r:Nat) (n v:Int) (hr:r<8) (hc:w.cell? ⟨p,r,none⟩=some (.int .u16 v)) (hlt:p<w.heap.size) :
 Calls Tryz.prog 265 #[.pointer (some ⟨p,0,none⟩),.int .i64 r,.int .i64 n] w λe w'=>e = .returned (.int .u16 ((v+n)%65536))/\w'=w:=by
 have h0:(0:Int)<=r:=by omega
 have h8:(r:Int)<8:=by omega
 go_enter Tryz.func265,Tryz.ntmps265
 go_wp2
 go_ret
 exact ⟨ret_i (by rw [u16w,u16w];omega),rfl⟩
theorem zfi (R:RS m B nr nw cr cw I T) (w:World) (p:Nat) (x:C.St σ) (hP:PI B nr nw cr cw I T w p x) :
 Calls Tryz.prog 258 #[.pointer (some ⟨p,0,none⟩)] w λe w'=>e = .returned (.int .u16 (m.rdw x.s x.c.PC).1)/\PI B nr nw cr cw I T w' p ⟨{ x.c with PC:=(x.c.PC+2)%65536 },(m.rdw x.s x.c.PC).2,x.n⟩/\PM B T p x.s (m.rdw x.s x.c.PC).2 w w':=by
 obtain ⟨c8,_,_,_,_,_,_,c15,c16,_⟩:=hP.cells
 have hlt:=hP.lt
 have HP:=hid hP
 have HR:=hid R
 have HK:=hid hP.ok
 clear hP R
 go_enter Tryz.func258,Tryz.ntmps258
 go_wp2
 go_region_held3 (λw'=>w'.cell? ⟨p,8,none⟩=some (.int .u16 x.c.PC)/\w'.cell? ⟨p,15,none⟩=some (fw nr cr)/\w'.cell? ⟨p,16,none⟩=some (fw nw cw))
  ((go_keep;done))
  ((go_at_call 91;refine (zbY HR.out x.c.PC HK.out.2.2.1 HK.out.2.2.2 _ x.s ?_).mono ?_;(exact HP.out.invS HR.out rfl);rintro e w1 ⟨rfl,hI1,hm1⟩;obtain ⟨k1,f1,z1⟩:=HP.out.after hm1 rfl))
 have hP1:=HP.out.movedS HR.out hI1 hm1 rfl
 have hPC:=HK.out.2.2
 have HP1:=hid (hP1.putPC HR.out ((x.c.PC+2)%65536) (by omega) (by omega))
 have hw:=u16w (x.c.PC+2)
 clear hP1 hPC
 go_wp2
 go_ret
 exact ⟨rfl,HP1.out.same HR.out rfl,((PM.refl B T p x.s w).drew.moved hm1).set HP.out.big 8 _⟩
theorem zdq (n:Int) (k:Nat) (h0:0<=n) (h1:n<=65535) (hk:k<16) (y:Int) (hy:y=((2 ^ k:Nat):Int)):(bits .and .u16 n y != 0)=decide (n/((2 ^ k:Nat):Int)%2=1):=by
 obtain ⟨N,rfl⟩:=Int.eq_ofNat_of_zero_le h0
 have hp:2 ^ k<65536:=Nat.pow_lt_pow_right (by omega) hk
 rw [hy,u16_and_nat N (2 ^ k) (by omega) hp,M.and_pow,Nat.testBit_eq_decide_div_mod_eq]
 have h2:0<2 ^ k:=Nat.pos_of_ne_zero (by simp)
 have e:((N:Int)/((2 ^ k:Nat):Int)%2=1) ↔ (N/2 ^ k%2=1):=by
  rw [<- Int.natCast_ediv];omega
 by_cases h:N/2 ^ k%2=1
 ·rw [decide_eq_true (e.2 h),decide_eq_true h]
  simp only [if_true,bne_iff_ne,ne_eq]
  omega
 ·rw [decide_eq_false (λx=>h (e.1 x)),decide_eq_false h]
  simp
theorem zfS (R:RS m B nr nw cr cw I T) (w:World) (p:Nat) (x:C.St σ) (hP:PI B nr nw cr cw I T w p x) :
 Calls Tryz.prog 291 #[.pointer (some ⟨p,0,none⟩)] w λe w'=>e = .returned (.tuple #[])/\PI B nr nw cr cw I T w' p (C.comeBack m x)/\PM B T p x.s (C.comeBack m x).s w w':=by
 have HP:=hid hP
 have HR:=hid R
 have hn:=hid (R.word x.s (x.c.r 7))
 clear hP R
 generalize hE:C.comeBack m x=z
 have HE:=hid hE
 clear hE
 go_enter Tryz.func291,Tryz.ntmps291
 go_wp2_with (first
  | (go_at_call 285;first
      | (refine (zfh HR.out _ p _ HY1.out).mono ?_;rintro e w2 ⟨rfl,hP2,hm2⟩;have ef:=hP2.frozen;have el:=hP2.lt;have es8:=hP2.cells;obtain ⟨e8,e9,e10,e11,e12,e13,_,_,_,_⟩:=hP2.cells;have HY2:=hid hP2;clear hP2 es8)
      | (refine (zfh HR.out _ p x HP.out).mono ?_;rintro e w1 ⟨rfl,hP1,hm1⟩;have HY1:=hid hP1;clear hP1)))
 go_end0
 have hE:=HE.out
 subst hE
 have b0:=zdq (C.popV m x) 0 hn.out.1 hn.out.2 (by omega) 1 rfl
 have b1:=zdq (C.popV m x) 1 hn.out.1 hn.out.2 (by omega) 2 rfl
 have b2:=zdq (C.popV m x) 2 hn.out.1 hn.out.2 (by omega) 4 rfl
 have b3:=zdq (C.popV m x) 3 hn.out.1 hn.out.2 (by omega) 8 rfl
 have b4:=zdq (C.popV m x) 4 hn.out.1 hn.out.2 (by omega) 16 rfl
 rw [show ((2 ^ 0:Nat):Int)=1 from rfl,Int.ediv_one] at b0
 rw [show ((2 ^ 1:Nat):Int)=2 from rfl] at b1
 rw [show ((2 ^ 2:Nat):Int)=4 from rfl] at b2
 rw [show ((2 ^ 3:Nat):Int)=8 from rfl] at b3
 rw [show ((2 ^ 4:Nat):Int)=16 from rfl] at b4
 rw [b0,b1,b2,b3,b4]
 exact ⟨rfl,(((((HY2.out.putPC HR.out _ (HR.out.word _ _).1 (HR.out.word _ _).2).putZ HR.out _).putN HR.out _).putC HR.out _).putV HR.out _).putMay HR.out _,
  ((((((hm1.trans hm2).set HP.out.big 8 _).set HP.out.big 9 _).set HP.out.big 10 _).set HP.out.big 11 _).set HP.out.big 12 _).set HP.out.big 13 _⟩
end
def mapAt (w:World) (b:Nat) (l:List (Int × Value)):Prop :=
 ∃ es clock,w.heap[b]? = some (.map es clock)/\es.toList.map (λe=>(e.key,e.val))=l.map (λp=>(Value.int .i64 p.1,p.2))
theorem zgs (op:Int):∀ (es:List MapEntry) (l:List (Int × Value)),es.map (λe=>(e.key,e.val))=l.map (λp=>(Value.int .i64 p.1,p.2))->∀ i:Nat,
 ∃ r,Instr.findNow (.int .i64) (.int .i64 op) es i=some r/\r.map (·.2)=(l.find? (λp=>p.1 == op)).map (·.2)
 | [],[],_,i=>⟨none,rfl,rfl⟩
 | [],_::_,h,_=>by cases h
 | _::_,[],h,_=>by cases h
 | e::es,p::l,h,i=>by
  simp only [List.map_cons,List.cons.injEq,Prod.mk.injEq] at h
  obtain ⟨⟨hk,hv⟩,h⟩:=h
  by_cases c:p.1=op
  ·refine ⟨some (i,e.val),?_,?_⟩
   ·simp [Instr.findNow,hk,Instr.sameNow,c]
   ·simp [c,hv]
  ·obtain ⟨r,h1,h2⟩:=zgs op es l h (i+1)
   refine ⟨r,?_,?_⟩
   ·have c':(op == p.1)=false:=by simp;omega
    simp [Instr.findNow,hk,Instr.sameNow,c',h1]
   ·have c':(p.1 == op)=false:=by simp;omega
    rw [h2,List.find?_cons,c']
theorem zhJ (w:World):mapAt (w.alloc (.map #[] 0)) w.heap.size []:=⟨#[],0,(MapKept.heap_alloc w _).1,rfl⟩
theorem mapAt.lt {w:World} {b:Nat} {l:List (Int × Value)} (h:mapAt w b l):b<w.heap.size:=by
 obtain ⟨es,c,hb,_⟩:=h
 exact (Array.getElem?_eq_some_iff.1 hb).1
theorem mapAt.alloc {w:World} {b:Nat} {l:List (Int × Value)} (h:mapAt w b l) (o:Obj):mapAt (w.alloc o) b l:=by
 have hlt:=h.lt
 obtain ⟨es,c,hb,hm⟩:=h
 exact ⟨es,c,by rw [(MapKept.heap_alloc w o).2 b hlt];exact hb,hm⟩
structure Stored (w w' : World) (b : Nat) : Prop where
 size:w'.heap.size=w.heap.size
 cell:∀ p v,w.cell? p=some v->w'.cell? p=some v
 grown:∀ W,Below W.heap.size W w->W.heap.size<=b->Below W.heap.size W w'
theorem zdr {w:World} {b:Nat} {es:Array MapEntry} {clock:Nat} (hb:w.heap[b]? = some (.map es clock)) (es':Array MapEntry) (clock':Nat) :
 Stored w { w with heap:=w.heap.setIfInBounds b (.map es' clock') } b:=by
 have hs:=MapKept.heap_set (o':=.map es' clock') hb
 refine ⟨by simp,λp v hp=>?_,λW hg hW=>hg.trans ⟨rfl,rfl,rfl,by simp,λk hk=>hs.2 k (by omega)⟩⟩
 ·have hne:p.block≠b:=by
   intro e
   simp [World.cell?,e,hb] at hp
  simp only [World.cell?] at hp ⊢
  rw [hs.2 _ hne]
  exact hp
theorem zhK {P:Program} {t k e:TypeId} (ht:P.underlying t=some (.map k e)) (hk:P.underlying k=some (.int .i64)) {w:World} {b:Nat} {l:List (Int × Value)} (h:mapAt w b l) (x:Int) (v:Value)
 (hf:l.find? (λp=>p.1 == x)=none):∃ w',(Instr.mapUpdate t (.map (some b)) (.int .i64 x) v).run P w = .ok () w'/\mapAt w' b (l++[(x,v)])/\Stored w w' b:=by
 obtain ⟨es,c,hb,hm⟩:=h
 obtain ⟨r,h1,h2⟩:=zgs x es.toList l hm 0
 have hr:r=none:=by
  cases r with
  | none=>rfl
  | some q=>simp [hf] at h2
 subst hr
 have hc:(Instr.checkKey false 10000 k (.int .i64 x)).run P w = .ok () w:=MapKept.run_checkKey (k:=.int .i64 x) hk (by simp [MapKept.IsKey]) false 9999
 refine ⟨{ w with heap:=w.heap.setIfInBounds b (.map (es.push { key:=.int .i64 x,val:=v,born:=c }) (c+1)) },?_,?_,zdr hb _ _⟩
 ·simp [Instr.mapUpdate,run_underlying ht,MapKept.run_getObj_map hb,hc,MapKept.run_findKey hk h1,MapKept.run_setObj_map _ hb,Result.andThen]
 ·exact ⟨_,_,(MapKept.heap_set hb).1,by simp [hm]⟩
theorem zaH {P:Program} (w:World) {ops:Array Oper} {rest:List Oper} {o:Oper} {a:Act} {Q:Exit->Act->World->Prop}
 (hg:o.guard=none) (m x v:Operand) (t:TypeId) (hop:o.op=Op.insert t m x v) (k e:TypeId) (ht:P.underlying t=some (.map k e)) (hk:P.underlying k=some (.int .i64))
 (b:Nat) (l:List (Int × Value)) (hm:a.eval m = .map (some b)) (h:mapAt w b l) (key:Int) (val:Value) (hx:a.eval x = .int .i64 key) (hv:a.eval v=val) (hf:l.find? (λp=>p.1 == key)=none)
 (hK:∀ w',mapAt w' b (l++[(key,val)])->Stored w w' b->wpList P ops Q rest (a.put o.dst undef) w'):wpList P ops Q (o::rest) a w:=by
 refine wpList_plain hg λK' hK'=>?_
 obtain ⟨w',hrun,r1,r2⟩:=zhK ht hk h key val hf
 unfold Oper.wp
 simp [execOp,hop,hm,hx,hv,hrun,Result.andThen]
 exact hK' _ _ (hK w' r1 r2)
theorem za2 {P:Program} {t k e:TypeId} (ht:P.underlying t=some (.map k e)) (hk:P.underlying k=some (.int .i64)) {w:World} {b:Nat} {l:List (Int × Value)} (h:mapAt w b l) (x:Int) (z:Value)
 (hz:(zeroValue e).run P w = .ok z w):(Instr.lookup t (.map (some b)) (.int .i64 x) true).run P w =
  .ok (.tuple #[((l.find? (λp=>p.1 == x)).map (·.2)).getD z,.bool (l.find? (λp=>p.1 == x)).isSome]) w:=by
 obtain ⟨es,c,hb,hm⟩:=h
 obtain ⟨r,h1,h2⟩:=zgs x es.toList l hm 0
 have hc:∀ em,(Instr.checkKey em 10000 k (.int .i64 x)).run P w = .ok () w:=λem=>MapKept.run_checkKey (k:=.int .i64 x) hk (by simp [MapKept.IsKey]) em 9999
 cases r with
 | none =>
  have hn:l.find? (λp=>p.1 == x)=none:=by simpa using h2.symm
  rw [hn]
  simp [Instr.lookup,run_underlying ht,MapKept.run_getObj_map hb,hc,MapKept.run_findKey hk h1,hz,Result.andThen]
 | some q =>
  obtain ⟨i,v⟩:=q
  cases hq:l.find? (λp=>p.1 == x) with
  | none=>simp [hq] at h2
  | some y =>
   simp [hq] at h2
   simp [Instr.lookup,run_underlying ht,MapKept.run_getObj_map hb,hc,MapKept.run_findKey hk h1,Result.andThen,h2]
def fnV (n:Nat):Value:=.func (.func n) #[] #[]
def cloV (c:Nat):Value:=.func (.func 348) #[] #[.pointer (some ⟨c,0,none⟩)]
def table (c9 c10 c11:Nat):List (Int × Value):=[(7,fnV 335),(15,fnV 335),(8,fnV 336),(14,fnV 336),(9,cloV c9),(10,cloV c10),(11,cloV c11),(28,fnV 341)]
theorem zgt (g:Nat) (w:World) :
 Calls Tryz.prog 337 #[.func (.func g) #[] #[]] w λe w'=>e = .returned (cloV w.heap.size)/\w'=w.alloc (.cells #[fnV g] 417):=by
 go_enter Tryz.func337,Tryz.ntmps337
 go_wp2
 go_ret
 exact ⟨rfl,rfl⟩
theorem zaD:Tryz.prog.underlying 407=some (.map 3 405):=by kernel_rfl
theorem cell_kept {w:World} {p:Addr} {v:Value} (h:w.cell? p=some v) (o:Obj):(w.alloc o).cell? p=some v:=by
 rw [World.cell?_alloc_lt]
 ·exact h
 ·unfold World.cell? at h
  split at h
  ·rename_i hb;exact (Array.getElem?_eq_some_iff.1 hb).1
  ·cases h
theorem zfj (w:World) (v:Value) (t:TypeId):(w.alloc (.cells #[v] t)).cell? ⟨w.heap.size,0,none⟩=some v:=by simp
theorem zaI (w:World):Calls Tryz.prog 331 #[] w λe w'=>∃ b c9 c10 c11,e = .returned (.map (some b))/\mapAt w' b (table c9 c10 c11) /\
 w'.cell? ⟨c9,0,none⟩=some (fnV 338)/\w'.cell? ⟨c10,0,none⟩=some (fnV 339)/\w'.cell? ⟨c11,0,none⟩=some (fnV 340)/\Below w.heap.size w w':=by
 have hmm:=@run_makeMap Tryz.prog
 have hm0:=zhJ w
 go_enter Tryz.func331,Tryz.ntmps331
 go_wp2_with (first
  | (go_at_call 337;refine (zgt _ _).mono ?_;rintro e w' ⟨rfl,rfl⟩)
  | (refine zaH _ rfl _ _ _ 407 rfl 3 405 zaD Tryz.underlying3 w.heap.size [] rfl hm0 7 (fnV 335) rfl rfl rfl ?_;intro w1 hm1 hs1)
  | (refine zaH _ rfl _ _ _ 407 rfl 3 405 zaD Tryz.underlying3 w.heap.size [(7,fnV 335)] rfl hm1 15 (fnV 335) rfl rfl rfl ?_;intro w2 hm2 hs2)
  | (refine zaH _ rfl _ _ _ 407 rfl 3 405 zaD Tryz.underlying3 w.heap.size [(7,fnV 335),(15,fnV 335)] rfl hm2 8 (fnV 336) rfl rfl rfl ?_;intro w3 hm3 hs3)
  | (refine zaH _ rfl _ _ _ 407 rfl 3 405 zaD Tryz.underlying3 w.heap.size [(7,fnV 335),(15,fnV 335),(8,fnV 336)] rfl hm3 14 (fnV 336) rfl rfl rfl ?_;intro w4 hm4 hs4)
  | (refine zaH _ rfl _ _ _ 407 rfl 3 405 zaD Tryz.underlying3 w.heap.size [(7,fnV 335),(15,fnV 335),(8,fnV 336),(14,fnV 336)] rfl (hm4.alloc _) 9 (cloV w4.heap.size) rfl rfl rfl ?_;intro w5 hm5 hs5)
  | (refine zaH _ rfl _ _ _ 407 rfl 3 405 zaD Tryz.underlying3 w.heap.size [(7,fnV 335),(15,fnV 335),(8,fnV 336),(14,fnV 336),(9,cloV w4.heap.size)] rfl (hm5.alloc _) 10 (cloV w5.heap.size) rfl rfl rfl ?_;intro w6 hm6 hs6)
  | (refine zaH _ rfl _ _ _ 407 rfl 3 405 zaD Tryz.underlying3 w.heap.size [(7,fnV 335),(15,fnV 335),(8,fnV 336),(14,fnV 336),(9,cloV w4.heap.size),(10,cloV w5.heap.size)] rfl (hm6.alloc _) 11 (cloV w6.heap.size) rfl rfl rfl ?_;intro w7 hm7 hs7)
  | (refine zaH _ rfl _ _ _ 407 rfl 3 405 zaD Tryz.underlying3 w.heap.size [(7,fnV 335),(15,fnV 335),(8,fnV 336),(14,fnV 336),(9,cloV w4.heap.size),(10,cloV w5.heap.size),(11,cloV w6.heap.size)] rfl hm7 28 (fnV 341) rfl rfl rfl ?_;intro w8 hm8 hs8))
 go_ret
 have k9:=hs8.cell _ _ (hs7.cell _ _ (cell_kept (hs6.cell _ _ (cell_kept (hs5.cell _ _ (zfj w4 (fnV 338) 417)) (.cells #[fnV 339] 417))) (.cells #[fnV 340] 417)))
 have k10:=hs8.cell _ _ (hs7.cell _ _ (cell_kept (hs6.cell _ _ (zfj w5 (fnV 339) 417)) (.cells #[fnV 340] 417)))
 have k11:=hs8.cell _ _ (hs7.cell _ _ (zfj w6 (fnV 340) 417))
 have hg0:Below w.heap.size w (w.alloc (.map #[] 0)):=stA (st0 w) _
 have hg4:=hs4.grown w (hs3.grown w (hs2.grown w (hs1.grown w hg0 (Nat.le_refl _)) (Nat.le_refl _)) (Nat.le_refl _)) (Nat.le_refl _)
 have hg5:=hs5.grown w (stA hg4 _) (Nat.le_refl _)
 have hg6:=hs6.grown w (stA hg5 _) (Nat.le_refl _)
 have hg7:=hs7.grown w (stA hg6 _) (Nat.le_refl _)
 exact ⟨w.heap.size,w4.heap.size,w5.heap.size,w6.heap.size,rfl,hm8,k9,k10,k11,hs8.grown w hg7 (Nat.le_refl _)⟩
theorem b_and (a b:Int) (w:World):Calls Tryz.prog 338 #[.int .u16 a,.int .u16 b] w λe w'=>e = .returned (.int .u16 (bits .and .u16 a b))/\w'=w:=by
 go_enter Tryz.func338,Tryz.ntmps338
 go_wp2
 go_ret
 exact ⟨rfl,rfl⟩
theorem b_or (a b:Int) (w:World):Calls Tryz.prog 339 #[.int .u16 a,.int .u16 b] w λe w'=>e = .returned (.int .u16 (bits .or .u16 a b))/\w'=w:=by
 go_enter Tryz.func339,Tryz.ntmps339
 go_wp2
 go_ret
 exact ⟨rfl,rfl⟩
theorem b_xor (a b:Int) (w:World):Calls Tryz.prog 340 #[.int .u16 a,.int .u16 b] w λe w'=>e = .returned (.int .u16 (bits .xor .u16 a b))/\w'=w:=by
 go_enter Tryz.func340,Tryz.ntmps340
 go_wp2
 go_ret
 exact ⟨rfl,rfl⟩
theorem zng (a b:Int) (c:Nat) (w:World) (hc:w.cell? ⟨c,0,none⟩=some (fnV 338)) :
 Calls Tryz.prog 348 #[.int .u16 a,.int .u16 b,.pointer (some ⟨c,0,none⟩)] w λe w'=>e = .returned (.tuple #[.int .u16 (bits .and .u16 a b),.bool false,.bool false])/\w'=w:=by
 unfold fnV at hc
 go_enter Tryz.func348,Tryz.ntmps348
 go_wp2_with (go_at_call 338;refine (b_and _ _ _).mono ?_;rintro e w' ⟨rfl,rfl⟩)
 go_ret3
 exact ⟨rfl,rfl⟩
theorem zoJ (a b:Int) (c:Nat) (w:World) (hc:w.cell? ⟨c,0,none⟩=some (fnV 339)) :
 Calls Tryz.prog 348 #[.int .u16 a,.int .u16 b,.pointer (some ⟨c,0,none⟩)] w λe w'=>e = .returned (.tuple #[.int .u16 (bits .or .u16 a b),.bool false,.bool false])/\w'=w:=by
 unfold fnV at hc
 go_enter Tryz.func348,Tryz.ntmps348
 go_wp2_with (go_at_call 339;refine (b_or _ _ _).mono ?_;rintro e w' ⟨rfl,rfl⟩)
 go_ret3
 exact ⟨rfl,rfl⟩
theorem znh (a b:Int) (c:Nat) (w:World) (hc:w.cell? ⟨c,0,none⟩=some (fnV 340)) :
 Calls Tryz.prog 348 #[.int .u16 a,.int .u16 b,.pointer (some ⟨c,0,none⟩)] w λe w'=>e = .returned (.tuple #[.int .u16 (bits .xor .u16 a b),.bool false,.bool false])/\w'=w:=by
 unfold fnV at hc
 go_enter Tryz.func348,Tryz.ntmps348
 go_wp2_with (go_at_call 340;refine (b_xor _ _ _).mono ?_;rintro e w' ⟨rfl,rfl⟩)
 go_ret3
 exact ⟨rfl,rfl⟩
theorem zni (a b:Int) (w:World) (ha:0<=a) (ha':a<=65535) (hb:0<=b) (hb':b<=65535) :
 Calls Tryz.prog 341 #[.int .u16 a,.int .u16 b] w λe w'=>e = .returned (.tuple #[.int .u16 (M.mulN a b),.bool (M.mulC a b),.bool false])/\w'=w:=by
 go_enter Tryz.func341,Tryz.ntmps341
 go_wp2_with (go_at_call 342;refine (zna _ _ _ ha ha' hb hb').mono ?_;rintro e w' ⟨rfl,rfl⟩)
 go_ret3
 exact ⟨rfl,rfl⟩
theorem zbK (w:World):(zeroValue 405).run Tryz.prog w = .ok .nilFunc w:=by kernel_rfl
theorem znj (a b:Int) (w:World) (ha:0<=a) (ha':a<=65535) (hb:0<=b) (hb':b<=65535) :
 Calls Tryz.prog 319 #[.int .i64 7,.int .u16 a,.int .u16 b] w λe w'=>e = .returned (.tuple #[.int .u16 (M.addN a b),.bool (M.addN a b == 0),.bool (decide (32768<=M.addN a b)),.bool (M.addC a b),.bool (M.addV a b),.int .i64 0])/\Below w.heap.size w w':=by
 have ht:=M.top_of (M.addN a b) (M.addN_bd a b).1 (M.addN_bd a b).2
 rw [<- ht]
 clear ht
 go_enter Tryz.func319,Tryz.ntmps319
 go_wp2_with (first
  | (go_at_call 331;refine (zaI _).mono ?_;rintro e w1 ⟨bb,c9,c10,c11,rfl,hm,h9,h10,h11,hg⟩;have hl:=za2 zaD Tryz.underlying3 hm 7 _ (zbK w1);simp [table,fnV,cloV] at hl)
  | (go_at_call 335;refine (zi0 _ _ _ ha ha' hb hb').mono ?_;rintro e w' ⟨rfl,rfl⟩))
 exact bodyPost_ret (v:=.tuple #[.int .u16 (M.addN a b),.bool (M.addN a b == 0),.bool (bits .and .u16 (M.addN a b) 32768 != 0),.bool (M.addC a b),.bool (M.addV a b),.int .i64 0]) (by simp [results,Tryz.results319,go_sem]) rfl ⟨rfl,hg⟩
theorem zlk (a b:Int) (w:World) (ha:0<=a) (ha':a<=65535) (hb:0<=b) (hb':b<=65535) :
 Calls Tryz.prog 319 #[.int .i64 15,.int .u16 a,.int .u16 b] w λe w'=>e = .returned (.tuple #[.int .u16 (M.addN a b),.bool (M.addN a b == 0),.bool (decide (32768<=M.addN a b)),.bool (M.addC a b),.bool (M.addV a b),.int .i64 0])/\Below w.heap.size w w':=by
 have ht:=M.top_of (M.addN a b) (M.addN_bd a b).1 (M.addN_bd a b).2
 rw [<- ht]
 clear ht
 go_enter Tryz.func319,Tryz.ntmps319
 go_wp2_with (first
  | (go_at_call 331;refine (zaI _).mono ?_;rintro e w1 ⟨bb,c9,c10,c11,rfl,hm,h9,h10,h11,hg⟩;have hl:=za2 zaD Tryz.underlying3 hm 15 _ (zbK w1);simp [table,fnV,cloV] at hl)
  | (go_at_call 335;refine (zi0 _ _ _ ha ha' hb hb').mono ?_;rintro e w' ⟨rfl,rfl⟩))
 exact bodyPost_ret (v:=.tuple #[.int .u16 (M.addN a b),.bool (M.addN a b == 0),.bool (bits .and .u16 (M.addN a b) 32768 != 0),.bool (M.addC a b),.bool (M.addV a b),.int .i64 0]) (by simp [results,Tryz.results319,go_sem]) rfl ⟨rfl,hg⟩
theorem znk (a b:Int) (w:World) (ha:0<=a) (ha':a<=65535) (hb:0<=b) (hb':b<=65535) :
 Calls Tryz.prog 319 #[.int .i64 8,.int .u16 a,.int .u16 b] w λe w'=>e = .returned (.tuple #[.int .u16 (M.subN a b),.bool (M.subN a b == 0),.bool (decide (32768<=M.subN a b)),.bool (M.subC a b),.bool (M.subV a b),.int .i64 0])/\Below w.heap.size w w':=by
 have ht:=M.top_of (M.subN a b) (M.subN_bd a b).1 (M.subN_bd a b).2
 rw [<- ht]
 clear ht
 go_enter Tryz.func319,Tryz.ntmps319
 go_wp2_with (first
  | (go_at_call 331;refine (zaI _).mono ?_;rintro e w1 ⟨bb,c9,c10,c11,rfl,hm,h9,h10,h11,hg⟩;have hl:=za2 zaD Tryz.underlying3 hm 8 _ (zbK w1);simp [table,fnV,cloV] at hl)
  | (go_at_call 336;refine (zi1 _ _ _ ha ha' hb hb').mono ?_;rintro e w' ⟨rfl,rfl⟩))
 exact bodyPost_ret (v:=.tuple #[.int .u16 (M.subN a b),.bool (M.subN a b == 0),.bool (bits .and .u16 (M.subN a b) 32768 != 0),.bool (M.subC a b),.bool (M.subV a b),.int .i64 0]) (by simp [results,Tryz.results319,go_sem]) rfl ⟨rfl,hg⟩
theorem zll (a b:Int) (w:World) (ha:0<=a) (ha':a<=65535) (hb:0<=b) (hb':b<=65535) :
 Calls Tryz.prog 319 #[.int .i64 14,.int .u16 a,.int .u16 b] w λe w'=>e = .returned (.tuple #[.int .u16 (M.subN a b),.bool (M.subN a b == 0),.bool (decide (32768<=M.subN a b)),.bool (M.subC a b),.bool (M.subV a b),.int .i64 0])/\Below w.heap.size w w':=by
 have ht:=M.top_of (M.subN a b) (M.subN_bd a b).1 (M.subN_bd a b).2
 rw [<- ht]
 clear ht
 go_enter Tryz.func319,Tryz.ntmps319
 go_wp2_with (first
  | (go_at_call 331;refine (zaI _).mono ?_;rintro e w1 ⟨bb,c9,c10,c11,rfl,hm,h9,h10,h11,hg⟩;have hl:=za2 zaD Tryz.underlying3 hm 14 _ (zbK w1);simp [table,fnV,cloV] at hl)
  | (go_at_call 336;refine (zi1 _ _ _ ha ha' hb hb').mono ?_;rintro e w' ⟨rfl,rfl⟩))
 exact bodyPost_ret (v:=.tuple #[.int .u16 (M.subN a b),.bool (M.subN a b == 0),.bool (bits .and .u16 (M.subN a b) 32768 != 0),.bool (M.subC a b),.bool (M.subV a b),.int .i64 0]) (by simp [results,Tryz.results319,go_sem]) rfl ⟨rfl,hg⟩
theorem znl (a b:Int) (w:World) (ha:0<=a) (ha':a<=65535) (hb:0<=b) (hb':b<=65535) :
 Calls Tryz.prog 319 #[.int .i64 9,.int .u16 a,.int .u16 b] w λe w'=>e = .returned (.tuple #[.int .u16 (bits .and .u16 a b),.bool (bits .and .u16 a b == 0),.bool (decide (32768<=bits .and .u16 a b)),.bool false,.bool false,.int .i64 0])/\Below w.heap.size w w':=by
 have ht:=M.top_of (bits .and .u16 a b) (M.and_bd a b ha ha' hb hb').1 (M.and_bd a b ha ha' hb hb').2
 rw [<- ht]
 clear ht
 go_enter Tryz.func319,Tryz.ntmps319
 go_wp2_with (first
  | (go_at_call 331;refine (zaI _).mono ?_;rintro e w1 ⟨bb,c9,c10,c11,rfl,hm,h9,h10,h11,hg⟩;have hl:=za2 zaD Tryz.underlying3 hm 9 _ (zbK w1);simp [table,fnV,cloV] at hl)
  | (go_at_call 348;refine (zng _ _ _ _ h9).mono ?_;rintro e w' ⟨rfl,rfl⟩))
 exact bodyPost_ret (v:=.tuple #[.int .u16 (bits .and .u16 a b),.bool (bits .and .u16 a b == 0),.bool (bits .and .u16 (bits .and .u16 a b) 32768 != 0),.bool false,.bool false,.int .i64 0]) (by simp [results,Tryz.results319,go_sem]) rfl ⟨rfl,hg⟩
theorem zlm (a b:Int) (w:World) (ha:0<=a) (ha':a<=65535) (hb:0<=b) (hb':b<=65535) :
 Calls Tryz.prog 319 #[.int .i64 10,.int .u16 a,.int .u16 b] w λe w'=>e = .returned (.tuple #[.int .u16 (bits .or .u16 a b),.bool (bits .or .u16 a b == 0),.bool (decide (32768<=bits .or .u16 a b)),.bool false,.bool false,.int .i64 0])/\Below w.heap.size w w':=by
 have ht:=M.top_of (bits .or .u16 a b) (M.or_bd a b ha ha' hb hb').1 (M.or_bd a b ha ha' hb hb').2
 rw [<- ht]
 clear ht
 go_enter Tryz.func319,Tryz.ntmps319
 go_wp2_with (first
  | (go_at_call 331;refine (zaI _).mono ?_;rintro e w1 ⟨bb,c9,c10,c11,rfl,hm,h9,h10,h11,hg⟩;have hl:=za2 zaD Tryz.underlying3 hm 10 _ (zbK w1);simp [table,fnV,cloV] at hl)
  | (go_at_call 348;refine (zoJ _ _ _ _ h10).mono ?_;rintro e w' ⟨rfl,rfl⟩))
 exact bodyPost_ret (v:=.tuple #[.int .u16 (bits .or .u16 a b),.bool (bits .or .u16 a b == 0),.bool (bits .and .u16 (bits .or .u16 a b) 32768 != 0),.bool false,.bool false,.int .i64 0]) (by simp [results,Tryz.results319,go_sem]) rfl ⟨rfl,hg⟩
theorem zln (a b:Int) (w:World) (ha:0<=a) (ha':a<=65535) (hb:0<=b) (hb':b<=65535) :
 Calls Tryz.prog 319 #[.int .i64 11,.int .u16 a,.int .u16 b] w λe w'=>e = .returned (.tuple #[.int .u16 (bits .xor .u16 a b),.bool (bits .xor .u16 a b == 0),.bool (decide (32768<=bits .xor .u16 a b)),.bool false,.bool false,.int .i64 0])/\Below w.heap.size w w':=by
 have ht:=M.top_of (bits .xor .u16 a b) (M.xor_bd a b ha ha' hb hb').1 (M.xor_bd a b ha ha' hb hb').2
 rw [<- ht]
 clear ht
 go_enter Tryz.func319,Tryz.ntmps319
 go_wp2_with (first
  | (go_at_call 331;refine (zaI _).mono ?_;rintro e w1 ⟨bb,c9,c10,c11,rfl,hm,h9,h10,h11,hg⟩;have hl:=za2 zaD Tryz.underlying3 hm 11 _ (zbK w1);simp [table,fnV,cloV] at hl)
  | (go_at_call 348;refine (znh _ _ _ _ h11).mono ?_;rintro e w' ⟨rfl,rfl⟩))
 exact bodyPost_ret (v:=.tuple #[.int .u16 (bits .xor .u16 a b),.bool (bits .xor .u16 a b == 0),.bool (bits .and .u16 (bits .xor .u16 a b) 32768 != 0),.bool false,.bool false,.int .i64 0]) (by simp [results,Tryz.results319,go_sem]) rfl ⟨rfl,hg⟩
theorem zlo (a b:Int) (w:World) (ha:0<=a) (ha':a<=65535) (hb:0<=b) (hb':b<=65535) :
 Calls Tryz.prog 319 #[.int .i64 28,.int .u16 a,.int .u16 b] w λe w'=>e = .returned (.tuple #[.int .u16 (M.mulN a b),.bool (M.mulN a b == 0),.bool (decide (32768<=M.mulN a b)),.bool (M.mulC a b),.bool false,.int .i64 0])/\Below w.heap.size w w':=by
 have ht:=M.top_of (M.mulN a b) (M.mulN_bd a b).1 (M.mulN_bd a b).2
 rw [<- ht]
 clear ht
 go_enter Tryz.func319,Tryz.ntmps319
 go_wp2_with (first
  | (go_at_call 331;refine (zaI _).mono ?_;rintro e w1 ⟨bb,c9,c10,c11,rfl,hm,h9,h10,h11,hg⟩;have hl:=za2 zaD Tryz.underlying3 hm 28 _ (zbK w1);simp [table,fnV,cloV] at hl)
  | (go_at_call 341;refine (zni _ _ _ ha ha' hb hb').mono ?_;rintro e w' ⟨rfl,rfl⟩))
 exact bodyPost_ret (v:=.tuple #[.int .u16 (M.mulN a b),.bool (M.mulN a b == 0),.bool (bits .and .u16 (M.mulN a b) 32768 != 0),.bool (M.mulC a b),.bool false,.int .i64 0]) (by simp [results,Tryz.results319,go_sem]) rfl ⟨rfl,hg⟩
def isFl (k:Nat):Prop:=k=7 \/ k=15 \/ k=8 \/ k=14 \/ k=9 \/ k=10 \/ k=11 \/ k=28
theorem zi4 (k:Nat) (hk:isFl k) (a b:Int) (w:World) (ha:0<=a) (ha':a<=65535) (hb:0<=b) (hb':b<=65535) :
 Calls Tryz.prog 319 #[.int .i64 k,.int .u16 a,.int .u16 b] w λe w'=>e = .returned (.tuple #[.int .u16 (C.flN k a b),.bool (C.flN k a b == 0),.bool (decide (32768<=C.flN k a b)),.bool (C.flC k a b),.bool (C.flV k a b),.int .i64 0])/\Below w.heap.size w w':=by
 rcases hk with rfl|rfl|rfl|rfl|rfl|rfl|rfl|rfl
 ·exact znj a b w ha ha' hb hb'
 ·exact zlk a b w ha ha' hb hb'
 ·exact znk a b w ha ha' hb hb'
 ·exact zll a b w ha ha' hb hb'
 ·exact znl a b w ha ha' hb hb'
 ·exact zlm a b w ha ha' hb hb'
 ·exact zln a b w ha ha' hb hb'
 ·exact zlo a b w ha ha' hb hb'
theorem zg2 (k:Nat) (hk:isFl k) (a b:Int) (ha:0<=a) (ha':a<=65535) (hb:0<=b) (hb':b<=65535):0<=C.flN k a b/\C.flN k a b<=65535:=by
 rcases hk with rfl|rfl|rfl|rfl|rfl|rfl|rfl|rfl
 ·exact M.addN_bd a b
 ·exact M.addN_bd a b
 ·exact M.subN_bd a b
 ·exact M.subN_bd a b
 ·exact M.and_bd a b ha ha' hb hb'
 ·exact M.or_bd a b ha ha' hb hb'
 ·exact M.xor_bd a b ha ha' hb hb'
 ·exact M.mulN_bd a b
abbrev ordV (k d s:Nat) (n v:Int):Value:=.agg #[.int .i64 k,.int .i64 d,.int .i64 s,.int .i64 n,.int .i64 v]
section
variable {σ : Type} {m : C.Mem σ} {B nr nw : Nat} {cr cw : Array Value × Array Value} {I : World -> σ -> Prop} {T : σ -> Nat -> Prop}
theorem zcM (R:RS m B nr nw cr cw I T) (k d s:Nat) (n v b:Int) (hk:isFl k) (hd:d<8) (hb:0<=b) (hb':b<=65535) (w:World) (p:Nat) (x:C.St σ) (hP:PI B nr nw cr cw I T w p x) :
 Calls Tryz.prog 276 #[.pointer (some ⟨p,0,none⟩),ordV k d s n v,.int .u16 b] w λe w'=>e = .returned (.int .u16 (C.flN k (x.c.r d) b))/\PI B nr nw cr cw I T w' p (C.reckon x k (x.c.r d) b)/\PM B T p x.s x.s w w':=by
 have cd:=hP.reg d hd
 have hlt:=hP.lt
 have hne:p≠w.heap.size:=by omega
 have hlt1:p<w.heap.size+1:=by omega
 have hr:=C.Cpu.r_bd hP.ok d
 have h0:(0:Int)<=d:=by omega
 have h8:(d:Int)<8:=by omega
 have HP:=hid hP
 have HR:=hid R
 have HC:=λw=>hid (zi4 k hk (x.c.r d) b w hr.1 hr.2 hb hb')
 clear hP R
 unfold C.reckon C.signs
 go_enter Tryz.func276,Tryz.ntmps276
 go_wp2
 go_region_held3 (λw'=>w'.cell? ⟨w.heap.size,0,none⟩=some (.int .i64 k)/\w'.cell? ⟨w.heap.size,1,none⟩=some (.int .i64 d)/\w'.cell? ⟨p,d,none⟩=some (.int .u16 (x.c.r d)))
  ((go_keep;done))
  ((go_at_call 319;refine (HC _).out.mono ?_;rintro e w1 ⟨rfl,hb1⟩;obtain ⟨k1,f1⟩:=bcell hb1))
 have hbw:=stp (stA (st0 w) (.cells #[.int .i64 k,.int .i64 d,.int .i64 s,.int .i64 n,.int .i64 v] 225)).drew hb1
 have hP1:=HP.out.kept HR.out hbw
 obtain ⟨_,e9,e10,e11,e12,_,_,_,_,_⟩:=hP1.cells
 have ef:=hP1.frozen
 have el:=hP1.lt
 have HP1:=hid hP1
 have HBW:=hid hbw
 clear hP1 hbw k1 f1
 go_wp2
 go_ret
 exact ⟨rfl,(((HP1.out.putZ HR.out _).putN HR.out _).putC HR.out _).putV HR.out _,(((((PM.refl B T p x.s w).kept (HP.out.hB HR.out) HBW.out).set HP.out.big 9 _).set HP.out.big 10 _).set HP.out.big 11 _).set HP.out.big 12 _⟩
end
end Go.Proofs.YtbennamieealbaaGreatDoor
