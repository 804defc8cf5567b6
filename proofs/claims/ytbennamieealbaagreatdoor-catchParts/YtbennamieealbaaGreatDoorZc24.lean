/-
  Parts of a proof, joined.
-/
import Derived.Test.YtbennamieealbaaGreatDoorZc14
import Derived.Lib.SlBuf
import Derived.Laws.IdiomCopy
import Derived.Deep.RegionLaw
set_option linter.unusedVariables false
set_option maxRecDepth 100000
set_option maxHeartbeats 3200000
namespace Go.Proofs.YtbennamieealbaaGreatDoor
open Go.ChangeShapes Go.WideShapes Go.ChangeAt Go.RowKit
def gb (m:List UInt8) (i:Nat):Nat:=(m.getD i 0).toNat
theorem gb_lt (m:List UInt8) (i:Nat):gb m i<256:=(m.getD i 0).toNat_lt
def td (m:List UInt8) (t x y:Nat):Nat:=gb m (16+4*(t%16)+y)/4 ^ (3-x)%4
theorem td_lt (m:List UInt8) (t x y:Nat):td m t x y<4:=Nat.mod_lt _ (by decide)
def g16 (m:List UInt8) (Y X:Nat):Nat:=td m (gb m (Y/4*4+X/4)) (X%4) (Y%4)
def gd (m:List UInt8) (y x:Nat):Nat:=g16 m ((y+gb m 169)%16) ((x+gb m 168)%16)
theorem gd_lt (m:List UInt8) (y x:Nat):gd m y x<4:=td_lt ..
def lnS (m:List UInt8) (k:Nat):Nat:=gb m (128+4*k)
def clS (m:List UInt8) (k:Nat):Nat:=gb m (129+4*k)
def tiS (m:List UInt8) (k:Nat):Nat:=gb m (130+4*k)
def hwS (m:List UInt8) (k:Nat):Nat:=gb m (131+4*k)
def onS (m:List UInt8) (y k:Nat):Bool:=decide (lnS m k<=y/\y<lnS m k+4)
def drS (m:List UInt8) (y:Nat) (n:Nat):List Nat:=(List.range n).filter (onS m y)
theorem zgs (m:List UInt8) (y n:Nat):drS m y (n+1)=if onS m y n then drS m y n++[n] else drS m y n:=by
 unfold drS
 rw [List.range_succ,List.filter_append]
 cases h:onS m y n <;> simp [h]
theorem zsd {m:List UInt8} {y n k:Nat} (h:k∈drS m y n):k<n:=by
 unfold drS at h
 rw [List.mem_filter] at h
 exact List.mem_range.1 h.1
theorem zse {m:List UInt8} {y n k:Nat} (h:k∈drS m y n):onS m y k=true:=by
 unfold drS at h
 exact (List.mem_filter.1 h).2
def rwS (m:List UInt8) (y k:Nat):Nat:=if hwS m k/2%2=1 then 3-(y-lnS m k) else y-lnS m k
def sdS (m:List UInt8) (y k i:Nat):Nat:=td m (tiS m k) (if hwS m k%2=1 then 3-i else i) (rwS m y k)
theorem zsf (m:List UInt8) (y k i:Nat):sdS m y k i<4:=td_lt ..
def sxS (m:List UInt8) (y k x:Nat):Nat:=if clS m k<=x/\x<clS m k+4 then sdS m y k (x-clS m k) else 0
def pxL (m:List UInt8) (y:Nat) (ks:List Nat) (x:Nat):Nat :=
 match ks.find? (λk=>sxS m y k x != 0) with
 | none=>gb m (160+gd m y x)
 | some k=>if 128<=hwS m k/\gd m y x≠0 then gb m (160+gd m y x) else gb m (164+sxS m y k x)
def tkL (m:List UInt8) (y:Nat) (ks:List Nat) (x:Nat):Bool:=ks.any (λk=>sxS m y k x != 0)
theorem zcT (m:List UInt8) (y:Nat) (ks:List Nat) (k x:Nat):tkL m y (ks++[k]) x=(tkL m y ks x || sxS m y k x != 0):=by
 unfold tkL;simp
theorem zoC {m:List UInt8} {y:Nat} {ks:List Nat} {x:Nat} (h:tkL m y ks x=false):pxL m y ks x=gb m (160+gd m y x):=by
 unfold tkL at h
 have:ks.find? (λk=>sxS m y k x != 0)=none:=by
  rw [List.find?_eq_none]
  intro k hk
  rw [List.any_eq_false] at h
  exact h k hk
 unfold pxL
 rw [this]
theorem zeu {m:List UInt8} {y:Nat} {ks:List Nat} {k x:Nat} (h:tkL m y ks x=true):pxL m y (ks++[k]) x=pxL m y ks x:=by
 unfold tkL at h
 unfold pxL
 rw [List.find?_append]
 cases hf:ks.find? (λk=>sxS m y k x != 0) with
 | some a=>simp
 | none =>
  rw [List.find?_eq_none] at hf
  rw [List.any_eq_true] at h
  obtain ⟨a,ha,hb⟩:=h
  exact absurd hb (hf a ha)
theorem zcU {m:List UInt8} {y:Nat} {ks:List Nat} {k x:Nat} (h:sxS m y k x=0):pxL m y (ks++[k]) x=pxL m y ks x:=by
 unfold pxL
 rw [List.find?_append]
 have:[k].find? (λk=>sxS m y k x != 0)=none:=by simp [h]
 rw [this]
 cases ks.find? (λk=>sxS m y k x != 0) <;> rfl
theorem zdo {m:List UInt8} {y:Nat} {ks:List Nat} {k x:Nat} (h:tkL m y ks x=false) (hd:sxS m y k x≠0):pxL m y (ks++[k]) x=if 128<=hwS m k/\gd m y x≠0 then pxL m y ks x else gb m (164+sxS m y k x):=by
 rw [zoC h]
 unfold tkL at h
 have hn:ks.find? (λk=>sxS m y k x != 0)=none:=by
  rw [List.find?_eq_none]
  intro k hk
  rw [List.any_eq_false] at h
  exact h k hk
 have h1:[k].find? (λk=>sxS m y k x != 0)=some k:=by simp [hd]
 unfold pxL
 rw [List.find?_append,hn,h1]
 rfl
def px (m:List UInt8) (y x:Nat):Nat:=pxL m y ((drS m y 8).take 2) x
def row16 (f:Nat->Nat):List Value:=(List.range 16).map λx=>Value.int .u8 (f x)
theorem zat (f:Nat->Nat):(row16 f).length=16:=by simp [row16]
theorem zbV (f:Nat->Nat) {x:Nat} (h:x<16):(row16 f)[x]? = some (.int .u8 (f x)):=by
 unfold row16;rw [List.getElem?_map,List.getElem?_range h];rfl
theorem zbx {f g:Nat->Nat} (h:∀ x,x<16->f x=g x):row16 f=row16 g:=by
 unfold row16
 apply List.map_congr_left
 intro x hx
 rw [h x (List.mem_range.1 hx)]
theorem zbP (f:Nat->Nat) (x v:Nat) (h:x<16):(row16 f).set x (.int .u8 v)=row16 (λi=>if i=x then v else f i):=by
 apply List.ext_getElem?
 intro i
 by_cases hi:i<16
 ·rw [zbV _ hi]
  by_cases e:i=x
  ·subst e
   rw [List.getElem?_set_self (by rw [zat];exact hi)]
   simp
  ·rw [List.getElem?_set_ne (Ne.symm e),zbV _ hi]
   simp [e]
 ·rw [List.getElem?_eq_none (by simp [zat];omega),List.getElem?_eq_none (by rw [zat];omega)]
def brow16 (f:Nat->Bool):List Value:=(List.range 16).map λx=>Value.bool (f x)
theorem zcm (f:Nat->Bool):(brow16 f).length=16:=by simp [brow16]
theorem zd1 (f:Nat->Bool) {x:Nat} (h:x<16):(brow16 f)[x]? = some (.bool (f x)):=by
 unfold brow16;rw [List.getElem?_map,List.getElem?_range h];rfl
theorem zhN {f g:Nat->Bool} (h:∀ x,x<16->f x=g x):brow16 f=brow16 g:=by
 unfold brow16
 apply List.map_congr_left
 intro x hx
 rw [h x (List.mem_range.1 hx)]
theorem zj7 (f:Nat->Bool) (x:Nat) (v:Bool) (h:x<16):(brow16 f).set x (.bool v)=brow16 (λi=>if i=x then v else f i):=by
 apply List.ext_getElem?
 intro i
 by_cases hi:i<16
 ·rw [zd1 _ hi]
  by_cases e:i=x
  ·subst e
   rw [List.getElem?_set_self (by rw [zcm];exact hi)]
   simp
  ·rw [List.getElem?_set_ne (Ne.symm e),zd1 _ hi]
   simp [e]
 ·rw [List.getElem?_eq_none (by simp [zcm];omega),List.getElem?_eq_none (by rw [zcm];omega)]
structure Mm (W : World) (m : List UInt8) (v : Value) (g o c : Nat) : Prop where
 v:v = .slice (some ⟨g,o,none⟩) 256 c
 l:m.length=256
 z:g<W.heap.size
 c:∀ i,i<256->W.cell? ⟨g,o+i,none⟩=some (.int .u8 (gb m i))
theorem Mm.of {W:World} {m:List UInt8} {v:Value} (h:sliceAt W v m) (hl:m.length=256):∃ g o c,Mm W m v g o c:=by
 rcases h with ⟨a,cap,_,h2⟩|⟨g,o,cap,h1,h2,h3,h4⟩
 ·rw [h2] at hl;simp at hl
 ·refine ⟨g,o,cap,by rw [h1,hl],hl,h3,λi hi=>?_⟩
  have:=h4 i (m.getD i 0) (by rw [List.getElem?_eq_getElem (by omega)];simp [List.getD,List.getElem?_eq_getElem (show i<m.length by omega)])
  rw [this];rfl
theorem Mm.kept {W w1:World} {m:List UInt8} {v:Value} {g o c:Nat} (h:Mm W m v g o c) (hb:Below W.heap.size W w1):Mm w1 m v g o c :=
 ⟨h.v,h.l,Nat.lt_of_lt_of_le h.z hb.size,λi hi=>(hb.cell (p:=⟨g,o+i,none⟩) h.z).trans (h.c i hi)⟩
theorem and3 (b:Nat) (h:b<256):bits .and .u8 (b:Int) 3=((b%4:Nat):Int):=by
 rw [show (3:Int)=((3:Nat):Int) from rfl,u8_and_nat _ _ (by omega) (by omega),show (3:Nat)=2 ^ 2-1 from rfl,Nat.and_two_pow_sub_one_eq_mod]
theorem four (b:Nat) (h:b<256):(b:Int)/64=((b/4 ^ 3%4:Nat):Int)/\bits .and .u8 ((b:Int)/16) 3=((b/4 ^ 2%4:Nat):Int)/\bits .and .u8 ((b:Int)/4) 3=((b/4 ^ 1%4:Nat):Int)/\bits .and .u8 (b:Int) 3=((b/4 ^ 0%4:Nat):Int):=by
 refine ⟨?_,?_,?_,?_⟩
 ·have:b/4 ^ 3%4=b/64:=by omega
  rw [this];omega
 ·rw [show (b:Int)/16=((b/4 ^ 2:Nat):Int) by omega];exact and3 _ (by omega)
 ·rw [show (b:Int)/4=((b/4 ^ 1:Nat):Int) by omega];exact and3 _ (by omega)
 ·rw [show b/4 ^ 0=b by omega];exact and3 _ h
theorem agg4 {a b c d a' b' c' d':Int} (h1:a=a') (h2:b=b') (h3:c=c') (h4:d=d'):Value.agg #[.int .u8 a,.int .u8 b,.int .u8 c,.int .u8 d] = .agg #[.int .u8 a',.int .u8 b',.int .u8 c',.int .u8 d']:=by rw [h1,h2,h3,h4]
theorem zb3 (m:List UInt8) (v:Value) (g o c:Nat) (t y:Nat) (w:World) (h:Mm w m v g o c) (ht:t<256) (hy:y<4) :
 Calls Tryz.prog 253 #[v,.int .u8 t,.int .i64 y] w λe w'=>e = .returned (.agg #[.int .u8 (td m t 0 y),.int .u8 (td m t 1 y),.int .u8 (td m t 2 y),.int .u8 (td m t 3 y)])/\Below w.heap.size w w':=by
 obtain ⟨rfl,hl,hz,hc⟩:=h
 have h1:=hc (16+4*(t%16)+y) (by omega)
 clear hc
 go_enter Tryz.func253,Tryz.ntmps253
 go_wp2
 obtain ⟨e1,e2,e3,e4⟩:=four (gb m (16+4*(t%16)+y)) (gb_lt ..)
 refine bodyPost_ret (v:=.agg _) (by simp [results,Tryz.results253,go_sem]) rfl ⟨ret_v (agg4 e1 e2 e3 e4),?_⟩
 exact stA (st0 w) _
theorem zfe (a b c d:Int) (w:World) :
 Calls Tryz.prog 255 #[.agg #[.int .u8 a,.int .u8 b,.int .u8 c,.int .u8 d]] w λe w'=>e = .returned (.agg #[.int .u8 d,.int .u8 c,.int .u8 b,.int .u8 a])/\Below w.heap.size w w':=by
 go_enter Tryz.func255,Tryz.ntmps255
 go_wp2
 refine bodyPost_ret (v:=.agg _) (by simp [results,Tryz.results255,go_sem]) rfl ⟨rfl,?_⟩
 exact stA (stA (st0 w) _) _
theorem zc9 (l cl t:Int) (b1 b2 b3:Bool) (y:Int) (w:World) (hl:0<=l/\l<=255) :
 Calls Tryz.prog 254 #[.agg #[.int .i64 l,.int .i64 cl,.int .u8 t,.bool b1,.bool b2,.bool b3],.int .i64 y] w λe w'=>e = .returned (.bool (decide (l<=y/\y<l+4)))/\Below w.heap.size w w':=by
 have hd:decide (l<=y/\y<l+4)=(decide (l<=y) && decide (y<l+4)):=by simp
 rw [hd]
 clear hd
 by_cases h1:l<=y
 ·go_enter Tryz.func254,Tryz.ntmps254
  go_wp2
  go_ret
  exact ⟨by simp [h1],stA (st0 w) _⟩
 ·go_enter Tryz.func254,Tryz.ntmps254
  go_wp2
  go_ret
  exact ⟨by simp;omega,stA (st0 w) _⟩
theorem bit0 (b:Nat) (h:b<256):(bits .and .u8 (b:Int) 1 != 0)=decide (b%2=1):=by
 rw [show (1:Int)=((1:Nat):Int) from rfl,u8_and_nat _ _ (by omega) (by omega),show b &&& 1=b%2 from Nat.and_two_pow_sub_one_eq_mod b 1]
 rcases Nat.mod_two_eq_zero_or_one b with e|e <;> rw [e] <;> rfl
theorem bit1 (b:Nat) (h:b<256):(bits .and .u8 (b:Int) 2 != 0)=decide (b/2%2=1):=by
 rw [show (2:Int)=((2:Nat):Int) from rfl,u8_and_nat _ _ (by omega) (by omega),show b &&& 2=if b.testBit 1 then 2 ^ 1 else 0 from M.and_pow b 1,Nat.testBit_eq_decide_div_mod_eq]
 by_cases e:b/2 ^ 1%2=1 <;> simp [e]
theorem bit7 (b:Nat) (h:b<256):(bits .and .u8 (b:Int) 128 != 0)=decide (128<=b):=by
 rw [show (128:Int)=((128:Nat):Int) from rfl,u8_and_nat _ _ (by omega) (by omega),show b &&& 128=if b.testBit 7 then 2 ^ 7 else 0 from M.and_pow b 7,Nat.testBit_eq_decide_div_mod_eq]
 by_cases e:b/2 ^ 7%2=1
 ·have:128<=b:=by omega
  simp [e,this]
 ·have:¬ 128<=b:=by omega
  simp [e,this]
theorem zpH (m:List UInt8) (i:Nat):IntKind.i64.wrap (gb m i:Int)=gb m i:=by
 have:=gb_lt m i
 rw [IntKind.wrap_i64];omega
theorem zcx (b:Nat):∀ (vs:List Value) (o:Nat) (w:World),(w.setCells b o vs).heap.size=w.heap.size
 | [],o,w=>rfl
 | v::vs,o,w=>(zcx b vs (o+1) _).trans (by simp)
theorem zjh {W:World} {b:Nat} {L:List Value} (h:W.rangeAt b 0 L) (hb:b<W.heap.size) (o:Obj):(W.alloc o).rangeAt b 0 L:=λj v hj=>((stA (st0 W) o).cell (p:=⟨b,0+j,none⟩) hb).trans (h j v hj)
theorem zdB (w:World) (b:Nat) (x0 x1 x2 x3:Value) (h:w.rangeAt b 0 [x0,x1,x2,x3]):(loadVar 312 ⟨b,0,none⟩).run Tryz.prog w = .ok (.agg #[x0,x1,x2,x3]) w :=
 run_loadVar_mid w b 0 312 [x0,x1,x2,x3] _ h Tryz.underlying312 rfl (by kernel_rfl)
def scS (m:List UInt8) (k:Nat):List Value:=[.int .i64 (lnS m k),.int .i64 (clS m k),.int .u8 (tiS m k),.bool (decide (hwS m k%2=1)),.bool (decide (hwS m k/2%2=1)),.bool (decide (128<=hwS m k))]
theorem zbF (m:List UInt8) (v:Value) (g o c:Nat) (k:Nat) (w:World) (h:Mm w m v g o c) (hk:k<8) :
 Calls Tryz.prog 227 #[v,.int .i64 k] w λe w'=>e = .returned (.agg #[.int .i64 (lnS m k),.int .i64 (clS m k),.int .u8 (tiS m k),.bool (decide (hwS m k%2=1)),.bool (decide (hwS m k/2%2=1)),.bool (decide (128<=hwS m k))])/\Below w.heap.size w w':=by
 obtain ⟨rfl,hl,hz,hc⟩:=h
 have h0:=hc (128+4*k) (by omega)
 have h1:=hc (128+4*k+1) (by omega)
 have h2:=hc (128+4*k+2) (by omega)
 have h3:=hc (128+4*k+3) (by omega)
 clear hc
 have a0:(0:Int)<=128+4*(k:Int):=by omega
 have a1:(0:Int)<=128+4*(k:Int)+1:=by omega
 have a2:(0:Int)<=128+4*(k:Int)+2:=by omega
 have b0:128+4*(k:Int)<256:=by omega
 have b1:128+4*(k:Int)+1<256:=by omega
 have b2:128+4*(k:Int)+2<256:=by omega
 have t0:(128+4*(k:Int)).toNat=128+4*k:=by omega
 have t1:(128+4*(k:Int)+1).toNat=128+4*k+1:=by omega
 have t2:(128+4*(k:Int)+2).toNat=128+4*k+2:=by omega
 have g0:=zpH m (128+4*k)
 have g1:=zpH m (128+4*k+1)
 have w1:IntKind.i64.wrap (128+4*(k:Int)+1)=128+4*(k:Int)+1:=by rw [IntKind.wrap_i64];omega
 have w2:IntKind.i64.wrap (128+4*(k:Int)+2)=128+4*(k:Int)+2:=by rw [IntKind.wrap_i64];omega
 go_enter Tryz.func227,Tryz.ntmps227
 go_wp2
 go_region_held3 (λw'=>w'.cell? ⟨g,o+(128+4*k),none⟩=some (.int .u8 (gb m (128+4*k)))/\w'.cell? ⟨g,o+(128+4*k+1),none⟩=some (.int .u8 (gb m (128+4*k+1)))/\w'.cell? ⟨g,o+(128+4*k+2),none⟩=some (.int .u8 (gb m (128+4*k+2))))
  ((go_keep;done))
  (fail)
 all_goals
  go_wp2
  refine bodyPost_ret (v:=.agg _) (by simp [results,Tryz.results227,go_sem] <;> rfl) rfl ⟨ret_v ?_,?_⟩
  ·rw [bit0 _ (gb_lt ..),bit1 _ (gb_lt ..),bit7 _ (gb_lt ..)]
   unfold lnS clS tiS hwS
   rw [show 129+4*k=128+4*k+1 by omega,show 130+4*k=128+4*k+2 by omega,show 131+4*k=128+4*k+3 by omega]
  ·exact (stA (st0 w) _).drew
theorem zoD (m:List UInt8) (v:Value) (g o c:Nat) (k y:Nat) (w:World) (h:Mm w m v g o c) (hon:onS m y k=true) (hy:y<8) :
 Calls Tryz.prog 228 #[.agg #[.int .i64 (lnS m k),.int .i64 (clS m k),.int .u8 (tiS m k),.bool (decide (hwS m k%2=1)),.bool (decide (hwS m k/2%2=1)),.bool (decide (128<=hwS m k))],v,.int .i64 y] w λe w'=>e = .returned (.agg #[.int .u8 (sdS m y k 0),.int .u8 (sdS m y k 1),.int .u8 (sdS m y k 2),.int .u8 (sdS m y k 3)])/\Below w.heap.size w w':=by
 unfold onS at hon
 have hon:=of_decide_eq_true hon
 have H:=hid h
 have ht:tiS m k<256:=gb_lt ..
 by_cases hr:hwS m k/2%2=1
 ·have hrw:rwS m y k=3-(y-lnS m k):=by unfold rwS;rw [if_pos hr]
  have hrw':((rwS m y k:Nat):Int)=3-((y:Int)-(lnS m k:Nat)):=by rw [hrw];omega
  have hrl:rwS m y k<4:=by rw [hrw];omega
  rw [decide_eq_true hr]
  have HR:=hid hrw'
  by_cases hcl:hwS m k%2=1
  ·have hsd:∀ i,sdS m y k i=td m (tiS m k) (3-i) (rwS m y k):=λi=>by unfold sdS;rw [if_pos hcl]
   rw [decide_eq_true hcl,hsd,hsd,hsd,hsd]
   clear h hr hcl hsd hrw hrw'
   go_enter Tryz.func228,Tryz.ntmps228
   go_wp2_with (first
    | (go_at_call 253;rw [<- HR.out];refine (zb3 m v g o c (tiS m k) (rwS m y k) _ (H.out.kept (stA (stA (st0 w) _) _)) ht hrl).mono ?_;rintro e w1 ⟨rfl,hb1⟩;obtain ⟨k1,f1⟩:=bcell hb1;have z1:w.heap.size+1<w1.heap.size:=Nat.lt_of_lt_of_le (by simp) hb1.size;have z0:=Nat.lt_of_succ_lt z1)
    | (go_at_call 255;refine (zfe _ _ _ _ _).mono ?_;rintro e w2 ⟨rfl,hb2⟩;obtain ⟨k2,f2⟩:=bcell hb2;have z2:w1.heap.size<w2.heap.size:=Nat.lt_of_lt_of_le (by simp) hb2.size;have z3:=Nat.lt_trans z1 z2))
   have hF:=Pl.fin [.int .u8 (td m (tiS m k) 3 (rwS m y k)),.int .u8 (td m (tiS m k) 2 (rwS m y k)),.int .u8 (td m (tiS m k) 1 (rwS m y k)),.int .u8 (td m (tiS m k) 0 (rwS m y k))] (zaR _ _ _ 4 (w.heap.size+1) (by simp) rfl) (stA (stA (st0 w) _) _) (stp (stA hb1 _) hb2) (by simp) (by omega)
   exact bodyPost_ret (v:=.agg _) (by simp only [results,Tryz.results228];simp;exact zdB _ _ _ _ _ _ hF.2) rfl ⟨rfl,hF.1⟩
  ·have hsd:∀ i,sdS m y k i=td m (tiS m k) (i) (rwS m y k):=λi=>by unfold sdS;rw [if_neg hcl]
   rw [decide_eq_false hcl,hsd,hsd,hsd,hsd]
   clear h hr hcl hsd hrw hrw'
   go_enter Tryz.func228,Tryz.ntmps228
   go_wp2_with (first
    | (go_at_call 253;rw [<- HR.out];refine (zb3 m v g o c (tiS m k) (rwS m y k) _ (H.out.kept (stA (stA (st0 w) _) _)) ht hrl).mono ?_;rintro e w1 ⟨rfl,hb1⟩;obtain ⟨k1,f1⟩:=bcell hb1;have z1:w.heap.size+1<w1.heap.size:=Nat.lt_of_lt_of_le (by simp) hb1.size;have z0:=Nat.lt_of_succ_lt z1))
   have hF:=Pl.fin [.int .u8 (td m (tiS m k) 0 (rwS m y k)),.int .u8 (td m (tiS m k) 1 (rwS m y k)),.int .u8 (td m (tiS m k) 2 (rwS m y k)),.int .u8 (td m (tiS m k) 3 (rwS m y k))] (zaR _ _ _ 4 (w.heap.size+1) (by simp) rfl) (stA (stA (st0 w) _) _) hb1 (by simp) (by omega)
   refine Pl.cutB (λW=>Below w.heap.size w W/\W.rangeAt (w.heap.size+1) 0 [.int .u8 (td m (tiS m k) 0 (rwS m y k)),.int .u8 (td m (tiS m k) 1 (rwS m y k)),.int .u8 (td m (tiS m k) 2 (rwS m y k)),.int .u8 (td m (tiS m k) 3 (rwS m y k))]) ⟨stA hF.1 _,zjh hF.2 (by rw [zcx];exact z1) _⟩ ?_
   rintro W ⟨hlow,hr⟩
   exact bodyPost_ret (v:=.agg _) (by simp only [results,Tryz.results228];simp;exact zdB _ _ _ _ _ _ hr) rfl ⟨rfl,hlow⟩
 ·have hrw:rwS m y k=y-lnS m k:=by unfold rwS;rw [if_neg hr]
  have hrw':((rwS m y k:Nat):Int)=(y:Int)-(lnS m k:Nat):=by rw [hrw];omega
  have hrl:rwS m y k<4:=by rw [hrw];omega
  rw [decide_eq_false hr]
  have HR:=hid hrw'
  by_cases hcl:hwS m k%2=1
  ·have hsd:∀ i,sdS m y k i=td m (tiS m k) (3-i) (rwS m y k):=λi=>by unfold sdS;rw [if_pos hcl]
   rw [decide_eq_true hcl,hsd,hsd,hsd,hsd]
   clear h hr hcl hsd hrw hrw'
   go_enter Tryz.func228,Tryz.ntmps228
   go_wp2_with (first
    | (go_at_call 253;rw [<- HR.out];refine (zb3 m v g o c (tiS m k) (rwS m y k) _ (H.out.kept (stA (stA (st0 w) _) _)) ht hrl).mono ?_;rintro e w1 ⟨rfl,hb1⟩;obtain ⟨k1,f1⟩:=bcell hb1;have z1:w.heap.size+1<w1.heap.size:=Nat.lt_of_lt_of_le (by simp) hb1.size;have z0:=Nat.lt_of_succ_lt z1)
    | (go_at_call 255;refine (zfe _ _ _ _ _).mono ?_;rintro e w2 ⟨rfl,hb2⟩;obtain ⟨k2,f2⟩:=bcell hb2;have z2:w1.heap.size<w2.heap.size:=Nat.lt_of_lt_of_le (by simp) hb2.size;have z3:=Nat.lt_trans z1 z2))
   have hF:=Pl.fin [.int .u8 (td m (tiS m k) 3 (rwS m y k)),.int .u8 (td m (tiS m k) 2 (rwS m y k)),.int .u8 (td m (tiS m k) 1 (rwS m y k)),.int .u8 (td m (tiS m k) 0 (rwS m y k))] (zaR _ _ _ 4 (w.heap.size+1) (by simp) rfl) (stA (stA (st0 w) _) _) (stp (stA hb1 _) hb2) (by simp) (by omega)
   exact bodyPost_ret (v:=.agg _) (by simp only [results,Tryz.results228];simp;exact zdB _ _ _ _ _ _ hF.2) rfl ⟨rfl,hF.1⟩
  ·have hsd:∀ i,sdS m y k i=td m (tiS m k) (i) (rwS m y k):=λi=>by unfold sdS;rw [if_neg hcl]
   rw [decide_eq_false hcl,hsd,hsd,hsd,hsd]
   clear h hr hcl hsd hrw hrw'
   go_enter Tryz.func228,Tryz.ntmps228
   go_wp2_with (first
    | (go_at_call 253;rw [<- HR.out];refine (zb3 m v g o c (tiS m k) (rwS m y k) _ (H.out.kept (stA (stA (st0 w) _) _)) ht hrl).mono ?_;rintro e w1 ⟨rfl,hb1⟩;obtain ⟨k1,f1⟩:=bcell hb1;have z1:w.heap.size+1<w1.heap.size:=Nat.lt_of_lt_of_le (by simp) hb1.size;have z0:=Nat.lt_of_succ_lt z1))
   have hF:=Pl.fin [.int .u8 (td m (tiS m k) 0 (rwS m y k)),.int .u8 (td m (tiS m k) 1 (rwS m y k)),.int .u8 (td m (tiS m k) 2 (rwS m y k)),.int .u8 (td m (tiS m k) 3 (rwS m y k))] (zaR _ _ _ 4 (w.heap.size+1) (by simp) rfl) (stA (stA (st0 w) _) _) hb1 (by simp) (by omega)
   refine Pl.cutB (λW=>Below w.heap.size w W/\W.rangeAt (w.heap.size+1) 0 [.int .u8 (td m (tiS m k) 0 (rwS m y k)),.int .u8 (td m (tiS m k) 1 (rwS m y k)),.int .u8 (td m (tiS m k) 2 (rwS m y k)),.int .u8 (td m (tiS m k) 3 (rwS m y k))]) ⟨stA hF.1 _,zjh hF.2 (by rw [zcx];exact z1) _⟩ ?_
   rintro W ⟨hlow,hr⟩
   exact bodyPost_ret (v:=.agg _) (by simp only [results,Tryz.results228];simp;exact zdB _ _ _ _ _ _ hr) rfl ⟨rfl,hlow⟩
theorem zoE:(Tryz.prog.info? 3).map (λi=>(i.zero,i.size,i.bytes))=some (some (.int .i64 0),1,8):=by kernel_rfl
def ics (l:List Nat):List Value:=l.map (λc:Nat=>Value.int .i64 (c:Int))
theorem zj8 (a b:List Nat):ics a++ics b=ics (a++b):=by simp [ics]
theorem app1i {ops:Array Oper} {rest:List Oper} {o:Oper} {a:Act} {w:World} {Q:Exit->Act->World->Prop} (hgd:o.guard=none) (s x:Operand) (ho:o.op = .call { callee:=.builtin .append,args:=#[s,x],argTypes:=#[216,216] })
 (B:Nat) (v:Value) (xs:List Nat) (hs:a.eval s=v) (hown:w.ownsRow B 3 1 v xs.length (ics xs)) (g c:Nat) (y:Nat) (z:Int) (hx:a.eval x = .slice (some ⟨g,0,none⟩) 1 c) (hc:w.cell? ⟨g,0,none⟩=some (.int .i64 z)) (hz:z=y) (hl:xs.length<=50000) (hB:B<=w.heap.size)
 (h:∀ v' w',w'.ownsRow B 3 1 v' (xs++[y]).length (ics (xs++[y]))->Below B w w'->wpList Tryz.prog ops Q rest (a.put o.dst v') w'):wpList Tryz.prog ops Q (o::rest) a w:=by
 obtain ⟨i0,hi0,hz0,hz1,hz2⟩:=info_parts zoE
 subst hz
 refine wpList_append_own _ hgd s x _ ho B 3 i0 _ 1 8 Tryz.underlying216 hi0 hz0 hz1 hz2 rfl (by omega) v xs.length (ics xs) hs hown ⟨g,0,none⟩ 1 c [.int .i64 y] hx rfl (λj u hj=>?_) (λu hu=>?_) (by unfold maxLen;omega) (by omega) hB ?_
 ·match j,hj with
  | 0,hj =>
   simp only [List.getElem?_cons_zero,Option.some.injEq] at hj
   rw [<- hj,addr_add];exact hc
 ·simp only [List.mem_singleton] at hu;rw [hu];rfl
 ·intro v' w' hown' hgrow _
  refine h _ w' ?_ ((Below.refl B w).grown hgrow hB (λk hk=>(hown.lt k hk).1))
  rw [List.length_append,<- zj8];exact hown'
theorem zmo (m:List UInt8) (y:Nat) {j n:Nat} (h:j<=n):drS m y j <+: drS m y n:=by
 unfold drS
 obtain ⟨d,rfl⟩:=Nat.exists_eq_add_of_le h
 rw [List.range_add,List.filter_append]
 exact ⟨_,rfl⟩
theorem zqF {m:List UInt8} {y j:Nat} (h:j<8) (h2:(drS m y j).length=2) (ho:onS m y j=true):(drS m y 8).take 2=drS m y j/\decide (2<(drS m y 8).length)=true:=by
 have h1:=zmo m y (show j<=8 by omega)
 have h3:=zmo m y (show j+1<=8 by omega)
 have hl:(drS m y (j+1)).length=3:=by rw [zgs,if_pos ho];simp [h2]
 refine ⟨?_,decide_eq_true ?_⟩
 ·have:=List.prefix_iff_eq_take.1 h1
  rw [h2] at this
  exact this.symm
 ·have:=h3.length_le
  omega
theorem zmp (m:List UInt8) (y k:Nat):decide ((lnS m k:Int)<=(y:Int)/\(y:Int)<(lnS m k:Int)+4)=onS m y k:=by
 unfold onS
 rw [decide_eq_decide]
 omega
theorem ln_bd (m:List UInt8) (k:Nat):0<=(lnS m k:Int)/\(lnS m k:Int)<=255:=by have:lnS m k<256:=gb_lt _ _;omega
theorem zmq {w:World} {B:Nat} {v:Value} {n:Nat} {xs:List Value} (h:w.ownsRow B 3 1 v n xs):∃ a c,v = .slice a n c:=by
 rcases h.2 with ⟨rfl,rfl⟩|⟨g,cap,cur,rfl,_⟩
 ·exact ⟨_,_,rfl⟩
 ·exact ⟨_,_,rfl⟩
theorem zaY {w w':World} {B:Nat} {v:Value} {n:Nat} {xs:List Value} (h:w.ownsRow B 3 1 v n xs) (hb:Below w.heap.size w w'):w'.ownsRow B 3 1 v n xs:=by
 refine ⟨h.1,?_⟩
 rcases h.2 with h2|⟨g,cap,cur,rfl,hb',hg,r⟩
 ·exact Or.inl h2
 ·exact Or.inr ⟨g,cap,cur,rfl,hb',(hb.block g (Array.getElem?_eq_some_iff.1 hg).1).trans hg,r⟩
theorem zmr (m:List UInt8) (v:Value) (g o c:Nat) (y:Nat) (w:World) (h:Mm w m v g o c) (hy:y<8) :
 Calls Tryz.prog 226 #[v,.int .i64 y] w λe w'=>∃ s,e = .returned (.tuple #[s,.bool (decide (2<(drS m y 8).length))])/\w'.ownsRow w.heap.size 3 1 s ((drS m y 8).take 2).length (ics ((drS m y 8).take 2))/\Below w.heap.size w w':=by
 have H:=hid h
 clear h
 go_enter Tryz.func226,Tryz.ntmps226
 go_wp2
 go_loopw [4,7] (λs i wr=>∃ j:Nat,j<=8/\i = .int .i64 j/\(drS m y j).length<=2/\wr.ownsRow w.heap.size 3 1 s (drS m y j).length (ics (drS m y j))/\Below w.heap.size w wr) (λ_ i _=>8-(intOf i).toNat)
 case atStart=>exact ⟨0,Nat.zero_le _,rfl,by simp [drS],⟨rfl,Or.inl ⟨rfl,rfl⟩⟩,st0 w⟩
 case round =>
  obtain ⟨j,hj,rfl,h2,hown,hbl⟩:=hrel
  have HO:=hid hown
  have HB:=hid hbl
  obtain ⟨sa,sc,rfl⟩:=zmq hown
  clear hown hbl
  by_cases h8:j<8
  ·have h8':(j:Int)<8:=by omega
   cases ho:onS m y j with
   | false =>
    have HN:Hid (drS m y (j+1)=drS m y j):=by rw [zgs,ho];rfl
    have HOn:=hid ho
    clear ho
    go_wp2_with (first
     | (go_at_call 227;refine (zbF m v g o c j _ (H.out.kept HB.out) h8).mono ?_;rintro e w1 ⟨rfl,hb1⟩)
     | (go_at_call 254;refine (zc9 _ _ _ _ _ _ _ _ (ln_bd m j)).mono ?_;rw [zmp,HOn.out];rintro e w2 ⟨rfl,hb2⟩))
    go_round
    case rel=>exact ⟨j+1,h8,by go_num,by rw [HN.out];exact h2,by rw [HN.out];exact zaY (zaY HO.out hb1) hb2,stp (stp HB.out hb1) hb2⟩
    case measure=>simp [intOf];omega
   | true =>
    by_cases hl:(drS m y j).length=2
    ·have HR:=hid (zqF h8 hl ho)
     have hl':(((drS m y j).length:Int) == 2)=true:=by rw [hl];rfl
     have HOn:=hid ho
     clear ho hl
     go_wp2_with (first
      | (go_at_call 227;refine (zbF m v g o c j _ (H.out.kept HB.out) h8).mono ?_;rintro e w1 ⟨rfl,hb1⟩)
      | (go_at_call 254;refine (zc9 _ _ _ _ _ _ _ _ (ln_bd m j)).mono ?_;rw [zmp,HOn.out];rintro e w2 ⟨rfl,hb2⟩))
     refine bodyPost_ret (v:=.tuple #[.slice sa (drS m y j).length sc,.bool true]) (by simp [results,Tryz.results226,go_sem]) rfl ?_
     rw [HR.out.1,HR.out.2]
     exact ⟨_,rfl,zaY (zaY HO.out hb1) hb2,stp (stp HB.out hb1) hb2⟩
    ·have HN:Hid (drS m y (j+1)=drS m y j++[j]):=by rw [zgs,ho];rfl
     have hl':(((drS m y j).length:Int) == 2)=false:=by simp;omega
     have HLn:Hid ((drS m y j++[j]).length<=2):=by simp only [List.length_append,List.length_singleton];unfold Hid;omega
     have hle:(drS m y j).length<=50000:=by omega
     have HLe:=hid hle
     have HOn:=hid ho
     clear ho hl hle
     go_wp2_with (first
      | (go_at_call 227;refine (zbF m v g o c j _ (H.out.kept HB.out) h8).mono ?_;rintro e w1 ⟨rfl,hb1⟩)
      | (go_at_call 254;refine (zc9 _ _ _ _ _ _ _ _ (ln_bd m j)).mono ?_;rw [zmp,HOn.out];rintro e w2 ⟨rfl,hb2⟩;have HO2:=hid (zaY (zaY HO.out hb1) hb2);have HB2:=hid (stp (stp HB.out hb1) hb2))
      | (at_builtin;refine app1i (by rfl) _ _ (by rfl) w.heap.size _ (drS m y j) (by rfl) (zaY HO2.out (stA (st0 w2) _)) w2.heap.size 1 j j (by rfl) (Pl.new _ _ _ _ rfl) rfl HLe.out (Nat.le_trans HB2.out.size (by simp)) ?_;intro v' w' hown' hb'))
     go_round
     case rel=>exact ⟨j+1,h8,by go_num,by rw [HN.out];exact HLn.out,by rw [HN.out];exact hown',(stA HB2.out _).trans hb'⟩
     case measure=>simp [intOf];omega
  ·have h9:¬ (j:Int)<8:=by omega
   have e8:j=8:=by omega
   subst e8
   have HR:Hid ((drS m y 8).take 2=drS m y 8/\decide (2<(drS m y 8).length)=false):=⟨List.take_of_length_le h2,decide_eq_false (by omega)⟩
   go_wp2
   refine bodyPost_ret (v:=.tuple #[.slice sa (drS m y 8).length sc,.bool false]) (by simp [results,Tryz.results226,go_sem]) rfl ?_
   rw [HR.out.1,HR.out.2]
   exact ⟨_,rfl,HO.out,HB.out⟩
theorem zms {W:World} {b rb:Nat} {L R:List Value} (hb:Bx W b L) (hr:Bx W rb R) (o dLen dCap sCap n:Nat) (ty:TypeId) (hn:n=R.length) (ho:o+R.length<=L.length) (hd:R.length<=dLen) (h1:∀ v∈R,v.oneCell'=true) :
 (Builtin.copy_ #[26,26] ty #[.slice (some ⟨b,o,none⟩) dLen dCap,.slice (some ⟨rb,0,none⟩) n sCap]).run Tryz.prog W = .ok (goInt R.length) (W.setCells b o R):=by
 subst hn
 refine run_copy_cells W 26 26 ty 5 b o dLen dCap ⟨rb,0,none⟩ R.length sCap R Tryz.underlying26 (by kernel_rfl) (Nat.min_eq_left hd).symm (λj v hj=>?_) (λj hj=>?_) (λj hj=>hb.f _) h1
 ·rw [addr_add];exact hr.c j v hj
 ·rw [hb.at (o+j) _ (List.getElem?_eq_getElem (by omega))];rfl
theorem info16:(Tryz.prog.info? 60).map (·.size)=some 16:=by kernel_rfl
theorem zmt (f:Nat->Nat):(row16 f).toArray.all (·.oneCell')=true:=by
 refine all_oneCell_toArray λv hv=>?_
 unfold row16 at hv
 rw [List.mem_map] at hv
 obtain ⟨x,_,rfl⟩:=hv
 rfl
theorem zj9 (A B vs:List Value) (h:vs.length=B.length):putL (A++B) A.length vs=A++vs:=by
 induction vs generalizing A B with
 | nil=>cases B with
  | nil=>rfl
  | cons b B=>cases h
 | cons v vs ih=>cases B with
  | nil=>cases h
  | cons b B =>
   have:=ih (A++[v]) B (by simpa using h)
   simp only [List.append_assoc,List.singleton_append,List.length_append,List.length_singleton] at this
   rw [putL,<- this]
   congr 1
   rw [List.set_append_right _ _ (Nat.le_refl _)]
   simp
theorem Bx.all {W:World} {b:Nat} {L:List Value} (h:Bx W b L) (vs:List Value) (hl:vs.length=L.length):Bx (W.setCells b 0 vs) b vs:=by
 have:=h.puts 0 vs (by omega)
 rwa [show putL L 0 vs=vs from zj9 [] L vs hl] at this
theorem ld16 {ops:Array Oper} {rest:List Oper} {op:Oper} {a:Act} {w:World} {Q:Exit->Act->World->Prop} (hgd:op.guard=none) (x:Operand) (ho:op.op = .load 60 x) (b:Nat) (f:Nat->Nat) (hx:a.eval x = .pointer (some ⟨b,0,none⟩)) (hb:Bx w b (row16 f))
 (h:wpList Tryz.prog ops Q rest (a.put op.dst (.agg (row16 f).toArray)) w):wpList Tryz.prog ops Q (op::rest) a w :=
 wpList_load_mid hgd 60 x ho b 0 hx (row16 f) _ hb.c Tryz.underlying60 rfl (by rw [zat];exact info16) h
theorem st16 {ops:Array Oper} {rest:List Oper} {op:Oper} {a:Act} {w:World} {Q:Exit->Act->World->Prop} (hgd:op.guard=none) (x z:Operand) (ho:op.op = .store 60 x z) (b:Nat) (f f':Nat->Nat) (hx:a.eval x = .pointer (some ⟨b,0,none⟩)) (hz:a.eval z = .agg (row16 f).toArray) (hb:Bx w b (row16 f'))
 (h:∀ w',w'=w.setCells b 0 (row16 f)->Bx w' b (row16 f)->wpList Tryz.prog ops Q rest (a.put op.dst undef) w'):wpList Tryz.prog ops Q (op::rest) a w:=by
 refine wpList_store_mid hgd 60 x z ho b 0 (row16 f).toArray hx hz ?_ (by simp only [List.size_toArray,zat];exact info16) (zmt f) ?_
 ·simp only [List.size_toArray,zat];exact hb.there 0 16 (by rw [zat];omega)
 ·exact h _ rfl (hb.all _ (by rw [zat,zat]))
theorem lv16 {W:World} {b:Nat} {f:Nat->Nat} (h:Bx W b (row16 f)):(loadVar 60 ⟨b,0,none⟩).run Tryz.prog W = .ok (.agg (row16 f).toArray) W :=
 run_loadVar_mid W b 0 60 _ _ h.c Tryz.underlying60 rfl (by rw [zat];exact info16)
theorem zka (m:List UInt8) (Y n:Nat) (hn:n<4):putL (row16 (λX=>if X<4*n then g16 m Y X else 0)) (4*n) [.int .u8 (td m (gb m (Y/4*4+n)) 0 (Y%4)),.int .u8 (td m (gb m (Y/4*4+n)) 1 (Y%4)),.int .u8 (td m (gb m (Y/4*4+n)) 2 (Y%4)),.int .u8 (td m (gb m (Y/4*4+n)) 3 (Y%4))]=row16 (λX=>if X<4*(n+1) then g16 m Y X else 0):=by
 simp only [putL]
 rw [zbP _ _ _ (by omega),zbP _ _ _ (by omega),zbP _ _ _ (by omega),zbP _ _ _ (by omega)]
 apply zbx
 intro X hX
 have h:∀ i,i<4->td m (gb m (Y/4*4+n)) i (Y%4)=g16 m Y (4*n+i):=λi hi=>by
  unfold g16
  rw [show (4*n+i)/4=n by omega,show (4*n+i)%4=i by omega]
 rw [h 0 (by omega),h 1 (by omega),h 2 (by omega),h 3 (by omega)]
 by_cases e3:X=4*n+1+1+1
 ·subst e3;simp;intro;omega
 ·by_cases e2:X=4*n+1+1
  ·subst e2;simp;intro;omega
  ·by_cases e1:X=4*n+1
   ·subst e1;simp;intro;omega
   ·by_cases e0:X=4*n
    ·subst e0
     rw [if_neg e3,if_neg e2,if_neg e1,if_pos rfl,if_pos (by omega)]
     rfl
    ·simp only [if_neg e3,if_neg e2,if_neg e1,if_neg e0]
     by_cases hlt:X<4*n
     ·rw [if_pos hlt,if_pos (by omega)]
     ·rw [if_neg hlt,if_neg (by omega)]
structure GdW (w : World) (m : List UInt8) (Y n : Nat) (W : World) : Prop where
 low:Below w.heap.size w W
 r:Bx W w.heap.size (row16 λ_=>0)
 g:Bx W (w.heap.size+1) (row16 λX=>if X<4*n then g16 m Y X else 0)
section
variable {w W w1 : World} {m : List UInt8} {Y n : Nat}
theorem GdW.kept (h:GdW w m Y n W) (hb:Below W.heap.size W w1):GdW w m Y n w1:=⟨stp h.low hb,h.r.kept hb,h.g.kept hb⟩
theorem GdW.over (h:GdW w m Y n W) (o:Obj):GdW w m Y n (W.alloc o):=h.kept (stA (st0 W) o)
theorem GdW.drew (h:GdW w m Y n W):GdW w m Y n W.drew:=⟨h.low.drew,h.r.drew,h.g.drew⟩
theorem GdW.put (h:GdW w m Y n W) (hn:n<4):GdW w m Y (n+1) (W.setCells (w.heap.size+1) (4*n) [.int .u8 (td m (gb m (Y/4*4+n)) 0 (Y%4)),.int .u8 (td m (gb m (Y/4*4+n)) 1 (Y%4)),.int .u8 (td m (gb m (Y/4*4+n)) 2 (Y%4)),.int .u8 (td m (gb m (Y/4*4+n)) 3 (Y%4))]) :=
 ⟨Bl.puts h.low (by omega) _,h.r.fars (by omega) _ _,zka m Y n hn ▸ h.g.puts (4*n) _ (by rw [zat];simp;omega)⟩
end
structure SnW (w : World) (m : List UInt8) (y x bs : Nat) (W : World) : Prop where
 low:Below w.heap.size w W
 r:Bx W w.heap.size (row16 λ_=>0)
 g:Bx W (w.heap.size+1) (row16 (g16 m ((y+gb m 169)%16)))
 s:Bx W bs (row16 λi=>if i<x then gd m y i else 0)
 far:w.heap.size+1<bs
theorem SnW.put {w W:World} {m:List UInt8} {y x bs:Nat} (h:SnW w m y x bs W) (hx:x<16):SnW w m y (x+1) bs (W.setCell ⟨bs,x,none⟩ (.int .u8 (g16 m ((y+gb m 169)%16) ((x+gb m 168)%16)))):=by
 have hf:=h.far
 refine ⟨Bl.set h.low (by omega) _,h.r.far (by omega) _,h.g.far (by omega) _,?_,hf⟩
 have:=h.s.set x (.int .u8 (gd m y x)) (by rw [zat];exact hx)
 rw [zbP _ _ _ hx] at this
 rwa [zbx (g:=λi=>if i<x+1 then gd m y i else 0) (λi hi=>?_)] at this
 by_cases e:i=x
 ·subst e;simp
 ·simp only [if_neg e]
  by_cases hlt:i<x
  ·rw [if_pos hlt,if_pos (by omega)]
  ·rw [if_neg hlt,if_neg (by omega)]
theorem zkb (m:List UInt8) (v:Value) (g o c:Nat) (y:Nat) (w:World) (h:Mm w m v g o c) (hy:y<8) :
 Calls Tryz.prog 225 #[v,.int .i64 y] w λe w'=>e = .returned (.agg (row16 (gd m y)).toArray)/\Below w.heap.size w w':=by
 have H:=hid h
 obtain ⟨rfl,hl,hz,hc⟩:=h
 have h1:=hc 169 (by omega)
 have hb:=gb_lt m 169
 obtain ⟨Y,hY⟩:∃ Y,Y=(y+gb m 169)%16:=⟨_,rfl⟩
 have eY:((y:Int)+(gb m 169:Nat))%16=(Y:Int):=by omega
 have HY:=hid hY
 have HE:=hid eY
 have hYl:Y<16:=by omega
 clear hc eY
 go_enter Tryz.func225,Tryz.ntmps225
 go_wp2
 rw [HE.out]
 clear hY hb h1 hl
 go_loopw [18] (λi wr=>∃ n:Nat,n<=4/\i = .int .i64 n/\GdW w m Y n wr) (λi _=>4-(intOf i).toNat)
 case atStart=>exact ⟨0,Nat.zero_le _,rfl,stA (stA (st0 w) _) _,(Bx.new w (row16 λ_=>0) _ rfl).over _,Bx.new _ (row16 λ_=>0) _ (by simp)⟩
 case round =>
  obtain ⟨n,hn,rfl,hG⟩:=hrel
  have HG:=hid hG
  have HM:=hid (H.out.kept hG.low)
  clear hG
  by_cases h4:n<4
  ·have h4':(n:Int)<4:=by omega
   have hc:=HM.out.c (Y/4*4+n) (by omega)
   have hcl:=gb_lt m (Y/4*4+n)
   have ym:Y%4<4:=Nat.mod_lt _ (by decide)
   go_wp2_with (first
    | (go_at_call 253;refine (zb3 m _ g o c (gb m (Y/4*4+n)) (Y%4) _ HM.out hcl ym).mono ?_;rintro e w1 ⟨rfl,hb1⟩))
   obtain ⟨W2,hcp,hG2⟩:∃ W2,(Builtin.copy_ #[26,26] 3 #[.slice (some ⟨w.heap.size+1,4*n,none⟩) (16-4*n) (16-4*n),.slice (some ⟨w1.heap.size,0,none⟩) 4 4]).run Tryz.prog (w1.alloc (.cells #[.int .u8 (td m (gb m (Y/4*4+n)) 0 (Y%4)),.int .u8 (td m (gb m (Y/4*4+n)) 1 (Y%4)),.int .u8 (td m (gb m (Y/4*4+n)) 2 (Y%4)),.int .u8 (td m (gb m (Y/4*4+n)) 3 (Y%4))] 312)).drew = .ok (.int .i64 4) W2/\GdW w m Y (n+1) W2 :=
    ⟨_,zms ((HG.out.kept hb1).over _).drew.g (Bx.new w1 [.int .u8 (td m (gb m (Y/4*4+n)) 0 (Y%4)),.int .u8 (td m (gb m (Y/4*4+n)) 1 (Y%4)),.int .u8 (td m (gb m (Y/4*4+n)) 2 (Y%4)),.int .u8 (td m (gb m (Y/4*4+n)) 3 (Y%4))] 312 rfl).drew (4*n) _ _ _ _ _ rfl (by rw [zat];simp;omega) (by simp;omega) (by simp [Value.oneCell']),((HG.out.kept hb1).over _).drew.put h4⟩
   have HG2:=hid hG2
   clear hG2
   have q0:(0:Int)<=(n:Int)*4:=by omega
   have q1:(n:Int)*4<=16:=by omega
   have q2:((n:Int)*4).toNat=4*n:=by omega
   have q3:IntKind.i64.wrap ((n:Int)*4)=(n:Int)*4:=by rw [IntKind.wrap_i64];omega
   have q4:¬ (16=4*n):=by omega
   go_region
   go_wp2
   exact ⟨⟨n+1,h4,by go_num,HG2.out⟩,by simp [intOf];omega⟩
  ·have h9:¬ (n:Int)<4:=by omega
   have e4:n=4:=by omega
   subst e4
   have hY:Y=(y+gb m 169)%16:=HY.out
   have h168:=gb_lt m 168
   have HS0:Hid (SnW w m y 0 wr.heap.size (wr.alloc (.cells (row16 λ_=>0).toArray 60))):=by
    refine ⟨stA HG.out.low _,HG.out.r.over _,?_,Bx.new wr (row16 λ_=>0) _ rfl,HG.out.g.z⟩
    have:=HG.out.g.over (.cells (row16 λ_=>0).toArray 60)
    rw [hY] at this
    rwa [zbx (λX hX=>if_pos (show X<4*4 by omega))] at this
   clear h4 hn h9 hY
   go_wp2
   go_loopw [39] (λi W=>∃ x:Nat,x<=16/\i = .int .i64 x/\SnW w m y x wr.heap.size W) (λi _=>16-(intOf i).toNat)
   case atStart=>exact ⟨0,Nat.zero_le _,rfl,HS0.out⟩
   case round =>
    obtain ⟨x,hx,rfl,hS⟩:=hrel
    have HS:=hid hS
    clear hS HS0
    by_cases h16:x<16
    ·have h16':(x:Int)<16:=by omega
     have c0:=(H.out.kept HS.out.low).c 168 (by omega)
     have c1:=HS.out.g.at ((x+gb m 168)%16) _ (zbV _ (Nat.mod_lt _ (by decide)))
     have c2:=HS.out.s.at x _ (zbV _ h16)
     have f2:=HS.out.s.f x
     go_wp2
     exact ⟨⟨x+1,h16,by go_num,HS.out.put h16⟩,by simp [intOf];omega⟩
    ·have h17:¬ (x:Int)<16:=by omega
     have e16:x=16:=by omega
     subst e16
     have hs:=HS.out.s
     rw [zbx (λX hX=>if_pos hX)] at hs
     have HSS:=hid hs
     clear hs
     go_wp2_with (first
      | (refine ld16 rfl _ rfl _ _ rfl HSS.out ?_)
      | (refine st16 rfl _ _ rfl w.heap.size (gd m y) _ rfl rfl HS.out.r ?_;rintro w' hw' hB';have HB':=hid hB';have HW':=hid hw';clear hB' hw'))
     have hl:=lv16 HB'.out
     refine bodyPost_ret (v:=.agg (row16 (gd m y)).toArray) ?_ rfl ⟨rfl,?_⟩
     ·simp only [results,Tryz.results225]
      simp
      exact hl
     ·rw [HW'.out];exact Bl.puts HS.out.low (Nat.le_refl _) _
end Go.Proofs.YtbennamieealbaaGreatDoor
