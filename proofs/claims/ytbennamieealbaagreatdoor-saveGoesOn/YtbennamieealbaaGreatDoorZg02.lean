/-
  Parts of a proof, joined.
-/
import Derived.Test.YtbennamieealbaaGreatDoorZg01
import Derived.Laws.EntriesVeiled
set_option linter.unusedVariables false
set_option maxRecDepth 100000
set_option maxHeartbeats 800000
namespace Go.Proofs.YtbennamieealbaaGreatDoor
open Go.ChangeShapes Go.WideShapes Go.ChangeAt Go.RowKit
theorem Pl.res {P:Program} {b o:Nat} {t:TypeId} {Y:World} {v:Value} (h:(loadVar t ⟨b,o,none⟩).run P Y = .ok v Y) :
 ((Sem.run P (asAddr (Value.pointer (some ⟨b,o,none⟩))) Y).andThen λa w'=>Sem.run P (loadVar t a) w') = .ok v Y:=h
/-! ### plain numbers -/
structure TM where
 r:Int
 c:Int
 on:Bool
 g:Bool
def TM.tick (t:TM):TM:=if t.on then (if t.c=0 then ⟨t.r,t.r,true,true⟩ else ⟨t.r,t.c-1,true,t.g⟩) else t
def tkC (r c:Int) (on:Bool):Int:=if on then (if c=0 then r else c-1) else c
def tkG (c:Int) (on g:Bool):Bool:=if on then (if c=0 then true else g) else g
def rnC (r c:Int) (on:Bool) (n:Int):Int:=if on then (if n<c+1 then c-n else r-(n-(c+1))%(r+1)) else c
def rnG (c:Int) (on g:Bool) (n:Int):Bool:=if on then (if n<c+1 then g else true) else g
def TM.run (t:TM) (n:Int):TM:=⟨t.r,rnC t.r t.c t.on n,t.on,rnG t.c t.on t.g n⟩
theorem TM.tick_eq (t:TM):t.tick=⟨t.r,tkC t.r t.c t.on,t.on,tkG t.c t.on t.g⟩:=by
 obtain ⟨r,c,on,g⟩:=t
 unfold TM.tick tkC tkG
 cases on
 ·rfl
 ·by_cases h:c=0 <;> simp [h]
theorem zgc (m k:Int) (hm:0<=m) (hk:0<k):(m+1)%k=if m%k=k-1 then 0 else m%k+1:=by
 have h1:=Int.emod_nonneg m (show k≠0 by omega)
 have h2:=Int.emod_lt_of_pos m hk
 have e:m+1=(m%k+1)+k*(m/k):=by have:=Int.emod_add_mul_ediv m k;omega
 rw [e,Int.add_mul_emod_self_left]
 split
 ·rename_i h;rw [h];simp
 ·exact Int.emod_eq_of_lt (by omega) (by omega)
theorem TM.run_tick (t:TM) (hr:0<=t.r) (hc:0<=t.c) (n:Int) (hn:0<=n):(t.run n).tick=t.run (n+1):=by
 obtain ⟨r,c,on,g⟩:=t
 rw [TM.tick_eq]
 unfold TM.run tkC tkG rnC rnG
 cases on
 ·rfl
 ·simp only [if_true] at *
  by_cases h1:n+1<c+1
  ·have h2:n<c+1:=by omega
   have h3:¬ (c-n=0):=by omega
   simp [h1,h2,h3];omega
  ·by_cases h2:n<c+1
   ·have h3:c-n=0:=by omega
    have h4:n+1-(c+1)=0:=by omega
    simp [h1,h2,h3,h4]
   ·have e:n+1-(c+1)=(n-(c+1))+1:=by omega
    have h5:=zgc (n-(c+1)) (r+1) (by omega) (by omega)
    have b1:=Int.emod_nonneg (n-(c+1)) (show r+1≠0 by omega)
    have b2:=Int.emod_lt_of_pos (n-(c+1)) (show 0<r+1 by omega)
    simp only [h1,h2,if_false,e,h5]
    by_cases h6:(n-(c+1))%(r+1)=r
    ·simp [h6]
    ·have h7:¬ (r-(n-(c+1))%(r+1)=0):=by omega
     simp [h6,h7];omega
theorem TM.run_zero (t:TM) (hc:0<=t.c):t.run 0=t:=by
 obtain ⟨r,c,on,g⟩:=t
 have h:(0:Int)<c+1:=by simp at hc;omega
 unfold TM.run rnC rnG
 cases on <;> simp [h]
theorem rn_bd (r c:Int) (on:Bool) (n:Int) (hr:0<=r/\r<=65535) (hc:0<=c/\c<=65535) (hn:0<=n):0<=rnC r c on n/\rnC r c on n<=65535:=by
 unfold rnC
 have b1:=Int.emod_nonneg (n-(c+1)) (show r+1≠0 by omega)
 have b2:=Int.emod_lt_of_pos (n-(c+1)) (show 0<r+1 by omega)
 split
 ·split <;> omega
 ·omega
/-! ### the package -/
theorem zbR:(Tryz.prog.info? 31).map (·.size)=some 4:=by kernel_rfl
theorem zaZ (W:World) (q:Nat) (r c:Int) (on g:Bool) (h:W.rangeAt q 0 [.int .u16 r,.int .u16 c,.bool on,.bool g]):(loadVar 31 ⟨q,0,none⟩).run Tryz.prog W = .ok (.agg #[.int .u16 r,.int .u16 c,.bool on,.bool g]) W :=
 run_loadVar_mid W q 0 31 _ _ h Tryz.underlying31 rfl zbR
theorem zeh (r c:Int) (on g:Bool) (w:World) (hc:0<=c/\c<=65535) :
 Calls Tryz.prog 188 #[.agg #[.int .u16 r,.int .u16 c,.bool on,.bool g]] w λe w'=>e = .returned (.int .i64 (sel on (c+1) 0))/\Below w.heap.size w w':=by
 cases on
 all_goals
  go_enter Tryz.func188,Tryz.ntmps188
  go_wp2
  go_ret
  exact ⟨by simp [sel],stA (st0 _) _⟩
structure Vc where
 p:Int
 c:Int
 l:Int
 h:Bool
 n:Int
def nz (n:Int):Int:=if n%2=1 then bits .xor .u16 (n/2) 46080 else n/2
def swH (h:Bool) (n:Int):Bool:=if n=0 then !h else decide (n%2=1)
def swN (n:Int):Int:=if n=0 then 0 else nz n
def swsN (n:Int):Nat->Int
 | 0=>n
 | k+1=>swN (swsN n k)
def swsH (h:Bool) (n:Int):Nat->Bool
 | 0=>h
 | k+1=>swH (swsH h n k) (swsN n k)
def Vc.tick (v:Vc):Vc:=if v.c=0 then ⟨v.p,v.p,v.l,swH v.h v.n,swN v.n⟩ else ⟨v.p,v.c-1,v.l,v.h,v.n⟩
def Vc.ticks (v:Vc):Nat->Vc
 | 0=>v
 | k+1=>(v.ticks k).tick
def ltC (p c n:Int):Int:=if n<c+1 then c-n else p-(n-(c+1))%(p+1)
def ltK (p c n:Int):Nat:=if n<c+1 then 0 else (1+(n-(c+1))/(p+1)).toNat
def Vc.later (v:Vc) (n:Int):Vc:=⟨v.p,ltC v.p v.c n,v.l,swsH v.h v.n (ltK v.p v.c n),swsN v.n (ltK v.p v.c n)⟩
structure Vc.ok (v : Vc) : Prop where
 p:0<=v.p/\v.p<=65535
 c:0<=v.c/\v.c<=65535
 l:0<=v.l/\v.l<=255
 n:0<=v.n/\v.n<=65535
theorem zkK (m k:Int) (hm:0<=m) (hk:0<k):(m+1)%k=(if m%k=k-1 then 0 else m%k+1)/\(m+1)/k=(if m%k=k-1 then m/k+1 else m/k):=by
 have h1:=Int.emod_nonneg m (show k≠0 by omega)
 have h2:=Int.emod_lt_of_pos m hk
 have e0:=Int.emod_add_mul_ediv m k
 have e:m+1=(m%k+1)+k*(m/k):=by omega
 split
 ·rename_i h
  have e2:m+1=0+k*(m/k+1):=by rw [Int.mul_add];omega
  rw [e2,Int.add_mul_emod_self_left,Int.add_mul_ediv_left _ _ (by omega)]
  simp
 ·rw [e,Int.add_mul_emod_self_left,Int.add_mul_ediv_left _ _ (by omega),Int.emod_eq_of_lt (by omega) (by omega),Int.ediv_eq_zero_of_lt (by omega) (by omega)]
  simp
theorem nz_bd (n:Int) (h:0<=n/\n<=65535):0<=nz n/\nz n<=65535:=by
 unfold nz
 split
 ·exact M.xor_bd _ _ (by omega) (by omega) (by omega) (by omega)
 ·omega
theorem nz_ne (n:Int) (h:0<=n/\n<=65535) (h0:n≠0):nz n≠0:=by
 unfold nz
 split
 ·obtain ⟨X,hX⟩:=Int.eq_ofNat_of_zero_le (show 0<=n/2 by omega)
  rw [hX,show (46080:Int)=((46080:Nat):Int) from rfl,u16_xor_nat _ _ (by omega) (by omega)]
  have hb:(X ^^^ 46080).testBit 15=true:=by
   rw [Nat.testBit_xor,M.top X (by omega),M.top 46080 (by omega),decide_eq_false (show ¬ 32768<=X by omega)]
   rfl
  intro e
  have e':X ^^^ 46080=0:=by omega
  rw [e'] at hb
  simp at hb
 ·omega
theorem zms (n:Int) (h:0<=n/\n<=65535):0<=swN n/\swN n<=65535:=by
 unfold swN;split
 ·omega
 ·exact nz_bd n h
theorem zh5 (n:Int) (h:0<=n/\n<=65535) (k:Nat):0<=swsN n k/\swsN n k<=65535:=by
 induction k with
 | zero=>exact h
 | succ k ih=>exact zms _ ih
theorem zfC (k:Nat):swsN 0 k=0:=by
 induction k with
 | zero=>rfl
 | succ k ih=>rw [swsN,ih];rfl
theorem zmM (n:Int) (h:0<=n/\n<=65535) (h0:n≠0) (k:Nat):swsN n k≠0:=by
 induction k with
 | zero=>exact h0
 | succ k ih =>
  rw [swsN];unfold swN
  rw [if_neg ih]
  exact nz_ne _ (zh5 n h k) ih
theorem zh6 (h:Bool) (k:Nat):swsH h 0 k=(h != (k%2 == 1)):=by
 induction k with
 | zero=>simp [swsH]
 | succ k ih =>
  rw [swsH,zfC,ih]
  unfold swH
  rw [if_pos rfl]
  by_cases h2:k%2=1
  ·have h3:(k+1)%2=0:=by omega
   rw [h2,h3];cases h <;> rfl
  ·have h3:(k+1)%2=1:=by omega
   have h4:k%2=0:=by omega
   rw [h4,h3];cases h <;> rfl
theorem Vc.tick_ok {v:Vc} (h:v.ok):v.tick.ok:=by
 unfold Vc.tick
 split
 ·exact ⟨h.p,h.p,h.l,zms _ h.n⟩
 ·exact ⟨h.p,⟨by have:=h.c;simp only;omega,by have:=h.c;simp only;omega⟩,h.l,h.n⟩
theorem Vc.later_tick (v:Vc) (h:v.ok) (n:Int) (hn:0<=n):(v.later n).tick=v.later (n+1):=by
 obtain ⟨p,c,l,hi,ns⟩:=v
 obtain ⟨hp,hc,hl,hns⟩:=h
 simp only at hp hc hl hns
 unfold Vc.tick Vc.later
 simp only
 by_cases h1:n+1<c+1
 ·have h2:n<c+1:=by omega
  have e1:ltC p c n=c-n:=by unfold ltC;rw [if_pos h2]
  have e2:ltC p c (n+1)=c-n-1:=by unfold ltC;rw [if_pos h1];omega
  have e3:ltK p c n=0:=by unfold ltK;rw [if_pos h2]
  have e4:ltK p c (n+1)=0:=by unfold ltK;rw [if_pos h1]
  rw [e1,e2,e3,e4,if_neg (by omega)]
 ·by_cases h2:n<c+1
  ·have e1:ltC p c n=0:=by unfold ltC;rw [if_pos h2];omega
   have e5:n+1-(c+1)=0:=by omega
   have e2:ltC p c (n+1)=p:=by unfold ltC;rw [if_neg h1,e5];simp
   have e3:ltK p c n=0:=by unfold ltK;rw [if_pos h2]
   have e4:ltK p c (n+1)=1:=by unfold ltK;rw [if_neg h1,e5];simp
   rw [e1,e2,e3,e4,if_pos rfl]
   rfl
  ·have e:n+1-(c+1)=(n-(c+1))+1:=by omega
   obtain ⟨s1,s2⟩:=zkK (n-(c+1)) (p+1) (by omega) (by omega)
   have b1:=Int.emod_nonneg (n-(c+1)) (show p+1≠0 by omega)
   have b2:=Int.emod_lt_of_pos (n-(c+1)) (show 0<p+1 by omega)
   have b3:0<=(n-(c+1))/(p+1):=Int.ediv_nonneg (by omega) (by omega)
   have e1:ltC p c n=p-(n-(c+1))%(p+1):=by unfold ltC;rw [if_neg h2]
   have e3:ltK p c n=(1+(n-(c+1))/(p+1)).toNat:=by unfold ltK;rw [if_neg h2]
   have e2:ltC p c (n+1)=p-(n-(c+1)+1)%(p+1):=by unfold ltC;rw [if_neg h1,e]
   have e4:ltK p c (n+1)=(1+(n-(c+1)+1)/(p+1)).toNat:=by unfold ltK;rw [if_neg h1,e]
   by_cases h6:(n-(c+1))%(p+1)=p
   ·rw [s1,if_pos (by omega)] at e2
    rw [s2,if_pos (by omega)] at e4
    have e5:ltK p c (n+1)=ltK p c n+1:=by rw [e3,e4];omega
    rw [e2,e5,e1,if_pos (by omega)]
    simp [swsH,swsN]
   ·rw [s1,if_neg (by omega)] at e2
    rw [s2,if_neg (by omega)] at e4
    have e5:ltK p c (n+1)=ltK p c n:=by rw [e3,e4]
    rw [e2,e5,e1,if_neg (by omega)]
    simp;omega
theorem Vc.later_zero (v:Vc) (h:v.ok):v.later 0=v:=by
 have hc:=h.c
 have e1:ltC v.p v.c 0=v.c:=by unfold ltC;rw [if_pos (by omega)];omega
 have e2:ltK v.p v.c 0=0:=by unfold ltK;rw [if_pos (by omega)]
 unfold Vc.later
 rw [e1,e2]
 rfl
theorem Vc.later_ticks (v:Vc) (h:v.ok) (n:Nat):v.later n=v.ticks n:=by
 induction n with
 | zero=>exact v.later_zero h
 | succ n ih=>rw [Vc.ticks,<- ih,Vc.later_tick v h n (by omega)];simp
/-! ### sounds -/
structure Sd where
 a:Vc
 b:Vc
 c:Vc
 w:Int
structure Sd.ok (s : Sd) : Prop where
 a:s.a.ok
 b:s.b.ok
 c:s.c.ok
structure Sd.fit (s : Sd) : Prop extends s.ok where
 w:0<=s.w/\s.w<=15
def Sd.tick (s:Sd):Sd:=⟨s.a.tick,s.b.tick,s.c.tick,if s.w=0 then 15 else s.w-1⟩
def Sd.ticks (s:Sd):Nat->Sd
 | 0=>s
 | k+1=>(s.ticks k).tick
def ld (v:Vc):Int:=if v.h then v.l%16 else 0
def smI (s:Sd):Int:=ld s.a+ld s.b+ld s.c
def sm (s:Sd):UInt8:=UInt8.ofNat (smI s).toNat
def one (s:Sd):List UInt8:=if s.w=0 then [sm s] else []
def sms (s:Sd):Nat->List UInt8
 | 0=>[]
 | k+1=>sms s k++one (s.ticks k)
theorem ld_bd (v:Vc):0<=ld v/\ld v<=15:=by unfold ld;split <;> omega
theorem zn4 (s:Sd):0<=smI s/\smI s<=45:=by
 have:=ld_bd s.a;have:=ld_bd s.b;have:=ld_bd s.c
 unfold smI;omega
theorem zn5 (s:Sd):((sm s).toNat:Int)=smI s:=by
 have:=zn4 s
 unfold sm
 rw [UInt8.toNat_ofNat']
 omega
theorem Sd.tick_fit {s:Sd} (h:s.fit):s.tick.fit:=by
 refine ⟨⟨Vc.tick_ok h.a,Vc.tick_ok h.b,Vc.tick_ok h.c⟩,?_⟩
 have:=h.w
 unfold Sd.tick
 simp only
 split <;> omega
theorem Sd.ticks_fit {s:Sd} (h:s.fit) (k:Nat):(s.ticks k).fit:=by
 induction k with
 | zero=>exact h
 | succ k ih=>exact Sd.tick_fit ih
theorem Sd.ticks_add (s:Sd) (a b:Nat):(s.ticks a).ticks b=s.ticks (a+b):=by
 induction b with
 | zero=>rfl
 | succ b ih=>rw [Sd.ticks,ih];rfl
theorem zc8 (s:Sd) (a b:Nat):sms s (a+b)=sms s a++sms (s.ticks a) b:=by
 induction b with
 | zero=>simp [sms]
 | succ b ih =>
  show sms s (a+b)++one (s.ticks (a+b))=_
  rw [ih,<- Sd.ticks_add,List.append_assoc]
  rfl
theorem zgd (s:Sd) (k:Nat):(sms s k).length<=k:=by
 induction k with
 | zero=>simp [sms]
 | succ k ih =>
  simp only [sms,List.length_append]
  have:(one (s.ticks k)).length<=1:=by unfold one;split <;> simp
  omega
theorem Sd.ticks_parts (s:Sd) (k:Nat):(s.ticks k).a=s.a.ticks k/\(s.ticks k).b=s.b.ticks k/\(s.ticks k).c=s.c.ticks k:=by
 induction k with
 | zero=>exact ⟨rfl,rfl,rfl⟩
 | succ k ih=>exact ⟨by show (s.ticks k).a.tick=_;rw [ih.1];rfl,by show (s.ticks k).b.tick=_;rw [ih.2.1];rfl,by show (s.ticks k).c.tick=_;rw [ih.2.2];rfl⟩
def wt (s:Sd):Int:=if s.w=0 then 16 else s.w
theorem Sd.near {s:Sd} (h:s.fit) (m:Nat) (h1:1<=m) (hm:(m:Int)<=wt s):(s.ticks m).w=wt s-m/\sms s m=one s:=by
 have hw:=h.w
 induction m with
 | zero=>omega
 | succ m ih =>
  by_cases h0:m=0
  ·subst h0
   refine ⟨?_,by simp [sms,Sd.ticks]⟩
   unfold wt
   simp only [Sd.ticks,Sd.tick]
   by_cases hz:s.w=0 <;> simp [hz]
  ·obtain ⟨e1,e2⟩:=ih (by omega) (by omega)
   have e3:(s.ticks m).w≠0:=by rw [e1];omega
   refine ⟨?_,?_⟩
   ·simp only [Sd.ticks,Sd.tick]
    rw [if_neg e3,e1];omega
   ·rw [sms,e2];unfold one;rw [if_neg e3];simp
def Sd.go (s:Sd) (m:Int):Sd:=⟨s.a.later m,s.b.later m,s.c.later m,wt s-m⟩
theorem Sd.go_ticks {s:Sd} (h:s.fit) (m:Nat) (h1:1<=m) (hm:(m:Int)<=wt s):s.go m=s.ticks m:=by
 obtain ⟨e1,e2,e3⟩:=Sd.ticks_parts s m
 unfold Sd.go
 rw [Vc.later_ticks _ h.a,Vc.later_ticks _ h.b,Vc.later_ticks _ h.c,<- (Sd.near h m h1 hm).1,<- e1,<- e2,<- e3]
theorem wt_bd {s:Sd} (h:s.fit):1<=wt s/\wt s<=16:=by have:=h.w;unfold wt;split <;> omega
structure Bx (W : World) (b : Nat) (L : List Value) : Prop where
 z:b<W.heap.size
 c:W.rangeAt b 0 L
 f:∀ o,W.frozen? ⟨b,o,none⟩=false
section
variable {W w1 : World} {b : Nat} {L : List Value}
theorem Bx.at (h:Bx W b L) (i:Nat) (v:Value) (e:L[i]? = some v):W.cell? ⟨b,i,none⟩=some v:=by have:=h.c i v e;rwa [Nat.zero_add] at this
theorem Bx.kept (h:Bx W b L) (hb:Below W.heap.size W w1):Bx w1 b L :=
 ⟨Nat.lt_of_lt_of_le h.z hb.size,λj v hj=>(hb.cell (p:=⟨b,0+j,none⟩) h.z).trans (h.c j v hj),λo=>(hb.frozen (p:=⟨b,o,none⟩) h.z).trans (h.f o)⟩
theorem Bx.under {n:Nat} (h:Bx W b L) (hb:Below n W w1) (hn:b<n):Bx w1 b L :=
 ⟨Nat.lt_of_lt_of_le h.z hb.size,λj v hj=>(hb.cell (p:=⟨b,0+j,none⟩) hn).trans (h.c j v hj),λo=>(hb.frozen (p:=⟨b,o,none⟩) hn).trans (h.f o)⟩
theorem Bx.over (h:Bx W b L) (o:Obj):Bx (W.alloc o) b L:=h.kept (stA (st0 W) o)
theorem Bx.drew (h:Bx W b L):Bx W.drew b L:=⟨h.z,h.c,h.f⟩
theorem Bx.new (W:World) (L:List Value) (t:TypeId) {b:Nat} (hb:b=W.heap.size):Bx (W.alloc (.cells L.toArray t)) b L:=by
 subst hb
 exact ⟨by simp,λj v hj=>(Pl.new _ _ _ _ rfl).trans (by rw [Nat.zero_add];simpa using hj),λo=>Lib.frozen_of_heap (heap_alloc_new W _) o⟩
theorem Bx.far (h:Bx W b L) {b' o':Nat} (hne:b'≠b) (v:Value):Bx (W.setCell ⟨b',o',none⟩ v) b L :=
 ⟨by simpa using h.z,λj x hj=>(World.cell?_setCell_far W _ _ v hne).trans (h.c j x hj),λo=>by simpa using h.f o⟩
theorem Bx.set (h:Bx W b L) (i:Nat) (v:Value) (hi:i<L.length):Bx (W.setCell ⟨b,i,none⟩ v) b (L.set i v):=by
 refine ⟨by simpa using h.z,λj x hj=>?_,λo=>by simpa using h.f o⟩
 rw [Nat.zero_add]
 by_cases e:i=j
 ·subst e
  rw [List.getElem?_set_self hi] at hj
  have hs:(W.cell? ⟨b,i,none⟩).isSome:=by rw [h.at i _ (List.getElem?_eq_getElem hi)];rfl
  rw [<- hj]
  exact World.cell?_setCell_same' _ _ _ hs
 ·rw [List.getElem?_set_ne e] at hj
  exact (World.cell?_setCell_other _ _ _ _ (by intro x;exact e (congrArg Addr.off x))).trans (h.at j x hj)
def putL (L:List Value) (o:Nat):List Value->List Value
 | []=>L
 | v::vs=>putL (L.set o v) (o+1) vs
theorem Bx.puts (h:Bx W b L) (o:Nat) (vs:List Value) (hl:o+vs.length<=L.length):Bx (W.setCells b o vs) b (putL L o vs):=by
 induction vs generalizing W L o with
 | nil=>exact h
 | cons v vs ih =>
  simp only [List.length_cons] at hl
  exact ih (h.set o v (by omega)) (o+1) (by simp;omega)
theorem Bx.fars (h:Bx W b L) {b':Nat} (hne:b'≠b) (o:Nat) (vs:List Value):Bx (W.setCells b' o vs) b L:=by
 induction vs generalizing W o with
 | nil=>exact h
 | cons v vs ih=>exact ih (h.far hne v) (o+1)
theorem Bx.mid (h:Bx W b L) (o n:Nat):W.rangeAt b o ((L.drop o).take n):=λj v hj=>by
 have hj':(L.drop o)[j]? = some v:=by
  rw [List.getElem?_take] at hj
  split at hj
  ·exact hj
  ·cases hj
 rw [List.getElem?_drop] at hj'
 exact h.at (o+j) v hj'
theorem Bx.there (h:Bx W b L) (o n:Nat) (hl:o+n<=L.length):W.there b o n:=λj hj=>by
 refine ⟨?_,h.f _⟩
 rw [h.at (o+j) _ (List.getElem?_eq_getElem (by omega))]
 rfl
end
theorem Bl.set {w W:World} {b o:Nat} (h:Below w.heap.size w W) (hb:w.heap.size<=b) (v:Value):Below w.heap.size w (W.setCell ⟨b,o,none⟩ v):=h.setCell hb v
theorem Bl.puts {w W:World} {b o:Nat} (h:Below w.heap.size w W) (hb:w.heap.size<=b) (vs:List Value):Below w.heap.size w (W.setCells b o vs):=Pl.below hb vs o W h
theorem Pl.cutL {P:Program} {ops:Array Oper} {rest:List Oper} {Q:Exit->Act->World->Prop} {a:Act} {w:World} (K:World->Prop) (h:K w) (k:∀ w',K w'->wpList P ops Q rest a w'):wpList P ops Q rest a w:=k w h
theorem Pl.cutE {F:Exit->Act->World->Prop} {e:Exit} {a:Act} {w:World} (K:World->Prop) (h:K w) (k:∀ w',K w'->F e a w'):F e a w:=k w h
theorem Bl.drewN {B:Nat} {a w:World} (h:Below B a w) (n:Nat):Below B a (w.drewN n):=h.trans ⟨rfl,rfl,rfl,Nat.le_refl _,λ_ _=>rfl⟩
abbrev vL (p c l:Int) (h:Bool) (n:Int):List Value:=[.int .u16 p,.int .u16 c,.int .u8 l,.bool h,.int .u16 n]
theorem zhg:(Tryz.prog.info? 33).map (·.size)=some 5:=by kernel_rfl
theorem zcF (W:World) (q o:Nat) (p c l n:Int) (h:Bool) (hr:W.rangeAt q o (vL p c l h n)):(loadVar 33 ⟨q,o,none⟩).run Tryz.prog W = .ok (.agg #[.int .u16 p,.int .u16 c,.int .u8 l,.bool h,.int .u16 n]) W :=
 run_loadVar_mid W q o 33 _ _ hr Tryz.underlying33 rfl zhg
theorem Bx.five {W:World} {b:Nat} {p c l n:Int} {h:Bool} (hB:Bx W b (vL p c l h n)):W.cell? ⟨b,0,none⟩=some (.int .u16 p)/\W.cell? ⟨b,1,none⟩=some (.int .u16 c)/\W.cell? ⟨b,2,none⟩=some (.int .u8 l)/\W.cell? ⟨b,3,none⟩=some (.bool h)/\W.cell? ⟨b,4,none⟩=some (.int .u16 n)/\b<W.heap.size /\ ∀ o,W.frozen? ⟨b,o,none⟩=false :=
 ⟨hB.at 0 _ rfl,hB.at 1 _ rfl,hB.at 2 _ rfl,hB.at 3 _ rfl,hB.at 4 _ rfl,hB.z,hB.f⟩
theorem Bx.put5 {W:World} {b:Nat} {L:List Value} (hB:Bx W b L) (hl:L.length=5) (p c l n:Int) (h:Bool):Bx (((((W.setCell ⟨b,0,none⟩ (.int .u16 p)).setCell ⟨b,1,none⟩ (.int .u16 c)).setCell ⟨b,2,none⟩ (.int .u8 l)).setCell ⟨b,3,none⟩ (.bool h)).setCell ⟨b,4,none⟩ (.int .u16 n)) b (vL p c l h n):=by
 have:=hB.puts 0 (vL p c l h n) (by rw [hl];simp)
 have e:putL L 0 (vL p c l h n)=vL p c l h n:=by
  match L,hl with
  | [_,_,_,_,_],_=>rfl
 rw [e] at this
 exact this
theorem Bl.put5 {w W:World} {b:Nat} (hB:Below w.heap.size w W) (hb:w.heap.size<=b) (p c l n:Int) (h:Bool):Below w.heap.size w (((((W.setCell ⟨b,0,none⟩ (.int .u16 p)).setCell ⟨b,1,none⟩ (.int .u16 c)).setCell ⟨b,2,none⟩ (.int .u8 l)).setCell ⟨b,3,none⟩ (.bool h)).setCell ⟨b,4,none⟩ (.int .u16 n)) :=
 Bl.puts (o:=0) hB hb (vL p c l h n)
theorem zmN (x:Int) (h:0<=x/\x<=65535):(bits .and .u16 x 1 == 1)=decide (x%2=1):=M.bit_of x h.1 h.2
structure SwW (w : World) (p c l n : Int) (h : Bool) (j : Nat) (W : World) : Prop where
 low:Below w.heap.size w W
 v:Bx W w.heap.size (vL p c l (swsH h n j) (swsN n j))
 r:Bx W (w.heap.size+1) (vL 0 0 0 false 0)
theorem zge (p c l n:Int) (h:Bool) (k:Nat) (w:World) (hn:0<=n/\n<=65535) (h0:n≠0) (hk:k<=20001) :
 Calls Tryz.prog 194 #[.agg #[.int .u16 p,.int .u16 c,.int .u8 l,.bool h,.int .u16 n],.int .i64 k] w λe w'=>e = .returned (.agg #[.int .u16 p,.int .u16 c,.int .u8 l,.bool (swsH h n k),.int .u16 (swsN n k)])/\Below w.heap.size w w':=by
 have hb0:(n == 0)=false:=by simpa using h0
 go_enter Tryz.func194,Tryz.ntmps194
 go_wp2
 go_loopw [17] (λi wr=>∃ j:Nat,j<=k/\i = .int .i64 j/\SwW w p c l n h j wr) (λi _=>k-(intOf i).toNat)
 case atStart=>exact ⟨0,Nat.zero_le _,rfl,stA (stA (st0 w) _) _,(Bx.new w (vL p c l h n) _ rfl).over _,Bx.new _ (vL 0 0 0 false 0) _ (by simp)⟩
 case round =>
  obtain ⟨j,hj,rfl,hA⟩:=hrel
  have HA:=hid hA
  have hy:=zh5 n hn j
  have hne:=zmM n hn h0 j
  obtain ⟨t0,t1,t2,t3,t4,tz,tf⟩:=hA.v.five
  clear hA
  by_cases h8:j<k
  ·have h8':(j:Int)<k:=by omega
   have hb:=zmN _ hy
   by_cases hp:swsN n j%2=1
   ·rw [decide_eq_true hp] at hb
    have e1:swsN n (j+1)=bits .xor .u16 (swsN n j/2) 46080:=by rw [swsN];unfold swN nz;rw [if_neg hne,if_pos hp]
    have e2:swsH h n (j+1)=true:=by rw [swsH];unfold swH;rw [if_neg hne,decide_eq_true hp]
    have E1:=hid e1
    have E2:=hid e2
    have HP:=hid hp
    have HN:=hid hne
    clear e1 e2 hp hne
    go_wp2
    go_roundw
    case rel =>
     refine ⟨j+1,h8,by go_num,?_,?_,?_⟩
     ·exact Bl.set (Bl.set (Bl.set HA.out.low (Nat.le_refl _) _) (Nat.le_refl _) _) (Nat.le_refl _) _
     ·rw [E1.out,E2.out]
      exact ((HA.out.v.set 3 _ (by simp)).set 4 _ (by simp)).set 4 _ (by simp)
     ·exact ((HA.out.r.far (by omega) _).far (by omega) _).far (by omega) _
    case measure=>simp [intOf];omega
   ·rw [decide_eq_false hp] at hb
    have e1:swsN n (j+1)=swsN n j/2:=by rw [swsN];unfold swN nz;rw [if_neg hne,if_neg hp]
    have e2:swsH h n (j+1)=false:=by rw [swsH];unfold swH;rw [if_neg hne,decide_eq_false hp]
    have E1:=hid e1
    have E2:=hid e2
    have HP:=hid hp
    have HN:=hid hne
    clear e1 e2 hp hne
    go_wp2
    go_roundw
    case rel =>
     refine ⟨j+1,h8,by go_num,?_,?_,?_⟩
     ·exact Bl.set (Bl.set HA.out.low (Nat.le_refl _) _) (Nat.le_refl _) _
     ·rw [E1.out,E2.out]
      exact (HA.out.v.set 3 _ (by simp)).set 4 _ (by simp)
     ·exact (HA.out.r.far (by omega) _).far (by omega) _
    case measure=>simp [intOf];omega
  ·obtain rfl:j=k:=by omega
   clear hne
   obtain ⟨r0,r1,r2,r3,r4,rz,rf⟩:=HA.out.r.five
   go_wp2
   have hR:=HA.out.r.put5 rfl p c l (swsN n j) (swsH h n j)
   have hY:=Bl.put5 (b:=w.heap.size+1) HA.out.low (by omega) p c l (swsN n j) (swsH h n j)
   refine Pl.cutB (λY=>Below w.heap.size w Y/\Y.rangeAt (w.heap.size+1) 0 (vL p c l (swsH h n j) (swsN n j))) ⟨hY,hR.c⟩ ?_
   rintro Y ⟨hY,hR⟩
   exact bodyPost_ret (v:=.agg _) (by simp only [results,Tryz.results194];simp;exact zcF _ _ _ _ _ _ _ _ hR) rfl ⟨rfl,hY⟩
theorem zfD (p c l:Int) (h:Bool) (k:Nat) (w:World) (hk:k<=20001) :
 Calls Tryz.prog 194 #[.agg #[.int .u16 p,.int .u16 c,.int .u8 l,.bool h,.int .u16 0],.int .i64 k] w λe w'=>e = .returned (.agg #[.int .u16 p,.int .u16 c,.int .u8 l,.bool (swsH h 0 k),.int .u16 (swsN 0 k)])/\Below w.heap.size w w':=by
 rw [zh6,zfC]
 have e:(!(h == ((k:Int)%2 == 1)))=(h != (k%2 == 1)):=by
  by_cases h2:k%2=1
  ·have h3:(k:Int)%2=1:=by omega
   rw [h2,h3];cases h <;> rfl
  ·have h3:(k:Int)%2=0:=by omega
   have h4:k%2=0:=by omega
   rw [h4,h3];cases h <;> rfl
 have E:=hid e
 clear e
 go_enter Tryz.func194,Tryz.ntmps194
 go_wp2
 rw [E.out]
 refine bodyPost_ret (v:=.agg _) (by simp [results,Tryz.results194,go_sem]) rfl ⟨rfl,?_⟩
 exact (stA (stA (st0 _) _) _)
theorem zh7 (p c l n:Int) (h:Bool) (k:Nat) (w:World) (hn:0<=n/\n<=65535) (hk:k<=20001) :
 Calls Tryz.prog 194 #[.agg #[.int .u16 p,.int .u16 c,.int .u8 l,.bool h,.int .u16 n],.int .i64 k] w λe w'=>e = .returned (.agg #[.int .u16 p,.int .u16 c,.int .u8 l,.bool (swsH h n k),.int .u16 (swsN n k)])/\Below w.heap.size w w':=by
 by_cases h0:n=0
 ·subst h0;exact zfD p c l h k w hk
 ·exact zge p c l n h k w hn h0 hk
theorem keep0 {W:World} {b:Nat} {x v:Value} (h:W.cell? ⟨b,0,none⟩=some x):(W.setCell ⟨b,1,none⟩ v).drew.cell? ⟨b,0,none⟩=some x :=
 (World.cell?_setCell_other _ _ _ _ (by intro e;exact absurd (congrArg Addr.off e) (show (1:Nat)≠0 by decide))).trans h
theorem keep5 {W w1:World} {b:Nat} {p c l n:Int} {h:Bool} (hc:W.cell? ⟨b,0,none⟩=some (.int .u16 p)/\W.cell? ⟨b,1,none⟩=some (.int .u16 c)/\W.cell? ⟨b,2,none⟩=some (.int .u8 l)/\W.cell? ⟨b,3,none⟩=some (.bool h)/\W.cell? ⟨b,4,none⟩=some (.int .u16 n)) (hb:Below W.heap.size W w1) :
 w1.cell? ⟨b,0,none⟩=some (.int .u16 p)/\w1.cell? ⟨b,1,none⟩=some (.int .u16 c)/\w1.cell? ⟨b,2,none⟩=some (.int .u8 l)/\w1.cell? ⟨b,3,none⟩=some (.bool h)/\w1.cell? ⟨b,4,none⟩=some (.int .u16 n):=by
 have hz:=World.block_lt_of_cell? W _ hc.1
 exact ⟨(hb.cell (p:=⟨b,0,none⟩) hz).trans hc.1,(hb.cell (p:=⟨b,1,none⟩) hz).trans hc.2.1,(hb.cell (p:=⟨b,2,none⟩) hz).trans hc.2.2.1,(hb.cell (p:=⟨b,3,none⟩) hz).trans hc.2.2.2.1,(hb.cell (p:=⟨b,4,none⟩) hz).trans hc.2.2.2.2⟩
structure V2 (w : World) (p c l n : Int) (h : Bool) (W : World) : Prop where
 low:Below w.heap.size w W
 v:Bx W w.heap.size (vL p c l h n)
 r:Bx W (w.heap.size+1) (vL 0 0 0 false 0)
theorem V2.start (w:World) (p c l n:Int) (h:Bool) (q:Nat):V2 w p c l n h (((w.alloc (.cells (vL p c l h n).toArray 33)).alloc (.cells (vL 0 0 0 false 0).toArray 33)).drewN q):=by
 have h0:V2 w p c l n h ((w.alloc (.cells (vL p c l h n).toArray 33)).alloc (.cells (vL 0 0 0 false 0).toArray 33)):=⟨stA (stA (st0 w) _) _,(Bx.new w (vL p c l h n) _ rfl).over _,Bx.new _ (vL 0 0 0 false 0) _ (by simp)⟩
 have hd:=Bl.drewN (Below.refl ((w.alloc (.cells (vL p c l h n).toArray 33)).alloc (.cells (vL 0 0 0 false 0).toArray 33)).heap.size ((w.alloc (.cells (vL p c l h n).toArray 33)).alloc (.cells (vL 0 0 0 false 0).toArray 33))) q
 exact ⟨stp h0.low hd,h0.v.kept hd,h0.r.kept hd⟩
theorem zh8 (p c l n:Int) (h:Bool) (m:Int) (w:World) (hp:0<=p/\p<=65535) (hc:0<=c/\c<=65535) (hn:0<=n/\n<=65535) (hm:0<=m/\m<=20000) :
 Calls Tryz.prog 118 #[.agg #[.int .u16 p,.int .u16 c,.int .u8 l,.bool h,.int .u16 n],.int .i64 m] w λe w'=>e = .returned (.agg #[.int .u16 p,.int .u16 (ltC p c m),.int .u8 l,.bool (swsH h n (ltK p c m)),.int .u16 (swsN n (ltK p c m))])/\Below w.heap.size w w':=by
 by_cases h1:m<c+1
 ·have e1:ltC p c m=c-m:=by unfold ltC;rw [if_pos h1]
  have e2:ltK p c m=0:=by unfold ltK;rw [if_pos h1]
  rw [e1,e2]
  show Calls Tryz.prog 118 #[.agg #[.int .u16 p,.int .u16 c,.int .u8 l,.bool h,.int .u16 n],.int .i64 m] w λe w'=>e = .returned (.agg #[.int .u16 p,.int .u16 (c-m),.int .u8 l,.bool h,.int .u16 n])/\Below w.heap.size w w'
  clear e1 e2
  go_enter Tryz.func118,Tryz.ntmps118
  go_wp2
  go_quiet (fail)
  refine Pl.cutE (V2 w p c l n h) (V2.start w p c l n h _) ?_
  intro W hW
  obtain ⟨t0,t1,t2,t3,t4,tz,tf⟩:=hW.v.five
  obtain ⟨r0,r1,r2,r3,r4,rz,rf⟩:=hW.r.five
  have HW:=hid hW
  clear hW
  go_wp2
  have hR:=(HW.out.r.far (b':=w.heap.size) (o':=1) (by omega) (.int .u16 (c-m))).put5 rfl p (c-m) l n h
  have hY:=Bl.put5 (b:=w.heap.size+1) (Bl.set (o:=1) HW.out.low (Nat.le_refl _) (.int .u16 (c-m))) (by omega) p (c-m) l n h
  refine Pl.cutB (λY=>Below w.heap.size w Y/\Y.rangeAt (w.heap.size+1) 0 (vL p (c-m) l h n)) ⟨hY,hR.c⟩ ?_
  rintro Y ⟨hY,hR⟩
  exact bodyPost_ret (v:=.agg _) (by simp only [results,Tryz.results118];simp;exact zcF _ _ _ _ _ _ _ _ hR) rfl ⟨rfl,hY⟩
 ·have e1:ltC p c m=p-(m-(c+1))%(p+1):=by unfold ltC;rw [if_neg h1]
  have e2:ltK p c m=(1+(m-(c+1))/(p+1)).toNat:=by unfold ltK;rw [if_neg h1]
  have b1:=Int.emod_nonneg (m-(c+1)) (show p+1≠0 by omega)
  have b2:=Int.emod_lt_of_pos (m-(c+1)) (show 0<p+1 by omega)
  have b3:0<=(m-(c+1))/(p+1):=Int.ediv_nonneg (by omega) (by omega)
  have b4:(m-(c+1))/(p+1)<=m-(c+1):=Int.ediv_le_self _ (by omega)
  have q2:IntKind.i64.wrap ((m-(c+1)).tmod (p+1))=(m-(c+1))%(p+1):=by rw [Int.tmod_eq_emod_of_nonneg (by omega)];simp [IntKind.wrap,IntKind.bits,IntKind.signed];omega
  have q6:IntKind.i64.wrap ((m-(c+1)).tdiv (p+1))=(m-(c+1))/(p+1):=by rw [Int.tdiv_eq_ediv_of_nonneg (by omega)];simp [IntKind.wrap,IntKind.bits,IntKind.signed];omega
  have q3:IntKind.u16.wrap ((m-(c+1))%(p+1))=(m-(c+1))%(p+1):=by rw [IntKind.wrap_u16];omega
  have q4:IntKind.u16.wrap (p-(m-(c+1))%(p+1))=p-(m-(c+1))%(p+1):=by rw [IntKind.wrap_u16];omega
  have q5:p+1≠0:=by omega
  have q10:IntKind.i64.wrap (1+(m-(c+1))/(p+1))=1+(m-(c+1))/(p+1):=by simp [IntKind.wrap,IntKind.bits,IntKind.signed];omega
  have q13:IntKind.i64.wrap ((m-(c+1))/(p+1))=(m-(c+1))/(p+1):=by simp [IntKind.wrap,IntKind.bits,IntKind.signed];omega
  have q8:(m-(c+1)).tmod (p+1)=(m-(c+1))%(p+1):=Int.tmod_eq_emod_of_nonneg (by omega)
  have q9:(m-(c+1)).tdiv (p+1)=(m-(c+1))/(p+1):=Int.tdiv_eq_ediv_of_nonneg (by omega)
  have q7:(1+(m-(c+1))/(p+1))=((ltK p c m:Nat):Int):=by rw [e2];omega
  have hk:ltK p c m<=20001:=by omega
  rw [e1]
  have HQ:=hid q7
  clear q7 e1 e2
  go_enter Tryz.func118,Tryz.ntmps118
  go_wp2
  go_quiet (fail)
  refine Pl.cutE (V2 w p c l n h) (V2.start w p c l n h _) ?_
  intro W hW
  obtain ⟨t0,t1,t2,t3,t4,tz,tf⟩:=hW.v.five
  have HW:=hid hW
  clear hW
  go_wp2
  go_region_held3 (λw'=>w'.cell? ⟨w.heap.size,0,none⟩=some (.int .u16 p))
   (first
     | exact keep0 t0
     | (go_keep;done))
   (fail)
  refine Pl.cutE (V2 w p (p-(m-(c+1))%(p+1)) l n h) ⟨(Bl.set HW.out.low (Nat.le_refl _) _).drew,(HW.out.v.set 1 _ (by simp)).drew,(HW.out.r.far (by omega) _).drew⟩ ?_
  clear t0 t1 t2 t3 t4 tz tf
  intro W1 hW1
  obtain ⟨t0,t1,t2,t3,t4,tz,tf⟩:=hW1.v.five
  have HW1:=hid hW1
  clear hW1 HW
  have hsw:=λW=>zh7 p (p-(m-(c+1))%(p+1)) l n h (ltK p c m) W hn hk
  rw [<- HQ.out] at hsw
  go_wp2
  go_region_held3 (λw'=>w'.cell? ⟨w.heap.size,0,none⟩=some (.int .u16 p)/\w'.cell? ⟨w.heap.size,1,none⟩=some (.int .u16 (p-(m-(c+1))%(p+1)))/\w'.cell? ⟨w.heap.size,2,none⟩=some (.int .u8 l)/\w'.cell? ⟨w.heap.size,3,none⟩=some (.bool h)/\w'.cell? ⟨w.heap.size,4,none⟩=some (.int .u16 n))
   (first
     | with_reducible exact keep5 (by assumption) (by assumption)
     | (go_keep;done))
   ((go_at_call 194;refine (hsw _).mono ?_;rintro e w1 ⟨rfl,hb1⟩;obtain ⟨r0,r1,r2,r3,r4,rz,rf⟩:=(HW1.out.r.drew.kept hb1).five))
  go_wp2
  have hR:=(HW1.out.r.drew.kept hb1).put5 rfl p (p-(m-(c+1))%(p+1)) l (swsN n (ltK p c m)) (swsH h n (ltK p c m))
  have hY:=Bl.put5 (b:=w.heap.size+1) (stp HW1.out.low.drew hb1) (by omega) p (p-(m-(c+1))%(p+1)) l (swsN n (ltK p c m)) (swsH h n (ltK p c m))
  refine Pl.cutB (λY=>Below w.heap.size w Y/\Y.rangeAt (w.heap.size+1) 0 (vL p (p-(m-(c+1))%(p+1)) l (swsH h n (ltK p c m)) (swsN n (ltK p c m)))) ⟨hY,hR.c⟩ ?_
  rintro Y ⟨hY,hR⟩
  exact bodyPost_ret (v:=.agg _) (by simp only [results,Tryz.results118];simp;exact zcF _ _ _ _ _ _ _ _ hR) rfl ⟨rfl,hY⟩
abbrev vcs (v:Vc):List Value:=[.int .u16 v.p,.int .u16 v.c,.int .u8 v.l,.bool v.h,.int .u16 v.n]
theorem latV (v:Vc) (m:Int) (w:World) (h:v.ok) (hm:0<=m/\m<=20000) :
 Calls Tryz.prog 118 #[(.agg #[.int .u16 v.p,.int .u16 v.c,.int .u8 v.l,.bool v.h,.int .u16 v.n]),.int .i64 m] w λe w'=>e = .returned (.agg #[.int .u16 (v.later m).p,.int .u16 (v.later m).c,.int .u8 (v.later m).l,.bool (v.later m).h,.int .u16 (v.later m).n])/\Below w.heap.size w w' :=
 zh8 v.p v.c v.l v.n v.h m w h.p h.c h.n hm
theorem zmO (n:Int) (w:World):Calls Tryz.prog 116 #[.int .i64 n] w λe w'=>e = .returned (.bool (decide (0<=n/\n<=20000)))/\w=w':=by
 by_cases h1:0<=n
 ·by_cases h2:n<=20000
  ·rw [decide_eq_true ⟨h1,h2⟩]
   go_enter Tryz.func116,Tryz.ntmps116
   go_wp2
   go_ret
   exact ⟨rfl,rfl⟩
  ·rw [decide_eq_false (λh=>h2 h.2)]
   go_enter Tryz.func116,Tryz.ntmps116
   go_wp2
   go_ret
   exact ⟨rfl,rfl⟩
 ·rw [decide_eq_false (λh=>h1 h.1)]
  go_enter Tryz.func116,Tryz.ntmps116
  go_wp2
  go_ret
  exact ⟨rfl,rfl⟩
theorem zei (s:Sd) (w:World) (h:0<=s.w/\s.w<=15) :
 Calls Tryz.prog 27 #[(.agg #[.int .u16 s.a.p,.int .u16 s.a.c,.int .u8 s.a.l,.bool s.a.h,.int .u16 s.a.n,.int .u16 s.b.p,.int .u16 s.b.c,.int .u8 s.b.l,.bool s.b.h,.int .u16 s.b.n,.int .u16 s.c.p,.int .u16 s.c.c,.int .u8 s.c.l,.bool s.c.h,.int .u16 s.c.n,.int .i64 s.w])] w λe w'=>e = .returned (.int .i64 0)/\Below w.heap.size w w':=by
 go_enter Tryz.func27,Tryz.ntmps27
 go_wp2
 go_ret
 exact ⟨rfl,stA (st0 _) _⟩
theorem zh9 (s:Sd) (w:World) (h:s.w<0 \/ 15<s.w) :
 Calls Tryz.prog 27 #[(.agg #[.int .u16 s.a.p,.int .u16 s.a.c,.int .u8 s.a.l,.bool s.a.h,.int .u16 s.a.n,.int .u16 s.b.p,.int .u16 s.b.c,.int .u8 s.b.l,.bool s.b.h,.int .u16 s.b.n,.int .u16 s.c.p,.int .u16 s.c.c,.int .u8 s.c.l,.bool s.c.h,.int .u16 s.c.n,.int .i64 s.w])] w λe w'=>e = .returned (.int .i64 3)/\Below w.heap.size w w':=by
 rcases h with h|h
 ·go_enter Tryz.func27,Tryz.ntmps27
  go_wp2
  go_ret
  exact ⟨rfl,stA (st0 _) _⟩
 ·have h':¬ s.w<0:=by omega
  go_enter Tryz.func27,Tryz.ntmps27
  go_wp2
  go_ret
  exact ⟨rfl,stA (st0 _) _⟩
theorem v3_0 (x0 x1 x2 x3 x4 x5 x6 x7 x8 x9 y0 y1 y2 y3 y4:Value) (w:World):(Instr.index 34 (.agg #[x0,x1,x2,x3,x4,x5,x6,x7,x8,x9,y0,y1,y2,y3,y4]) (.int .i64 0)).run Tryz.prog w = .ok (.agg #[x0,x1,x2,x3,x4]) w:=by kernel_rfl
theorem v3_1 (x0 x1 x2 x3 x4 x5 x6 x7 x8 x9 y0 y1 y2 y3 y4:Value) (w:World):(Instr.index 34 (.agg #[x0,x1,x2,x3,x4,x5,x6,x7,x8,x9,y0,y1,y2,y3,y4]) (.int .i64 1)).run Tryz.prog w = .ok (.agg #[x5,x6,x7,x8,x9]) w:=by kernel_rfl
theorem v3_2 (x0 x1 x2 x3 x4 x5 x6 x7 x8 x9 y0 y1 y2 y3 y4:Value) (w:World):(Instr.index 34 (.agg #[x0,x1,x2,x3,x4,x5,x6,x7,x8,x9,y0,y1,y2,y3,y4]) (.int .i64 2)).run Tryz.prog w = .ok (.agg #[y0,y1,y2,y3,y4]) w:=by kernel_rfl
theorem and15 (l:Int) (h:0<=l/\l<=255):bits .and .u8 l 15=l%16:=by
 obtain ⟨X,hX⟩:=Int.eq_ofNat_of_zero_le h.1
 subst hX
 rw [show (15:Int)=((15:Nat):Int) from rfl,u8_and_nat _ _ (by omega) (by omega)]
 have:=Nat.and_two_pow_sub_one_eq_mod X 4
 simp only [Nat.reducePow,Nat.reduceSub] at this
 rw [this];omega
theorem ld_t {v:Vc} (h:v.h=true):ld v=v.l%16:=by unfold ld;rw [h];rfl
theorem ld_f {v:Vc} (h:v.h=false):ld v=0:=by unfold ld;rw [h];rfl
theorem zhh (s:Sd) (w:World) (h:s.ok) :
 Calls Tryz.prog 117 #[(.agg #[.int .u16 s.a.p,.int .u16 s.a.c,.int .u8 s.a.l,.bool s.a.h,.int .u16 s.a.n,.int .u16 s.b.p,.int .u16 s.b.c,.int .u8 s.b.l,.bool s.b.h,.int .u16 s.b.n,.int .u16 s.c.p,.int .u16 s.c.c,.int .u8 s.c.l,.bool s.c.h,.int .u16 s.c.n])] w λe w'=>e = .returned (.int .u8 (smI s))/\Below w.heap.size w w':=by
 have a0:=and15 _ h.a.l
 have a1:=and15 _ h.b.l
 have a2:=and15 _ h.c.l
 have i0:=v3_0
 have i1:=v3_1
 have i2:=v3_2
 have la:=ld_bd s.a
 have lb:=ld_bd s.b
 have lc:=ld_bd s.c
 have LA:=hid la
 have LB:=hid lb
 have LC:=hid lc
 go_enter Tryz.func117,Tryz.ntmps117
 go_wp2
 go_loopw [3,7] (λx i wr=>Below w.heap.size w wr/\((i = .int .i64 0/\x = .int .u8 0) \/ (i = .int .i64 1/\x = .int .u8 (ld s.a)) \/ (i = .int .i64 2/\x = .int .u8 (ld s.a+ld s.b)) \/ (i = .int .i64 3/\x = .int .u8 (smI s)))) (λ_ i _=>3-(intOf i).toNat)
 case atStart=>exact ⟨stA (st0 _) _,Or.inl ⟨rfl,rfl⟩⟩
 case round =>
  obtain ⟨hB,hcase⟩:=hrel
  have HB:=hid hB
  clear hB
  rcases hcase with ⟨rfl,rfl⟩|⟨rfl,rfl⟩|⟨rfl,rfl⟩|⟨rfl,rfl⟩
  ·cases hv:s.a.h
   ·have e:=ld_f hv
    go_wp2
    refine ⟨⟨stA HB.out _,Or.inr (Or.inl ⟨rfl,?_⟩)⟩,by decide⟩
    first|rfl|rw [e]
   ·have e:=ld_t hv
    go_wp2
    refine ⟨⟨stA HB.out _,Or.inr (Or.inl ⟨rfl,?_⟩)⟩,by decide⟩
    first|rfl|rw [e]|(rw [e];simp)
  ·cases hv:s.b.h
   ·have e:=ld_f hv
    go_wp2
    refine ⟨⟨stA HB.out _,Or.inr (Or.inr (Or.inl ⟨rfl,?_⟩))⟩,by decide⟩
    first|rfl|(rw [e];simp)
   ·have e:=ld_t hv
    go_wp2
    refine ⟨⟨stA HB.out _,Or.inr (Or.inr (Or.inl ⟨rfl,?_⟩))⟩,by decide⟩
    first|rfl|rw [e]|(rw [e];simp)
  ·cases hv:s.c.h
   ·have e:=ld_f hv
    go_wp2
    refine ⟨⟨stA HB.out _,Or.inr (Or.inr (Or.inr ⟨rfl,?_⟩))⟩,by decide⟩
    first|rfl|(unfold smI;rw [e];simp)
   ·have e:=ld_t hv
    go_wp2
    refine ⟨⟨stA HB.out _,Or.inr (Or.inr (Or.inr ⟨rfl,?_⟩))⟩,by decide⟩
    first|rfl|(unfold smI;rw [e])|(unfold smI;rw [e];simp)
  ·go_wp2
   go_ret
   exact ⟨rfl,HB.out⟩
end Go.Proofs.YtbennamieealbaaGreatDoor
