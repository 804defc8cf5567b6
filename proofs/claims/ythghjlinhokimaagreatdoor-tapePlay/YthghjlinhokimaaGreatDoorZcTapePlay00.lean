/-
  Parts of a proof, joined.
-/
import Derived.Test.YthghjlinhokimaaGreatDoorZcA
import Derived.Test.YthghjlinhokimaaGreatDoorZc04
set_option linter.all false
set_option maxRecDepth 100000
set_option maxHeartbeats 3200000
namespace Go.Proofs.YthghjlinhokimaaGreatDoor
open Go.ChangeShapes Go.WideShapes Go.ChangeAt Go.RowKit Go.Proofs.Tryz
def Tp.lts:List UInt8:=[117,100,108,114,97,98,115,116]
def Tp.lt(i:Nat):UInt8:=Tp.lts.getD i 0
def Tp.bt(d i:Nat):UInt8:=if d/2 ^ (7-i)%2=0 then 46 else Tp.lt i
def Tp.btn(d:Nat):List UInt8:=[Tp.bt d 0,Tp.bt d 1,Tp.bt d 2,Tp.bt d 3,Tp.bt d 4,Tp.bt d 5,Tp.bt d 6,Tp.bt d 7]
def Tp.ofb(l:List UInt8):Option Nat:=(List.range 256).find? (λd=>Tp.btn d == l)
theorem zdk(d:Nat):(Tp.btn d).length=8:=rfl
theorem zj9(d i:Nat)(h:i<8):(Tp.btn d)[i]?=some (Tp.bt d i):=by
 match i,h with
 | 0,_=>rfl
 | 1,_=>rfl
 | 2,_=>rfl
 | 3,_=>rfl
 | 4,_=>rfl
 | 5,_=>rfl
 | 6,_=>rfl
 | 7,_=>rfl
def Tp.un(l:List UInt8):Nat:=l.foldl (λa c=>2*a+(if c=46 then 0 else 1)) 0
theorem zka:∀ d:Fin 256,Tp.un (Tp.btn d.1)=d.1:=by decide +kernel
theorem zpo{d e:Nat}(a:d<256)(b:e<256)(h:Tp.btn d=Tp.btn e):d=e:=by
 have h1:=zka ⟨d,a⟩;have h2:=zka ⟨e,b⟩;simp only at h1 h2;rw[<- h1,<- h2,h]
theorem zhq{d:Nat}(h:d<256):Tp.ofb (Tp.btn d)=some d:=by
 unfold Tp.ofb;cases a:(List.range 256).find? (λe=>Tp.btn e == Tp.btn d) with
 | none =>
  have:=dJ.1 a d (du.2 h);simp at this
 | some e =>
  have h1:=jy a;have h2:=du.1 (dP a);have h3:e=d:=zpo h2 h (by simpa using h1);rw[h3]
theorem zfW{l:List UInt8}{d:Nat}(h:Tp.ofb l=some d):d<256/\Tp.btn d=l :=
 ⟨du.1 (dP h),by simpa using jy h⟩
theorem zkb{l:List UInt8}(h:∀ d,d<256->Tp.btn d≠l):Tp.ofb l=none :=
 dJ.2 λd a=>by simpa using h d (du.1 a)
theorem zpp:∀ i:Fin 8,∀ d:Fin 256,d.1%2 ^ (8-i.1)=0->bits .or .u8 (d.1:Int) ((128/2 ^ i.1:Nat):Int)=((d.1+128/2 ^ i.1:Nat):Int)/\d.1+128/2 ^ i.1<256/\(d.1+128/2 ^ i.1)%2 ^ (7-i.1)=0/\Tp.bt (d.1+128/2 ^ i.1) i.1=Tp.lt i.1/\Tp.bt d.1 i.1=46/\d.1%2 ^ (7-i.1)=0 /\ ∀ j:Fin 8,j.1<i.1->Tp.bt (d.1+128/2 ^ i.1) j.1=Tp.bt d.1 j.1:=by decide +kernel
theorem zpq:∀ i:Fin 8,∀ d:Fin 256,(bits .and .u8 (d.1:Int) ((128/2 ^ i.1:Nat):Int) == 0)=(Tp.bt d.1 i.1 == 46)/\((bits .and .u8 (d.1:Int) ((128/2 ^ i.1:Nat):Int) == 0)=false->Tp.bt d.1 i.1=Tp.lt i.1):=by decide +kernel
theorem zsj(d i:Nat):Tp.bt d i=46 \/ Tp.bt d i=Tp.lt i:=by unfold Tp.bt;split <;> simp
structure Tp.Row (W : World) (b : Nat) (L : List Value) : Prop where
 z:b<W.heap.size
 c:W.rangeAt b 0 L
 f:∀ o,o<L.length->W.frozen? ⟨b,o,none⟩=false
theorem Tp.Row.at{W:World}{b:Nat}{L:List Value}(h:Tp.Row W b L)(i:Nat)(v:Value)(e:L[i]?=some v):W.cell? ⟨b,i,none⟩=some v:=by have:=h.c i v e;rwa [aN] at this
theorem Tp.Row.set{W:World}{b:Nat}{L:List Value}(h:Tp.Row W b L)(i:Nat)(v:Value)(hi:i<L.length):Tp.Row (W.setCell ⟨b,i,none⟩ v) b (L.set i v):=by
 refine⟨by simpa using h.z,λj x a=>?_,λo c=>by simpa using h.f o (by simpa using c)⟩;rw[aN];by_cases e:i=j
 ·subst e
  rw[dB hi] at a;have d:(W.cell? ⟨b,i,none⟩).isSome:=by rw[h.at i _ (au hi)];rfl
  rw[<- a];exact fs _ _ _ d
 ·rw[fh e] at a
  exact(az _ _ _ _ (by intro x;exact e (congrArg Addr.off x))).trans (h.at j x a)
def Tp.pre(d j:Nat):List UInt8:=(Tp.btn d).take j++Tp.lts.drop j
theorem zhr(d j:Nat):(Tp.pre d j).length=8:=by
 unfold Tp.pre;rw[aC,bu,dh,zdk,show Tp.lts.length=8 from U];omega
theorem zdF:∀ j:Fin 8,∀ d:Fin 256,Tp.pre d.1 (j.1+1)=(Tp.pre d.1 j.1).set j.1 (Tp.bt d.1 j.1)/\(Tp.pre d.1 j.1)[j.1]?=some (Tp.lt j.1):=by decide +kernel
theorem zuv(d:Nat):Tp.pre d 8=Tp.btn d:=by
 unfold Tp.pre;rw[cD (by rw[zdk];exact ak _),show Tp.lts.drop 8=[] from U,bZ]
theorem Tp.eight{i:Nat}(h:i<8):i=0 \/ i=1 \/ i=2 \/ i=3 \/ i=4 \/ i=5 \/ i=6 \/ i=7:=by omega
theorem zeH(i:Nat)(h:i<8)(w:World):Calls prog 231 #[.int .i64 i] w λe w'=>e=.returned (.int .u8 ((128/2 ^ i:Nat):Int))/\w=w':=by
 rcases Tp.eight h with rfl|rfl|rfl|rfl|rfl|rfl|rfl|rfl
 all_goals
  go_enter func231,ntmps231;go_wp2;go_ret;exact⟨U,U⟩
def Tp.W0(w:World):World:=(w.alloc (.cells (dW Tp.lts).toArray 5)).freeze ⟨w.heap.size,8,none⟩ 1
theorem zkc(w:World):(convert 26 26 (.slice (some ⟨w.heap.size,0,none⟩) 8 8)).run prog (w.alloc (.cells (dW Tp.lts).toArray 5))=.ok (.slice (some ⟨w.heap.size,0,none⟩) 8 8) (Tp.W0 w):=by
 have a:(w.alloc (.cells (dW Tp.lts).toArray 5)).shape? w.heap.size=some (5,8):=by
  simp[World.shape?,World.alloc,-World.alloc_eq];exact U
 simp[convert,bT underlying26,bT underlying5,markStringish,a,Result.andThen];rfl
theorem zfX(w:World):(Tp.W0 w).heap[w.heap.size]?=some (.cells (dW Tp.lts).toArray 5 (8,9)):=by
 simp[Tp.W0,World.freeze,World.alloc,-World.alloc_eq];rw[lJ];simp
theorem zml(w:World):Below w.heap.size w (Tp.W0 w) :=
 Lib.below_freeze (stA (J w) _) (p:=⟨w.heap.size,_,none⟩) (ak _) 1
theorem zsk(w:World):Tp.Row (Tp.W0 w) w.heap.size (dW Tp.lts):=by
 refine⟨?_,λj v a=>?_,λo b=>?_⟩
 ·have:=(ay.1 (zfX w)).1
  exact this
 ·rw[aN]
  simp only[World.cell?,zfX w]
  simpa using a
 ·have c:o<8:=b
  simp only[World.frozen?,zfX w];simp;omega
theorem zmm{l:List UInt8}{i:Nat}{x:UInt8}(h:l[i]?=some x):l.set i x=l:=by
 obtain⟨hi,e⟩:=aA.1 h;rw[<- e];exact List.set_getElem_self hi
theorem zgs(d:Nat)(p:d<256)(w:World):Calls prog 173 #[.int .u8 d] w λe w'=>e=.returned (.string (mk (Tp.btn d)))/\Below w.heap.size w w':=by
 have t:=zkc w;have u:Hid (Tp.Row (Tp.W0 w) w.heap.size (dW (Tp.pre d 0))):=hid (zsk w);have v:=hid (zml w);generalize Tp.W0 w=w0 at *
 change (convert _ _ _).run _ (w.alloc (.cells #[.int .u8 117,.int .u8 100,.int .u8 108,.int .u8 114,.int .u8 97,.int .u8 98,.int .u8 115,.int .u8 116] _))=_ at t
 go_enter func173,ntmps173;go_wp2;go_loopw [7] (λi wr=>∃ j:Nat,j<=8/\i=.int .i64 j/\Tp.Row wr w.heap.size (dW (Tp.pre d j))/\Below w.heap.size w wr) (λi _=>8-(intOf i).toNat)
 case atStart=>exact⟨0,by omega,U,u.out,v.out⟩
 case round =>
  obtain⟨j,I,rfl,b,hb⟩:=hrel;have r:=hid b;have l:=hid hb;by_cases a:j<8
  ·have x:(j:Int)<8:=by omega
   have y:(0:Int)<=j:=by omega
   have L:=b.z;have B:=hb.size;obtain⟨an,g⟩:=zpq ⟨j,a⟩ ⟨d,p⟩;simp only at an g;have E:=b.f j (by unfold dW;rw[ba,zhr];exact a);have F:=b.at j (.int .u8 (Tp.lt j).toNat) (by unfold dW;rw[aX,(zdF ⟨j,a⟩ ⟨d,p⟩).2];rfl);have s:=hid (zdF ⟨j,a⟩ ⟨d,p⟩).1;by_cases m:Tp.bt d j=46
   ·have h:(bits .and .u8 (d:Int) ((128/2 ^ j:Nat):Int) == 0)=true:=by rw[an,m];rfl
    generalize n:((128/2 ^ j:Nat):Int)=k at *;clear b hb an g;go_wp2_with (go_at_call 231;refine(zeH j a _).mono ?_;rw[n];rintro e w1 ⟨rfl,rfl⟩)
    refine⟨⟨j+1,by omega,by simp,?_,?_⟩,by simp[intOf];omega⟩
    ·have:=r.out.set j (.int .u8 46) (by unfold dW;rw[ba,zhr];exact a)
     rw[s.out,m];unfold dW at this ⊢;rw[kB];exact this
    ·exact Pl.below (ak _) [.int .u8 46] j wr l.out
   ·have h:(bits .and .u8 (d:Int) ((128/2 ^ j:Nat):Int) == 0)=false:=by rw[an];simpa using m
    have o:=g h;generalize n:((128/2 ^ j:Nat):Int)=k at *;clear b hb an g;go_wp2_with (go_at_call 231;refine(zeH j a _).mono ?_;rw[n];rintro e w1 ⟨rfl,rfl⟩)
    refine⟨⟨j+1,by omega,by simp,?_,l.out⟩,by simp[intOf];omega⟩;rw[s.out,o,zmm (zdF ⟨j,a⟩ ⟨d,p⟩).2];exact r.out
  ·have q:j=8:=by omega
   subst q;have cs:sliceAt wr (.slice (some ⟨w.heap.size,0,none⟩) 8 8) (Tp.btn d):=Or.inr ⟨w.heap.size,0,8,U,ak _,b.z,λk c n=>by rw[aN];exact b.at k _ (by rw[zuv];unfold dW;rw[aX,n];rfl)⟩;have H:=zh5 cs;clear b hb;go_wp2;go_ret;exact⟨U,l.out⟩
theorem zpr{l:List UInt8}{i:Nat}(hi:i<8){c:UInt8}(hc:l[i]?=some c)(h1:c≠46)(h2:c≠Tp.lt i):Tp.ofb l=none :=
 zkb λd _ e=>by
  rw[<- e,zj9 d i hi] at hc;rcases zsj d i with h|h
  ·exact h1 ((aH hc).symm.trans h)
  ·exact h2 ((aH hc).symm.trans h)
theorem zps{l:List UInt8}(h:l.length≠8):Tp.ofb l=none:=zkb λd _ e=>h (by rw[<- e];rfl)
theorem zpt{l:List UInt8}{d:Nat}(c:l.length=8)(b:d<256)(h:∀ j,j<8->l[j]?=some (Tp.bt d j)):Tp.ofb l=some d:=by
 have:l=Tp.btn d:=iS λj=>by
  by_cases a:j<8
  ·rw[h j a,zj9 d j a]
  ·rw[cI (by omega),cI (by rw[zdk];omega)]
 rw[this,zhq b]
def Tp.ofbN(l:List UInt8):Int:=((Tp.ofb l).getD 0:Nat)
def Tp.ofbE(l:List UInt8):Int:=if (Tp.ofb l).isSome then 0 else 1
theorem zuw{l:List UInt8}{i:Nat}{c:UInt8}(h:l[i]?=some c):∀ a,(mk l)[i]'a=c:=by
 intro a;have b:i<l.length:=a;rw[au b] at h;exact aH h
theorem zkd{a b:UInt8}(h:a≠b):¬ (a.toNat:Int)=b.toNat:=λe=>h (jv.1 (by omega))
theorem zcG(l:List UInt8)(w:World):Calls prog 171 #[.string (mk l)] w λe w'=>e=.returned (.tuple #[.int .u8 (Tp.ofbN l),.int .i64 (Tp.ofbE l)])/\w=w':=by
 by_cases x:l.length=8
 ·have H:(mk l).size=8:=x
  go_enter func171,ntmps171;go_wp2;go_loopw [9,4] (λi dn wr=>∃(j d:Nat),j<=8/\i=.int .i64 j/\dn=.int .u8 d/\d<256/\d%2 ^ (8-j)=0/\(∀ k,k<j->l[k]?=some (Tp.bt d k))/\w=wr) (λi _ _=>8-(intOf i).toNat)
  case atStart=>exact⟨0,0,by omega,U,U,by omega,by omega,λk o=>absurd o (by omega),U⟩
  case round =>
   obtain⟨j,d,R,rfl,rfl,y,g,o,rfl⟩:=hrel;have z:=hid o;clear o;by_cases f:j<8
   ·obtain⟨c,hc⟩:∃ c,l[j]?=some c:=⟨_,au (by omega)⟩
    have I:(j:Int)<8:=by omega
    have L:(0:Int)<=j:=by omega
    have M:=zuw hc;obtain⟨o1,o2,p,r,s,t,B⟩:=zpp ⟨j,f⟩ ⟨d,y⟩ g;simp only at o1 o2 p r s t B;have E:=hid hc;have N:=hid B;clear hc B;have m:d%2 ^ (8-(j+1))=0:=by rw[show 8-(j+1)=7-j by omega];exact t
    by_cases h1:c=Tp.lt j
    ·have u:(d+128/2 ^ j)%2 ^ (8-(j+1))=0:=by rw[show 8-(j+1)=7-j by omega];exact p
     have b:Hid (∀ k,k<j+1->l[k]?=some (Tp.bt (d+128/2 ^ j) k)):=λk o=>by
      by_cases e:k=j
      ·subst e;rw[E.out,r,h1]
      ·rw[N.out ⟨k,by omega⟩ (by simp only;omega)];exact z.out k (by omega)
     generalize v:128/2 ^ j=q at *;clear p r s t g m;subst h1;rcases Tp.eight f with rfl|rfl|rfl|rfl|rfl|rfl|rfl|rfl
     all_goals
      go_wp2_with (go_at_call 231;refine(zeH _ f _).mono ?_;rw[v];rintro e w1 ⟨rfl,rfl⟩)
      exact⟨⟨_,d+q,by omega,by simp,U,o2,u,b.out,(by first|rfl|trivial)⟩,by simp[intOf]⟩
    ·by_cases h2:c=46
     ·subst h2
      have b:Hid (∀ k,k<j+1->l[k]?=some (Tp.bt d k)):=λk o=>by
       by_cases e:k=j
       ·subst e;rw[E.out,s]
       ·exact z.out k (by omega)
      clear o1 o2 p r s t g;rcases Tp.eight f with rfl|rfl|rfl|rfl|rfl|rfl|rfl|rfl
      all_goals
       go_wp2;exact⟨⟨_,d,by omega,by simp,U,y,m,b.out,(by first|rfl|trivial)⟩,by simp[intOf]⟩
     ·have e:=zpr f E.out h2 h1
      have e1:Tp.ofbN l=0:=by unfold Tp.ofbN;rw[e];rfl
      have e2:Tp.ofbE l=1:=by unfold Tp.ofbE;rw[e];rfl
      have a:=hid (And.intro e1 e2);have h3:=zkd h1;have h4:¬ (c.toNat:Int)=46:=zkd h2;clear e e1 e2 o1 o2 p r s t g m h1 h2;rcases Tp.eight f with rfl|rfl|rfl|rfl|rfl|rfl|rfl|rfl
      ·change ¬ (c.toNat:Int)=117 at h3
       have n:∀ h,(⟨#[117,100,108,114,97,98,115,116]⟩:ByteArray)[0]'h=117:=λ_=>U
       go_wp2
       go_ret2
       rw[a.out.1,a.out.2];exact⟨U,U⟩
      ·change ¬ (c.toNat:Int)=100 at h3
       have n:∀ h,(⟨#[117,100,108,114,97,98,115,116]⟩:ByteArray)[1]'h=100:=λ_=>U
       go_wp2
       go_ret2
       rw[a.out.1,a.out.2];exact⟨U,U⟩
      ·change ¬ (c.toNat:Int)=108 at h3
       have n:∀ h,(⟨#[117,100,108,114,97,98,115,116]⟩:ByteArray)[2]'h=108:=λ_=>U
       go_wp2
       go_ret2
       rw[a.out.1,a.out.2];exact⟨U,U⟩
      ·change ¬ (c.toNat:Int)=114 at h3
       have n:∀ h,(⟨#[117,100,108,114,97,98,115,116]⟩:ByteArray)[3]'h=114:=λ_=>U
       go_wp2
       go_ret2
       rw[a.out.1,a.out.2];exact⟨U,U⟩
      ·change ¬ (c.toNat:Int)=97 at h3
       have n:∀ h,(⟨#[117,100,108,114,97,98,115,116]⟩:ByteArray)[4]'h=97:=λ_=>U
       go_wp2
       go_ret2
       rw[a.out.1,a.out.2];exact⟨U,U⟩
      ·change ¬ (c.toNat:Int)=98 at h3
       have n:∀ h,(⟨#[117,100,108,114,97,98,115,116]⟩:ByteArray)[5]'h=98:=λ_=>U
       go_wp2
       go_ret2
       rw[a.out.1,a.out.2];exact⟨U,U⟩
      ·change ¬ (c.toNat:Int)=115 at h3
       have n:∀ h,(⟨#[117,100,108,114,97,98,115,116]⟩:ByteArray)[6]'h=115:=λ_=>U
       go_wp2
       go_ret2
       rw[a.out.1,a.out.2];exact⟨U,U⟩
      ·change ¬ (c.toNat:Int)=116 at h3
       have n:∀ h,(⟨#[117,100,108,114,97,98,115,116]⟩:ByteArray)[7]'h=116:=λ_=>U
       go_wp2
       go_ret2
       rw[a.out.1,a.out.2];exact⟨U,U⟩
   ·have F:j=8:=by omega
    subst F;have e:=zpt x y z.out;have e1:Tp.ofbN l=d:=by unfold Tp.ofbN;rw[e];rfl
    have e2:Tp.ofbE l=0:=by unfold Tp.ofbE;rw[e];rfl
    have a:=hid (And.intro e1 e2);clear e e1 e2;go_wp2
    go_ret2
    rw[a.out.1,a.out.2];exact⟨U,U⟩
 ·have H:¬ (mk l).size=8:=x
  have P:((mk l).size:Int)≠8:=by omega
  unfold Tp.ofbN Tp.ofbE;rw[zps x];go_enter func171,ntmps171;go_wp2
  go_ret2
  exact⟨U,U⟩
end Go.Proofs.YthghjlinhokimaaGreatDoor
