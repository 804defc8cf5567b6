/-
  Parts of a proof, joined.
-/
import Derived.Test.YthghjlinhokimaaGreatDoorZbA
import Derived.Test.YthghjlinhokimaaGreatDoorZb04
set_option linter.all false
set_option maxRecDepth 100000
set_option maxHeartbeats 3200000
open Option renaming none->G,some->A
open Go renaming World->u,Value->π,Calls->Δ,convert->qW
open Go.Act renaming put->ag
open Go.Value renaming int->J,slice->κ
open Go.Ending renaming returned->μ
open Go.Obj renaming cells->χ
open Go.IntKind renaming u8->au
namespace Go.Proofs.YthghjlinhokimaaGreatDoor
open Go.ChangeShapes Go.WideShapes Go.ChangeAt Go.RowKit Go.Proofs.Tryz
def Tp.lts:List UInt8:=[117,100,108,114,97,98,115,116]
def Tp.lt(i:Nat):UInt8:=Tp.lts.getD i 0
def Tp.bt(d i:Nat):UInt8:=if d/2 ^ (7-i)%2=0 then 46 else Tp.lt i
def Tp.btn(d:Nat):List UInt8:=[Tp.bt d 0,Tp.bt d 1,Tp.bt d 2,Tp.bt d 3,Tp.bt d 4,Tp.bt d 5,Tp.bt d 6,Tp.bt d 7]
def Tp.ofb(l:List UInt8):Option Nat:=(List.range 256).find? (λd=>Tp.btn d == l)
theorem zdM(d:Nat):(Tp.btn d).length=8:=rfl
theorem zlT(d i:Nat)(h:i<8):(Tp.btn d)[i]?=A (Tp.bt d i):=by
 match i,h with
 | 0,_=>rfl
 | 1,_=>rfl
 | 2,_=>rfl
 | 3,_=>rfl
 | 4,_=>rfl
 | 5,_=>rfl
 | 6,_=>rfl
 | 7,_=>rfl
def Tp.un(l:List UInt8):Nat:=l.foldl (λa c=>2*a+(if c=46 then 0 else 1)) 0
theorem zlU:∀ d:Fin 256,Tp.un (Tp.btn d.1)=d.1:=by decide +kernel
theorem zrX{d e:Nat}(a:d<256)(b:e<256)(h:Tp.btn d=Tp.btn e):d=e:=by
 have h1:=zlU ⟨d,a⟩;have h2:=zlU ⟨e,b⟩;simp only at h1 h2;rw[<- h1,<- h2,h]
theorem ziJ{d:Nat}(h:d<256):Tp.ofb (Tp.btn d)=A d:=by
 unfold Tp.ofb;cases a:(List.range 256).find? (λe=>Tp.btn e == Tp.btn d) with
 | none =>
  have:=gG.1 a d (fI.2 h);simp at this
 | some e =>
  have h1:=mU a;have h2:=fI.1 (gN a);have h3:e=d:=zrX h2 h (by simpa using h1);rw[h3]
theorem zgC{l:List UInt8}{d:Nat}(h:Tp.ofb l=A d):d<256/\Tp.btn d=l :=
 ⟨fI.1 (gN h),by simpa using mU h⟩
theorem zlV{l:List UInt8}(h:∀ d,d<256->Tp.btn d≠l):Tp.ofb l=G :=
 gG.2 λd a=>by simpa using h d (fI.1 a)
theorem zrY:∀ i:Fin 8,∀ d:Fin 256,d.1%2 ^ (8-i.1)=0->bits .or au (d.1:Int) ((128/2 ^ i.1:Nat):Int)=((d.1+128/2 ^ i.1:Nat):Int)/\d.1+128/2 ^ i.1<256/\(d.1+128/2 ^ i.1)%2 ^ (7-i.1)=0/\Tp.bt (d.1+128/2 ^ i.1) i.1=Tp.lt i.1/\Tp.bt d.1 i.1=46/\d.1%2 ^ (7-i.1)=0 /\ ∀ j:Fin 8,j.1<i.1->Tp.bt (d.1+128/2 ^ i.1) j.1=Tp.bt d.1 j.1:=by decide +kernel
theorem zrZ:∀ i:Fin 8,∀ d:Fin 256,(bits .and au (d.1:Int) ((128/2 ^ i.1:Nat):Int) == 0)=(Tp.bt d.1 i.1 == 46)/\((bits .and au (d.1:Int) ((128/2 ^ i.1:Nat):Int) == 0)=false->Tp.bt d.1 i.1=Tp.lt i.1):=by decide +kernel
theorem zuU(d i:Nat):Tp.bt d i=46 \/ Tp.bt d i=Tp.lt i:=by unfold Tp.bt;split <;> simp
structure Tp.Row (W : u) (b : Nat) (L : List π) : Prop where
 z:b<W.heap.size
 c:W.rangeAt b 0 L
 f:∀ o,o<L.length->W.frozen? ⟨b,o,G⟩=false
theorem Tp.Row.at{W:u}{b:Nat}{L:List π}(h:Tp.Row W b L)(i:Nat)(v:π)(e:L[i]?=A v):W.cell? ⟨b,i,G⟩=A v:=by have:=h.c i v e;rwa [aX] at this
theorem Tp.Row.set{W:u}{b:Nat}{L:List π}(h:Tp.Row W b L)(i:Nat)(v:π)(hi:i<L.length):Tp.Row (W.setCell ⟨b,i,G⟩ v) b (L.set i v):=by
 refine⟨by simpa using h.z,λj x a=>?_,λo c=>by simpa using h.f o (by simpa using c)⟩;rw[aX];by_cases e:i=j
 ·subst e
  rw[gq hi] at a;have d:(W.cell? ⟨b,i,G⟩).isSome:=by rw[h.at i _ (aq hi)];rfl
  rw[<- a];exact jd _ _ _ d
 ·rw[iW e] at a
  exact(ap _ _ _ _ (by intro x;exact e (congrArg Addr.off x))).trans (h.at j x a)
def Tp.pre(d j:Nat):List UInt8:=(Tp.btn d).take j++Tp.lts.drop j
theorem ziK(d j:Nat):(Tp.pre d j).length=8:=by
 unfold Tp.pre;rw[az,bD,cW,zdM,show Tp.lts.length=8 from D];omega
theorem zd7:∀ j:Fin 8,∀ d:Fin 256,Tp.pre d.1 (j.1+1)=(Tp.pre d.1 j.1).set j.1 (Tp.bt d.1 j.1)/\(Tp.pre d.1 j.1)[j.1]?=A (Tp.lt j.1):=by decide +kernel
theorem zxi(d:Nat):Tp.pre d 8=Tp.btn d:=by
 unfold Tp.pre;rw[dY (by rw[zdM];exact ψ _),show Tp.lts.drop 8=[] from D,cH]
theorem Tp.eight{i:Nat}(h:i<8):i=0 \/ i=1 \/ i=2 \/ i=3 \/ i=4 \/ i=5 \/ i=6 \/ i=7:=by omega
theorem zfg(i:Nat)(h:i<8)(w:u):Δ prog 231 #[J .i64 i] w λe w'=>e=μ (J au ((128/2 ^ i:Nat):Int))/\w=w':=by
 rcases Tp.eight h with rfl|rfl|rfl|rfl|rfl|rfl|rfl|rfl
 all_goals
  go_enter func231,ntmps231;go_wp2;go_ret;exact⟨D,D⟩
def Tp.W0(w:u):u:=(w.alloc (χ (gJ Tp.lts).toArray 5)).freeze ⟨w.heap.size,8,G⟩ 1
theorem zlW(w:u):(qW 26 26 (κ (A ⟨w.heap.size,0,G⟩) 8 8)).run prog (w.alloc (χ (gJ Tp.lts).toArray 5))=.ok (κ (A ⟨w.heap.size,0,G⟩) 8 8) (Tp.W0 w):=by
 have a:(w.alloc (χ (gJ Tp.lts).toArray 5)).shape? w.heap.size=A (5,8):=by
  simp[World.shape?,World.alloc,-World.alloc_eq];exact D
 simp[qW,cQ underlying26,cQ underlying5,markStringish,a,Result.andThen];rfl
theorem zgD(w:u):(Tp.W0 w).heap[w.heap.size]?=A (χ (gJ Tp.lts).toArray 5 (8,9)):=by
 simp[Tp.W0,World.freeze,World.alloc,-World.alloc_eq];rw[qk];simp
theorem zow(w:u):Below w.heap.size w (Tp.W0 w) :=
 Lib.below_freeze (stA (aR w) _) (p:=⟨w.heap.size,_,G⟩) (ψ _) 1
theorem zuV(w:u):Tp.Row (Tp.W0 w) w.heap.size (gJ Tp.lts):=by
 refine⟨?_,λj v a=>?_,λo b=>?_⟩
 ·have:=(aa.1 (zgD w)).1
  exact this
 ·rw[aX]
  simp only[World.cell?,zgD w]
  simpa using a
 ·have c:o<8:=b
  simp only[World.frozen?,zgD w];simp;omega
theorem zox{l:List UInt8}{i:Nat}{x:UInt8}(h:l[i]?=A x):l.set i x=l:=by
 obtain⟨hi,e⟩:=ay.1 h;rw[<- e];exact List.set_getElem_self hi
theorem zhg(d:Nat)(p:d<256)(w:u):Δ prog 173 #[J au d] w λe w'=>e=μ (.string (mk (Tp.btn d)))/\Below w.heap.size w w':=by
 have t:=zlW w;have v:Hid (Tp.Row (Tp.W0 w) w.heap.size (gJ (Tp.pre d 0))):=hid (zuV w);have x:=hid (zow w);generalize Tp.W0 w=w0 at *
 change (qW _ _ _).run _ (w.alloc (χ #[J au 117,J au 100,J au 108,J au 114,J au 97,J au 98,J au 115,J au 116] _))=_ at t
 go_enter func173,ntmps173;go_wp2;go_loopw [7] (λi wr=>∃ j:Nat,j<=8/\i=J .i64 j/\Tp.Row wr w.heap.size (gJ (Tp.pre d j))/\Below w.heap.size w wr) (λi _=>8-(intOf i).toNat)
 case atStart=>exact⟨0,by omega,D,v.out,x.out⟩
 case round =>
  obtain⟨j,L,rfl,b,hb⟩:=hrel;have r:=hid b;have l:=hid hb;by_cases a:j<8
  ·have y:(j:Int)<8:=by omega
   have B:(0:Int)<=j:=by omega
   have M:=b.z;have E:=hb.size;obtain⟨an,g⟩:=zrZ ⟨j,a⟩ ⟨d,p⟩;simp only at an g;have F:=b.f j (by unfold gJ;rw[bf,ziK];exact a);have H:=b.at j (J au (Tp.lt j).toNat) (by unfold gJ;rw[bn,(zd7 ⟨j,a⟩ ⟨d,p⟩).2];rfl);have s:=hid (zd7 ⟨j,a⟩ ⟨d,p⟩).1;by_cases m:Tp.bt d j=46
   ·have h:(bits .and au (d:Int) ((128/2 ^ j:Nat):Int) == 0)=true:=by rw[an,m];rfl
    generalize n:((128/2 ^ j:Nat):Int)=k at *;clear b hb an g;go_wp2_with (go_at_call 231;refine(zfg j a _).mono ?_;rw[n];rintro e w1 ⟨rfl,rfl⟩)
    refine⟨⟨j+1,by omega,by simp,?_,?_⟩,by simp[intOf];omega⟩
    ·have:=r.out.set j (J au 46) (by unfold gJ;rw[bf,ziK];exact a)
     rw[s.out,m];unfold gJ at this ⊢;rw[oJ];exact this
    ·exact Pl.below (ψ _) [J au 46] j wr l.out
   ·have h:(bits .and au (d:Int) ((128/2 ^ j:Nat):Int) == 0)=false:=by rw[an];simpa using m
    have o:=g h;generalize n:((128/2 ^ j:Nat):Int)=k at *;clear b hb an g;go_wp2_with (go_at_call 231;refine(zfg j a _).mono ?_;rw[n];rintro e w1 ⟨rfl,rfl⟩)
    refine⟨⟨j+1,by omega,by simp,?_,l.out⟩,by simp[intOf];omega⟩;rw[s.out,o,zox (zd7 ⟨j,a⟩ ⟨d,p⟩).2];exact r.out
  ·have q:j=8:=by omega
   subst q;have cs:sliceAt wr (κ (A ⟨w.heap.size,0,G⟩) 8 8) (Tp.btn d):=Or.inr ⟨w.heap.size,0,8,D,ψ _,b.z,λk c n=>by rw[aX];exact b.at k _ (by rw[zxi];unfold gJ;rw[bn,n];rfl)⟩;have I:=zju cs;clear b hb;go_wp2;go_ret;exact⟨D,l.out⟩
theorem zr0{l:List UInt8}{i:Nat}(hi:i<8){c:UInt8}(hc:l[i]?=A c)(h1:c≠46)(h2:c≠Tp.lt i):Tp.ofb l=G :=
 zlV λd _ e=>by
  rw[<- e,zlT d i hi] at hc;rcases zuU d i with h|h
  ·exact h1 ((aL hc).symm.trans h)
  ·exact h2 ((aL hc).symm.trans h)
theorem zr1{l:List UInt8}(h:l.length≠8):Tp.ofb l=G:=zlV λd _ e=>h (by rw[<- e];rfl)
theorem zr2{l:List UInt8}{d:Nat}(c:l.length=8)(b:d<256)(h:∀ j,j<8->l[j]?=A (Tp.bt d j)):Tp.ofb l=A d:=by
 have:l=Tp.btn d:=lQ λj=>by
  by_cases a:j<8
  ·rw[h j a,zlT d j a]
  ·rw[ex (by omega),ex (by rw[zdM];omega)]
 rw[this,ziJ b]
def Tp.ofbN(l:List UInt8):Int:=((Tp.ofb l).getD 0:Nat)
def Tp.ofbE(l:List UInt8):Int:=if (Tp.ofb l).isSome then 0 else 1
theorem zxj{l:List UInt8}{i:Nat}{c:UInt8}(h:l[i]?=A c):∀ a,(mk l)[i]'a=c:=by
 intro a;have b:i<l.length:=a;rw[aq b] at h;exact aL h
theorem zlX{a b:UInt8}(h:a≠b):¬ (a.toNat:Int)=b.toNat:=λe=>h (mS.1 (by omega))
theorem zc6(l:List UInt8)(w:u):Δ prog 171 #[.string (mk l)] w λe w'=>e=μ (.tuple #[J au (Tp.ofbN l),J .i64 (Tp.ofbE l)])/\w=w':=by
 by_cases v:l.length=8
 ·have F:(mk l).size=8:=v
  go_enter func171,ntmps171;go_wp2;go_loopw [9,4] (λi dn wr=>∃(j d:Nat),j<=8/\i=J .i64 j/\dn=J au d/\d<256/\d%2 ^ (8-j)=0/\(∀ k,k<j->l[k]?=A (Tp.bt d k))/\w=wr) (λi _ _=>8-(intOf i).toNat)
  case atStart=>exact⟨0,0,by omega,D,D,by omega,by omega,λk o=>absurd o (by omega),D⟩
  case round =>
   obtain⟨j,d,P,rfl,rfl,x,g,o,rfl⟩:=hrel;have y:=hid o;clear o;by_cases f:j<8
   ·obtain⟨c,hc⟩:∃ c,l[j]?=A c:=⟨_,aq (by omega)⟩
    have H:(j:Int)<8:=by omega
    have I:(0:Int)<=j:=by omega
    have L:=zxj hc;obtain⟨o1,o2,o3,o4,p,r,z⟩:=zrY ⟨j,f⟩ ⟨d,x⟩ g;simp only at o1 o2 o3 o4 p r z;have B:=hid hc;have M:=hid z;clear hc z;have m:d%2 ^ (8-(j+1))=0:=by rw[show 8-(j+1)=7-j by omega];exact r
    by_cases h1:c=Tp.lt j
    ·have s:(d+128/2 ^ j)%2 ^ (8-(j+1))=0:=by rw[show 8-(j+1)=7-j by omega];exact o3
     have b:Hid (∀ k,k<j+1->l[k]?=A (Tp.bt (d+128/2 ^ j) k)):=λk o=>by
      by_cases e:k=j
      ·subst e;rw[B.out,o4,h1]
      ·rw[M.out ⟨k,by omega⟩ (by simp only;omega)];exact y.out k (by omega)
     generalize t:128/2 ^ j=q at *;clear o3 o4 p r g m;subst h1;rcases Tp.eight f with rfl|rfl|rfl|rfl|rfl|rfl|rfl|rfl
     all_goals
      go_wp2_with (go_at_call 231;refine(zfg _ f _).mono ?_;rw[t];rintro e w1 ⟨rfl,rfl⟩)
      exact⟨⟨_,d+q,by omega,by simp,D,o2,s,b.out,(by first|rfl|trivial)⟩,by simp[intOf]⟩
    ·by_cases h2:c=46
     ·subst h2
      have b:Hid (∀ k,k<j+1->l[k]?=A (Tp.bt d k)):=λk o=>by
       by_cases e:k=j
       ·subst e;rw[B.out,p]
       ·exact y.out k (by omega)
      clear o1 o2 o3 o4 p r g;rcases Tp.eight f with rfl|rfl|rfl|rfl|rfl|rfl|rfl|rfl
      all_goals
       go_wp2;exact⟨⟨_,d,by omega,by simp,D,x,m,b.out,(by first|rfl|trivial)⟩,by simp[intOf]⟩
     ·have e:=zr0 f B.out h2 h1
      have e1:Tp.ofbN l=0:=by unfold Tp.ofbN;rw[e];rfl
      have e2:Tp.ofbE l=1:=by unfold Tp.ofbE;rw[e];rfl
      have a:=hid (And.intro e1 e2);have h3:=zlX h1;have h4:¬ (c.toNat:Int)=46:=zlX h2;clear e e1 e2 o1 o2 o3 o4 p r g m h1 h2;rcases Tp.eight f with rfl|rfl|rfl|rfl|rfl|rfl|rfl|rfl
      ·change ¬ (c.toNat:Int)=117 at h3
       have n:∀ h,(⟨#[117,100,108,114,97,98,115,116]⟩:ByteArray)[0]'h=117:=λ_=>D
       go_wp2
       go_ret2
       rw[a.out.1,a.out.2];exact⟨D,D⟩
      ·change ¬ (c.toNat:Int)=100 at h3
       have n:∀ h,(⟨#[117,100,108,114,97,98,115,116]⟩:ByteArray)[1]'h=100:=λ_=>D
       go_wp2
       go_ret2
       rw[a.out.1,a.out.2];exact⟨D,D⟩
      ·change ¬ (c.toNat:Int)=108 at h3
       have n:∀ h,(⟨#[117,100,108,114,97,98,115,116]⟩:ByteArray)[2]'h=108:=λ_=>D
       go_wp2
       go_ret2
       rw[a.out.1,a.out.2];exact⟨D,D⟩
      ·change ¬ (c.toNat:Int)=114 at h3
       have n:∀ h,(⟨#[117,100,108,114,97,98,115,116]⟩:ByteArray)[3]'h=114:=λ_=>D
       go_wp2
       go_ret2
       rw[a.out.1,a.out.2];exact⟨D,D⟩
      ·change ¬ (c.toNat:Int)=97 at h3
       have n:∀ h,(⟨#[117,100,108,114,97,98,115,116]⟩:ByteArray)[4]'h=97:=λ_=>D
       go_wp2
       go_ret2
       rw[a.out.1,a.out.2];exact⟨D,D⟩
      ·change ¬ (c.toNat:Int)=98 at h3
       have n:∀ h,(⟨#[117,100,108,114,97,98,115,116]⟩:ByteArray)[5]'h=98:=λ_=>D
       go_wp2
       go_ret2
       rw[a.out.1,a.out.2];exact⟨D,D⟩
      ·change ¬ (c.toNat:Int)=115 at h3
       have n:∀ h,(⟨#[117,100,108,114,97,98,115,116]⟩:ByteArray)[6]'h=115:=λ_=>D
       go_wp2
       go_ret2
       rw[a.out.1,a.out.2];exact⟨D,D⟩
      ·change ¬ (c.toNat:Int)=116 at h3
       have n:∀ h,(⟨#[117,100,108,114,97,98,115,116]⟩:ByteArray)[7]'h=116:=λ_=>D
       go_wp2
       go_ret2
       rw[a.out.1,a.out.2];exact⟨D,D⟩
   ·have E:j=8:=by omega
    subst E;have e:=zr2 v x y.out;have e1:Tp.ofbN l=d:=by unfold Tp.ofbN;rw[e];rfl
    have e2:Tp.ofbE l=0:=by unfold Tp.ofbE;rw[e];rfl
    have a:=hid (And.intro e1 e2);clear e e1 e2;go_wp2
    go_ret2
    rw[a.out.1,a.out.2];exact⟨D,D⟩
 ·have F:¬ (mk l).size=8:=v
  have N:((mk l).size:Int)≠8:=by omega
  unfold Tp.ofbN Tp.ofbE;rw[zr1 v];go_enter func171,ntmps171;go_wp2
  go_ret2
  exact⟨D,D⟩
end Go.Proofs.YthghjlinhokimaaGreatDoor
