/-
  Parts of a proof, joined.
-/
import Derived.Test.YthghjlinhokimaaGreatDoorZbA
import Derived.Test.YthghjlinhokimaaGreatDoorZbLockRun00
import Derived.Test.YthghjlinhokimaaGreatDoorZbLockRun01
import Derived.Test.YthghjlinhokimaaGreatDoorZb30
import Derived.Test.YthghjlinhokimaaGreatDoorZb32
set_option linter.all false
set_option maxRecDepth 100000
set_option maxHeartbeats 3200000
open Option renaming none->G,some->A
open Go renaming World->u,Value->π,Calls->Δ,TypeId->aJ,Addr->cK,maxLen->dI
open Bool renaming false->ξ,true->Γ
open Go.Proofs.Tryz renaming prog->ω
open Go.Act renaming put->ag,eval->rM
open Or renaming inr->ao
open Go.Instr renaming index->aK
open Go.RowKit renaming intOf->aU,Hid->bG
open Go.Lib renaming byteCells->aV,itoa->ba,atoiAll->gU
open Go.Value renaming oneCell'->bi,slice->κ,ownBlock->im,int->J,bool->ν,tuple->Ψ,string->Ω,agg->ac,pointer->aB
open UInt8 renaming ofNat->bF
open List renaming range->cM
open Go.World renaming setCell->jn
open Go.IntKind renaming i64->Q,u16->Y,u8->au
open Go.Ending renaming returned->μ
open Go.Obj renaming cells->χ
namespace Go.Proofs.YthghjlinhokimaaGreatDoor
open Go.ChangeShapes Go.WideShapes Go.ChangeAt Go.RowKit Go.Proofs.Tryz
def t6(b:Nat):π:=.func (.func 380) #[] #[aB (A ⟨b,0,G⟩),aB (A ⟨b+1,0,G⟩)]
theorem zqF(l θ:Int)(w:u):Δ ω 370 #[J Q l,J Q θ] w λe w'=>e=μ (.func (.func 380) #[] #[aB (A ⟨w.heap.size,0,G⟩),aB (A ⟨w.heap.size+1,0,G⟩)])/\w'=(w.alloc (χ #[J Q l] 3)).alloc (χ #[J Q θ] 3):=by
 go_enter func370,ntmps370;go_wp2;go_ret;exact⟨D,D⟩
theorem wR(l θ x:Int)(b c:Nat)(w:u)(a:w.cell? ⟨b,0,G⟩=A (J Q l))(d:w.cell? ⟨c,0,G⟩=A (J Q θ)):Δ ω 380 #[J Q x,aB (A ⟨b,0,G⟩),aB (A ⟨c,0,G⟩)] w λe w'=>e=μ (ν (O.inR l θ x))/\w'=w:=by
 have e:∀ b,(decide (l<=x) && decide (x<=θ))=b->bG (O.inR l θ x=b):=λ_ h=>h
 by_cases h1:l<=x <;> by_cases h2:x<=θ
 ·have e:=e Γ (by simp[h1,h2])
  go_enter func380,ntmps380;go_wp2;go_ret;rw[e.out];exact⟨D,D⟩
 all_goals
  have e:=e ξ (by simp;omega);go_enter func380,ntmps380;go_wp2;go_ret;rw[e.out];exact⟨D,D⟩
structure Lims (h : Int) (b0 b1 b2 b3 : Nat) (w : u) : Prop where
 l0:w.cell? ⟨b0,0,G⟩=A (J Q (O.lo h 0))
 u0:w.cell? ⟨b0+1,0,G⟩=A (J Q (O.hi h 0))
 l1:w.cell? ⟨b1,0,G⟩=A (J Q (O.lo h 1))
 u1:w.cell? ⟨b1+1,0,G⟩=A (J Q (O.hi h 1))
 l2:w.cell? ⟨b2,0,G⟩=A (J Q (O.lo h 2))
 u2:w.cell? ⟨b2+1,0,G⟩=A (J Q (O.hi h 2))
 l3:w.cell? ⟨b3,0,G⟩=A (J Q (O.lo h 3))
 u3:w.cell? ⟨b3+1,0,G⟩=A (J Q (O.hi h 3))
theorem zqG(a b:π)(k:Nat)(c:k<32)(w:u):Δ ω 365 #[ac #[a,b,J Q (O.mask k)]] w λe w'=>∃ b0 b1 b2 b3,e=μ (ac #[t6 b0,t6 b1,t6 b2,t6 b3])/\Lims (O.mask k) b0 b1 b2 b3 w'/\Below w.heap.size w w':=by
 rcases O.mask_or k c with h|h|h|h|h|h|h|h|h <;> rw[h]
 all_goals
  clear h;go_enter func365,ntmps365;go_wp2_with (go_at_call 370;refine(zqF _ _ _).mono ?_;rintro e w' ⟨rfl,rfl⟩)
  refine Ξ (v:=?_) ?_ D ?_;rotate_left
  ·simp[results,results365,go_sem]
   first|done|exact D
  refine⟨_,_,_,_,D,⟨?_,?_,?_,?_,?_,?_,?_,?_⟩,?_⟩
  rotate_right 1
  ·repeat (first|exact bq _ _|refine Below.alloc ?_ (by simp <;> omega) _)
  all_goals repeat (first|(refine(ly _ _ _ _ ?_).trans ?_;(focus (simp;done));rfl)|(refine(aN _ _ _ ?_).trans ?_;(focus (simp <;> omega))))
theorem zvB(op d s n ww:Int)(h:O.isOp op=ξ)(w:u)(b:br w):Δ ω 338 #[ac #[J Q op,J Q d,J Q s,J Q n,J Q ww]] w λe w'=>e=μ (J Q 5)/\Below w.heap.size w w':=by
 have c:=hid b;clear b;have H:=hid h;clear h;go_enter func338,ntmps338;go_wp2_with (go_at_call 256;refine(zi7 op H.out _ (pJ c.out _)).mono ?_;rintro e w1 ⟨rfl,a⟩)
 go_ret;exact⟨D,stA (bw (stA (aR _) _) a) _⟩
def wH(h:Int)(v:Nat->Int)(j:Nat):Prop:=∀ i,i<j->O.inB h i (v i)=Γ
def yD(d s n w:Int)(i:Nat):Int:=if i=0 then d else if i=1 then s else if i=2 then n else w
theorem zz8(k:Nat)(a:k<32)(d s n w:Int)(h:wH (O.mask k) (yD d s n w) 4):O.okB k d s n w=Γ:=by
 have b:O.inB (O.mask k) 0 d=Γ:=h 0 (by omega);have h1:O.inB (O.mask k) 1 s=Γ:=h 1 (by omega);have h2:O.inB (O.mask k) 2 n=Γ:=h 2 (by omega);have h3:O.inB (O.mask k) 3 w=Γ:=h 3 (by omega);rw[<- O.inB_all k a,b,h1,h2,h3];rfl
theorem zfL(k:Nat)(b:k<32)(d s n w:Int)(i:Nat)(hi:i<4)(h:O.inB (O.mask k) i (yD d s n w i)=ξ):O.okB k d s n w=ξ:=by
 rw[<- O.inB_all k b];have hc:i=0 \/ i=1 \/ i=2 \/ i=3:=by omega
 rcases hc with rfl|rfl|rfl|rfl
 ·have a:O.inB (O.mask k) 0 d=ξ:=h
  rw[a];simp
 ·have a:O.inB (O.mask k) 1 s=ξ:=h
  rw[a];simp
 ·have a:O.inB (O.mask k) 2 n=ξ:=h
  rw[a];simp
 ·have a:O.inB (O.mask k) 3 w=ξ:=h
  rw[a];simp
theorem Aj{k:Nat}(b:k<32)(a:k≠30)(d s n w:Int):O.ck k d s n w=if O.okB k d s n w then 0 else 3:=by
 unfold O.ck;rw[am ((O.isOp_iff _).2 (by omega))];rfl
theorem zek{h:Int}{v:Nat->Int}{j:Nat}(a:wH h v j)(b:O.inB h j (v j)=Γ):wH h v (j+1):=λi hi=>by
 by_cases e:i<j
 ·exact a i e
 ·have:i=j:=by omega
  subst this;exact b
theorem zyn(a x1 x2 x3:π)(w:u):(aK 423 (ac #[a,x1,x2,x3]) (J Q 0)).run ω w=.ok a w:=by kernel_rfl
theorem zyo(a x1 x2 x3:π)(w:u):(aK 423 (ac #[a,x1,x2,x3]) (J Q 1)).run ω w=.ok x1 w:=by kernel_rfl
theorem zyp(a x1 x2 x3:π)(w:u):(aK 423 (ac #[a,x1,x2,x3]) (J Q 2)).run ω w=.ok x2 w:=by kernel_rfl
theorem zyq(a x1 x2 x3:π)(w:u):(aK 423 (ac #[a,x1,x2,x3]) (J Q 3)).run ω w=.ok x3 w:=by kernel_rfl
theorem zsv(k:Nat)(f:k<32)(c:k≠30)(d s n ww:Int)(w:u)(L:br w):Δ ω 338 #[ac #[J Q k,J Q d,J Q s,J Q n,J Q ww]] w λe w'=>e=μ (J Q (O.ck k d s n ww))/\Below w.heap.size w w':=by
 have M:=hid L;clear L;go_enter func338,ntmps338;go_wp2_with (first
  | (go_at_call 256;refine(tH k f c _ (pJ M.out _)).mono ?_;rintro e w1 ⟨rfl,h⟩;obtain⟨E,F⟩:=cj h;have N:w.heap.size<w1.heap.size:=by have:=h.size;simp at this;omega)
  | (go_at_call 365;refine(zqG _ _ k f _).mono ?_;rintro e w2 ⟨b0,b1,b2,b3,rfl,P,m⟩;unfold t6;obtain⟨g,H⟩:=cj m))
 have hB:Below w.heap.size w w2:=bw (stA (stA (bw (stA (aR _) _) h) _) _) m;have v0:w2.cell? ⟨w1.heap.size+1,0,G⟩=A (J Q d):=by rw[g _ _ (by simp)];exact ly _ _ _ _ (by simp)
 have R:w2.cell? ⟨w1.heap.size+1,1,G⟩=A (J Q s):=by rw[g _ _ (by simp)];exact ly _ _ _ _ (by simp)
 have v2:w2.cell? ⟨w1.heap.size+1,2,G⟩=A (J Q n):=by rw[g _ _ (by simp)];exact ly _ _ _ _ (by simp)
 have v3:w2.cell? ⟨w1.heap.size+1,3,G⟩=A (J Q ww):=by rw[g _ _ (by simp)];exact ly _ _ _ _ (by simp)
 clear E F g H h m M;obtain⟨o,p,q,r,t,v,x,y⟩:=P
 go_loop [28] (λi=>∃ j:Nat,j<=4/\i=J Q j/\wH (O.mask k) (yD d s n ww) j) (λi=>4-(aU i).toNat)
 case atStart=>exact⟨0,by omega,D,λi hi=>by omega⟩
 case round =>
  obtain⟨j,T,rfl,z⟩:=hrel;have B:=hid z;clear z;have I:j=0 \/ j=1 \/ j=2 \/ j=3 \/ j=4:=by omega
  rcases I with rfl|rfl|rfl|rfl|rfl
  ·have i0:=zyn
   by_cases a:O.inR (O.lo (O.mask k) 0) (O.hi (O.mask k) 0) d=Γ
   ·go_wp2_with (go_at_call 380;refine(wR _ _ _ _ _ _ o p).mono ?_;rintro e w' ⟨rfl,rfl⟩)
    go_round
    case rel=>exact⟨1,by omega,by go_num,zek B.out a⟩
    case measure=>simp[aU]
   ·have b:O.inR (O.lo (O.mask k) 0) (O.hi (O.mask k) 0) d=ξ:=by simpa using a
    have l:=hid (zfL k f d s n ww 0 (by omega) b);clear a;go_wp2_with (go_at_call 380;refine(wR _ _ _ _ _ _ o p).mono ?_;rintro e w' ⟨rfl,rfl⟩)
    go_ret;rw[Aj f c,l.out];exact⟨D,hB⟩
  ·have i0:=zyo
   by_cases a:O.inR (O.lo (O.mask k) 1) (O.hi (O.mask k) 1) s=Γ
   ·go_wp2_with (go_at_call 380;refine(wR _ _ _ _ _ _ q r).mono ?_;rintro e w' ⟨rfl,rfl⟩)
    go_round
    case rel=>exact⟨2,by omega,by go_num,zek B.out a⟩
    case measure=>simp[aU]
   ·have b:O.inR (O.lo (O.mask k) 1) (O.hi (O.mask k) 1) s=ξ:=by simpa using a
    have l:=hid (zfL k f d s n ww 1 (by omega) b);clear a;go_wp2_with (go_at_call 380;refine(wR _ _ _ _ _ _ q r).mono ?_;rintro e w' ⟨rfl,rfl⟩)
    go_ret;rw[Aj f c,l.out];exact⟨D,hB⟩
  ·have i0:=zyp
   by_cases a:O.inR (O.lo (O.mask k) 2) (O.hi (O.mask k) 2) n=Γ
   ·go_wp2_with (go_at_call 380;refine(wR _ _ _ _ _ _ t v).mono ?_;rintro e w' ⟨rfl,rfl⟩)
    go_round
    case rel=>exact⟨3,by omega,by go_num,zek B.out a⟩
    case measure=>simp[aU]
   ·have b:O.inR (O.lo (O.mask k) 2) (O.hi (O.mask k) 2) n=ξ:=by simpa using a
    have l:=hid (zfL k f d s n ww 2 (by omega) b);clear a;go_wp2_with (go_at_call 380;refine(wR _ _ _ _ _ _ t v).mono ?_;rintro e w' ⟨rfl,rfl⟩)
    go_ret;rw[Aj f c,l.out];exact⟨D,hB⟩
  ·have i0:=zyq
   by_cases a:O.inR (O.lo (O.mask k) 3) (O.hi (O.mask k) 3) ww=Γ
   ·go_wp2_with (go_at_call 380;refine(wR _ _ _ _ _ _ x y).mono ?_;rintro e w' ⟨rfl,rfl⟩)
    go_round
    case rel=>exact⟨4,by omega,by go_num,zek B.out a⟩
    case measure=>simp[aU]
   ·have b:O.inR (O.lo (O.mask k) 3) (O.hi (O.mask k) 3) ww=ξ:=by simpa using a
    have l:=hid (zfL k f d s n ww 3 (by omega) b);clear a;go_wp2_with (go_at_call 380;refine(wR _ _ _ _ _ _ x y).mono ?_;rintro e w' ⟨rfl,rfl⟩)
    go_ret;rw[Aj f c,l.out];exact⟨D,hB⟩
  ·have l:=hid (zz8 k f d s n ww B.out)
   go_wp2;go_ret;rw[Aj f c,l.out];exact⟨D,hB⟩
theorem Ak(op d s n ww:Int)(w:u)(a:br w):Δ ω 338 #[ac #[J Q op,J Q d,J Q s,J Q n,J Q ww]] w λe w'=>e=μ (J Q (O.ck op d s n ww))/\Below w.heap.size w w':=by
 cases h:O.isOp op
 ·refine(zvB op d s n ww h w a).mono λe w' b=>⟨b.1.trans ?_,b.2⟩
  unfold O.ck;rw[h];rfl
 ·obtain⟨h1,h2,h3⟩:=(O.isOp_iff op).1 h
  obtain⟨k,rfl⟩:=aA h1;exact zsv k (by omega) (by omega) d s n ww w a
theorem xZ(c:UInt8)(w:u):Δ ω 359 #[J au c.toNat] w λe w'=>e=μ (ν (S.isDigit c))/\w'=w:=by
 by_cases h1:48<=c.toNat
 ·have a:(48:Int)<=c.toNat:=by omega
  by_cases h2:c.toNat<=57
  ·have b:(c.toNat:Int)<=57:=by omega
   have e:S.isDigit c=Γ:=by unfold S.isDigit;rw[aO h1,aO h2];rfl
   rw[e];clear e h1 h2;go_enter func359,ntmps359;go_wp2;go_ret;exact⟨D,D⟩
  ·have b:¬ (c.toNat:Int)<=57:=by omega
   have e:S.isDigit c=ξ:=by unfold S.isDigit;rw[aG h2];simp
   rw[e];clear e h1 h2;go_enter func359,ntmps359;go_wp2;go_ret;exact⟨D,D⟩
 ·have a:¬ (48:Int)<=c.toNat:=by omega
  have e:S.isDigit c=ξ:=by unfold S.isDigit;rw[aG h1];simp
  rw[e];clear e h1;go_enter func359,ntmps359;go_wp2;go_ret;exact⟨D,D⟩
theorem zyl(s:ByteArray)(c:UInt8)(b:s.size=2)(d:∀ h,s[0]'h=114)(h1:∀ h,s[1]'h=c)(hc:48<=c.toNat)(a:c.toNat<=55)(w:u):Δ ω 331 #[Ω s] w λe w'=>e=μ (Ψ #[J Q ((c.toNat:Int)-48),ν Γ])/\w'=w:=by
 have g1:¬ (c.toNat:Int)<48:=by omega
 have f:¬ (55:Int)<c.toNat:=by omega
 go_enter func331,ntmps331;go_wp2
 go_ret2
 exact⟨D,D⟩
theorem zym(s:ByteArray)(a:¬ (s.size:Int)=2)(w:u):Δ ω 331 #[Ω s] w λe w'=>e=μ (Ψ #[J Q 0,ν ξ])/\w'=w:=by
 have b:((s.size:Int) == 2)=ξ:=by simpa using a
 go_enter func331,ntmps331;go_wp2
 go_ret2
 exact⟨D,D⟩
theorem BG(s:ByteArray)(a:UInt8)(b:s.size=2)(c:∀ h,s[0]'h=a)(d:¬ (a.toNat:Int)=114)(w:u):Δ ω 331 #[Ω s] w λe w'=>e=μ (Ψ #[J Q 0,ν ξ])/\w'=w:=by
 go_enter func331,ntmps331;go_wp2
 go_ret2
 exact⟨D,D⟩
theorem zz5(s:ByteArray)(c:UInt8)(a:s.size=2)(b:∀ h,s[0]'h=114)(h1:∀ h,s[1]'h=c)(hc:(c.toNat:Int)<48)(w:u):Δ ω 331 #[Ω s] w λe w'=>e=μ (Ψ #[J Q 0,ν ξ])/\w'=w:=by
 go_enter func331,ntmps331;go_wp2
 go_ret2
 exact⟨D,D⟩
theorem zz6(s:ByteArray)(c:UInt8)(b:s.size=2)(d:∀ h,s[0]'h=114)(h1:∀ h,s[1]'h=c)(hc:¬ (c.toNat:Int)<48)(a:(55:Int)<c.toNat)(w:u):Δ ω 331 #[Ω s] w λe w'=>e=μ (Ψ #[J Q 0,ν ξ])/\w'=w:=by
 go_enter func331,ntmps331;go_wp2
 go_ret2
 exact⟨D,D⟩
theorem zpz(s:ByteArray):(bs s).length=s.size:=rfl
theorem Ah(s:ByteArray)(i:Nat)(c:UInt8)(h:(bs s)[i]?=A c):∀ a,s[i]'a=c:=by
 intro a;obtain⟨⟨l⟩⟩:=s;have b:i<l.length:=a;have:l[i]?=A c:=h;rw[aq b] at this;exact aL this
theorem zfr(s:ByteArray)(w:u):Δ ω 331 #[Ω s] w λe w'=>e=μ (Ψ #[J Q ((S.reg (bs s)).getD 0),ν (S.reg (bs s)).isSome])/\w'=w:=by
 by_cases b:s.size=2
 ·have d:=zpz s
  rw[b] at d
  match hb:bs s,d with
  | [a,c],_ =>
   have g:=Ah s 0 a (by rw[hb];rfl);have h1:=Ah s 1 c (by rw[hb];rfl);by_cases i:a=114
   ·subst i
    by_cases hc:48<=c.toNat
    ·by_cases f:c.toNat<=55
     ·have e:S.reg [114,c]=A ((c.toNat:Int)-48):=by simp[S.reg,hc,f]
      rw[e];exact zyl s c b g h1 hc f w
     ·have e:S.reg [114,c]=G:=by simp[S.reg];omega
      rw[e];exact zz6 s c b g h1 (by omega) (by omega) w
    ·have e:S.reg [114,c]=G:=by simp[S.reg];omega
     rw[e];exact zz5 s c b g h1 (by omega) w
   ·have e:S.reg [a,c]=G:=by simp[S.reg,i]
    have j:¬ (a.toNat:Int)=114:=by
     intro h;exact i (mS.1 (by rw[show (114:UInt8).toNat=114 from D];omega))
    rw[e];exact BG s a b g j w
 ·have d:=zpz s
  have e:S.reg (bs s)=G:=by
   unfold S.reg;split
   ·rename_i h;rw[h] at d;exact absurd d.symm b
   ·rfl
  rw[e];exact zym s (by omega) w
theorem zz7(s:ByteArray)(a:s.size=0)(w:u):Δ ω 324 #[Ω s] w λe w'=>e=μ (ν ξ)/\w'=w:=by
 go_enter func324,ntmps324;go_wp2;go_ret;exact⟨D,D⟩
theorem zss(s:ByteArray)(b:¬ (s.size:Int)<1)(a:12<(s.size:Int))(w:u):Δ ω 324 #[Ω s] w λe w'=>e=μ (ν ξ)/\w'=w:=by
 go_enter func324,ntmps324;go_wp2;go_ret;exact⟨D,D⟩
theorem zqH(s:ByteArray)(c:UInt8)(d:¬ (s.size:Int)<1)(a:¬ 12<(s.size:Int))(f:∀ h,s[0]'h=c)(g:S.isDigit c=Γ)(w:u):Δ ω 324 #[Ω s] w λe w'=>e=μ (ν ξ)/\w'=w:=by
 have b:0<s.size:=by omega
 go_enter func324,ntmps324;go_wp2_with (go_at_call 359;refine(xZ c _).mono ?_;rintro e w' ⟨rfl,rfl⟩)
 go_ret;exact⟨D,D⟩
def Ai(l:List UInt8)(k:Nat):Prop:=(l.take k).all S.nameCh=Γ
theorem zi8{l:List UInt8}{k:Nat}{c:UInt8}(h:Ai l k)(hc:l[k]?=A c)(a:S.nameCh c=Γ):Ai l (k+1):=by
 unfold Ai at h ⊢;rw[ek,hc];simp[h,a]
theorem zst{l:List UInt8}{k:Nat}{c:UInt8}(hc:l[k]?=A c)(a:S.nameCh c=ξ):l.all S.nameCh=ξ:=by
 cases h:l.all S.nameCh
 ·rfl
 ·have:=cx.1 h c (bu hc)
  rw[a] at this;cases this
theorem zsu(s:ByteArray)(c:UInt8)(v:¬ (s.size:Int)<1)(o:¬ 12<(s.size:Int))(y:∀ h,s[0]'h=c)(z:S.isDigit c=ξ)(w:u):Δ ω 324 #[Ω s] w λe w'=>e=μ (ν ((bs s).all S.nameCh && (S.reg (bs s)).isNone))/\w'=w:=by
 have p:0<s.size:=by omega
 have B:=zpz s;go_enter func324,ntmps324;go_wp2_with (go_at_call 359;refine(xZ c _).mono ?_;rintro e w' ⟨rfl,rfl⟩)
 go_loop [21] (λi=>∃ k:Nat,k<=s.size/\i=J Q k/\Ai (bs s) k) (λi=>s.size-(aU i).toNat)
 case atStart=>exact⟨0,by omega,D,D⟩
 case round =>
  obtain⟨k,E,rfl,a⟩:=hrel;by_cases q:k<s.size
  ·have m:(k:Int)<s.size:=by omega
   obtain⟨x,j⟩:∃ x,(bs s)[k]?=A x:=⟨_,aq (by omega)⟩
   have r:=Ah s k x j;cases d:S.isDigit x
   ·by_cases f:x=95
    ·subst f
     go_wp2_with (go_at_call 359;refine(xZ 95 _).mono ?_;rintro e w' ⟨rfl,rfl⟩)
     go_round
     case rel=>exact⟨k+1,by omega,by go_num,zi8 a j D⟩
     case measure=>simp[aU];omega
    ·have n:¬ (x.toNat:Int)=95:=by
      intro h;exact f (mS.1 (by rw[show (95:UInt8).toNat=95 from D];omega))
     have b:(x == 95)=ξ:=by simpa using f
     by_cases h1:(x.toNat:Int)<97
     ·have g:S.nameCh x=ξ:=by unfold S.nameCh;rw[d,b,aG (by omega)];rfl
      go_wp2_with (go_at_call 359;refine(xZ x _).mono ?_;rintro e w' ⟨rfl,rfl⟩)
      go_ret;rw[zst j g];exact⟨D,D⟩
     ·by_cases h2:122<(x.toNat:Int)
      ·have g:S.nameCh x=ξ:=by unfold S.nameCh;rw[d,b,aG (by omega:¬ x.toNat<=122)];simp
       go_wp2_with (go_at_call 359;refine(xZ x _).mono ?_;rintro e w' ⟨rfl,rfl⟩)
       go_ret;rw[zst j g];exact⟨D,D⟩
      ·have g:S.nameCh x=Γ:=by unfold S.nameCh;rw[aO (by omega:97<=x.toNat),aO (by omega:x.toNat<=122)];simp
       go_wp2_with (go_at_call 359;refine(xZ x _).mono ?_;rintro e w' ⟨rfl,rfl⟩)
       go_round
       case rel=>exact⟨k+1,by omega,by go_num,zi8 a j g⟩
       case measure=>simp[aU];omega
   ·have g:S.nameCh x=Γ:=by unfold S.nameCh;rw[d];rfl
    go_wp2_with (go_at_call 359;refine(xZ x _).mono ?_;rintro e w' ⟨rfl,rfl⟩)
    go_round
    case rel=>exact⟨k+1,by omega,by go_num,zi8 a j g⟩
    case measure=>simp[aU];omega
  ·have l:k=s.size:=by omega
   subst l;have t:(bs s).all S.nameCh=Γ:=by
    unfold Ai at a
    rwa [dY (by omega)] at a
   go_wp2_with (go_at_call 331;refine(zfr s _).mono ?_;rintro e w' ⟨rfl,rfl⟩)
   go_ret;rw[t];cases S.reg (bs s) <;> exact⟨D,D⟩
theorem zdX(s:ByteArray)(w:u):Δ ω 324 #[Ω s] w λe w'=>e=μ (ν (S.nameOk (bs s)))/\w'=w:=by
 have a:=zpz s;cases hb:bs s with
 | nil=>exact zz7 s (by rw[<- a,hb];rfl) w
 | cons c r =>
  have f:0<s.size:=by rw[<- a,hb];simp
  have b:=Ah s 0 c (by rw[hb];rfl);unfold S.nameOk;simp only;rw[<- hb,a];by_cases h12:s.size<=12
  ·rw[aO h12]
   cases d:S.isDigit c
   ·have:=zsu s c (by omega) (by omega) b d w
    simpa using this
   ·have:=zqH s c (by omega) (by omega) b d w
    simpa using this
  ·rw[aG h12]
   exact zss s (by omega) (by omega) w
theorem wI(g:Nat)(w:u):Δ ω 328 #[J Q 0,aB (A ⟨g,0,G⟩)] w λe w'=>e=μ (aB (A ⟨g,1,G⟩))/\w'=w:=by
 go_enter func328,ntmps328;go_wp2;go_ret;exact⟨D,D⟩
theorem wJ(g:Nat)(w:u):Δ ω 328 #[J Q 1,aB (A ⟨g,0,G⟩)] w λe w'=>e=μ (aB (A ⟨g,2,G⟩))/\w'=w:=by
 go_enter func328,ntmps328;go_wp2;go_ret;exact⟨D,D⟩
theorem wK(g:Nat)(w:u):Δ ω 328 #[J Q 2,aB (A ⟨g,0,G⟩)] w λe w'=>e=μ (aB (A ⟨g,4,G⟩))/\w'=w:=by
 go_enter func328,ntmps328;go_wp2;go_ret;exact⟨D,D⟩
theorem wL(g:Nat)(w:u):Δ ω 328 #[J Q 3,aB (A ⟨g,0,G⟩)] w λe w'=>e=μ (aB (A ⟨g,3,G⟩))/\w'=w:=by
 go_enter func328,ntmps328;go_wp2;go_ret;exact⟨D,D⟩
theorem zsw:(Tryz.prog.info? 374).map (λi=>(i.zero,i.size,i.bytes))=A (A (J Q 0),1,8):=by kernel_rfl
theorem zi9:∀ k:Nat,k<32->k≠30->O.ck k 1 0 0 0=(if O.hasC k 100 then 0 else 3)/\O.ck k 0 1 0 0=(if O.hasC k 115 then 0 else 3)/\O.ck k 0 0 0 1=(if O.hasC k 119 then 0 else 3)/\O.ck k 0 0 1 0=(if O.hasC k 110 then 0 else 3):=by decide +kernel
def qA(k j:Nat):List π:=((cM j).filter (λp=>O.hasC k (S.sgn p))).map (λp:Nat=>Value.int Q p)
theorem zpA{k j:Nat}(h:O.hasC k (S.sgn j)=ξ):qA k (j+1)=qA k j:=by unfold qA;rw[gP,gE];simp[h]
theorem zja{k j:Nat}(h:O.hasC k (S.sgn j)=Γ):qA k (j+1)=qA k j++[J Q j]:=by unfold qA;rw[gP,gE];simp[h]
theorem wS(k j:Nat):(qA k j).length<=j:=by
 unfold qA;rw[bf];exact ax (iL _ _) (by simp)
theorem zpB(k:Nat)(c:k<32)(a:k≠30)(w:u)(d:br w):Δ ω 338 #[ac #[J Q k,J Q 1,J Q 0,J Q 0,J Q 0]] w λe w'=>e=μ (J Q (if O.hasC k 100 then 0 else 3))/\Below w.heap.size w w' :=
 (Ak k 1 0 0 0 w d).mono λe w' b=>⟨by rw[b.1,(zi9 k c a).1],b.2⟩
theorem zpC(k:Nat)(c:k<32)(a:k≠30)(w:u)(d:br w):Δ ω 338 #[ac #[J Q k,J Q 0,J Q 1,J Q 0,J Q 0]] w λe w'=>e=μ (J Q (if O.hasC k 115 then 0 else 3))/\Below w.heap.size w w' :=
 (Ak k 0 1 0 0 w d).mono λe w' b=>⟨by rw[b.1,(zi9 k c a).2.1],b.2⟩
theorem zpD(k:Nat)(c:k<32)(a:k≠30)(w:u)(d:br w):Δ ω 338 #[ac #[J Q k,J Q 0,J Q 0,J Q 0,J Q 1]] w λe w'=>e=μ (J Q (if O.hasC k 119 then 0 else 3))/\Below w.heap.size w w' :=
 (Ak k 0 0 0 1 w d).mono λe w' b=>⟨by rw[b.1,(zi9 k c a).2.2.1],b.2⟩
theorem zpE(k:Nat)(c:k<32)(a:k≠30)(w:u)(d:br w):Δ ω 338 #[ac #[J Q k,J Q 0,J Q 0,J Q 1,J Q 0]] w λe w'=>e=μ (J Q (if O.hasC k 110 then 0 else 3))/\Below w.heap.size w w' :=
 (Ak k 0 0 1 0 w d).mono λe w' b=>⟨by rw[b.1,(zi9 k c a).2.2.2],b.2⟩
theorem rX(v:π):v.ownBlock=G \/ v.ownBlock≠G:=by cases v.ownBlock with
 | none=>exact Or.inl D
 | some g=>exact ao (by simp)
theorem zf0(k:Nat)(x:k<32)(n:k≠30)(w:u)(H:br w):Δ ω 327 #[J Q k] w λe w'=>∃ v,e=μ v/\w'.ownsRow w.heap.size 374 1 v (qA k 4).length (qA k 4)/\Below w.heap.size w w':=by
 obtain⟨i0,p,q,r,s⟩:=info_parts zsw;have y:=hid H;clear H;go_enter func327,ntmps327;go_wp2;go_loopw [3,4] (λl i wr=>∃ j:Nat,j<=4/\i=J Q j/\wr.ownsRow w.heap.size 374 1 l (qA k j).length (qA k j)/\Below w.heap.size w wr) (λ_ i _=>4-(aU i).toNat)
 case atStart=>exact⟨0,by omega,D,⟨D,Or.inl ⟨D,D⟩⟩,bq _ _⟩
 case round =>
  obtain⟨j,z,rfl,b,c⟩:=hrel;have hc:j=0 \/ j=1 \/ j=2 \/ j=3 \/ j=4:=by omega
  have I:=c.size;rcases hc with rfl|rfl|rfl|rfl|rfl
  ·cases m:O.hasC k 100
   ·go_wp2_with (first
     | (go_at_call 328;refine(wI _ _).mono ?_;rintro e w' ⟨rfl,rfl⟩)
     | (go_at_call 338;refine(zpB k x n _ (pJ (y.out.kept c) _)).mono ?_;rw[m];rintro e w1 ⟨rfl,a⟩))
    go_roundw
    case rel=>exact⟨1,by omega,by go_num,by rw[zpA (j:=0) m];exact(b.alloc _).kept (rx a) (rX _),bw (stA c _) a⟩
    case measure=>simp[aU]
   ·go_wp2_with (first
     | (go_at_call 328;refine(wI _ _).mono ?_;rintro e w' ⟨rfl,rfl⟩)
     | (go_at_call 338;refine(zpB k x n _ (pJ (y.out.kept c) _)).mono ?_;rw[m];rintro e w1 ⟨rfl,a⟩;have d:=(b.alloc (χ #[J Q k,J Q 1,J Q 0,J Q 0,J Q 0] 191)).kept (rx a) (rX _);have f:=bw (stA c (χ #[J Q k,J Q 1,J Q 0,J Q 0,J Q 0] 191)) a)
     | (at_builtin;refine wpList_append_lies _ (by rfl) _ _ _ (by rfl) w.heap.size 374 i0 _ 1 8 underlying372 p q r s D (by omega) _ (qA k 0).length _ (by rfl) (d.alloc _) ⟨w1.heap.size,0,G⟩ 1 1 [J Q 0] (by rfl) (by rfl) (World.news_of_block (cs:=#[J Q 0]) (t:=374) (fr:=(0,0)) (aM w1 _)) (by simp[bi]) (by omega) (by have:=wS k 0;unfold dI;omega) (by have:=wS k 0;omega) (by have:=f.size;simp;omega) (w1.heap.size+1) (by simp) ?_;intro E cp F g h B o))
    go_roundw
    case rel=>exact⟨1,by omega,by go_num,by rw[zja (j:=0) m,az];exact g,(stA f _).grown h (stA f _).size (λj z=>(b.lt j z).1)⟩
    case measure=>simp[aU]
  ·cases m:O.hasC k 115
   ·go_wp2_with (first
     | (go_at_call 328;refine(wJ _ _).mono ?_;rintro e w' ⟨rfl,rfl⟩)
     | (go_at_call 338;refine(zpC k x n _ (pJ (y.out.kept c) _)).mono ?_;rw[m];rintro e w1 ⟨rfl,a⟩))
    go_roundw
    case rel=>exact⟨2,by omega,by go_num,by rw[zpA (j:=1) m];exact(b.alloc _).kept (rx a) (rX _),bw (stA c _) a⟩
    case measure=>simp[aU]
   ·go_wp2_with (first
     | (go_at_call 328;refine(wJ _ _).mono ?_;rintro e w' ⟨rfl,rfl⟩)
     | (go_at_call 338;refine(zpC k x n _ (pJ (y.out.kept c) _)).mono ?_;rw[m];rintro e w1 ⟨rfl,a⟩;have d:=(b.alloc (χ #[J Q k,J Q 0,J Q 1,J Q 0,J Q 0] 191)).kept (rx a) (rX _);have f:=bw (stA c (χ #[J Q k,J Q 0,J Q 1,J Q 0,J Q 0] 191)) a)
     | (at_builtin;refine wpList_append_lies _ (by rfl) _ _ _ (by rfl) w.heap.size 374 i0 _ 1 8 underlying372 p q r s D (by omega) _ (qA k 1).length _ (by rfl) (d.alloc _) ⟨w1.heap.size,0,G⟩ 1 1 [J Q 1] (by rfl) (by rfl) (World.news_of_block (cs:=#[J Q 1]) (t:=374) (fr:=(0,0)) (aM w1 _)) (by simp[bi]) (by omega) (by have:=wS k 1;unfold dI;omega) (by have:=wS k 1;omega) (by have:=f.size;simp;omega) (w1.heap.size+1) (by simp) ?_;intro E cp F g h B o))
    go_roundw
    case rel=>exact⟨2,by omega,by go_num,by rw[zja (j:=1) m,az];exact g,(stA f _).grown h (stA f _).size (λj z=>(b.lt j z).1)⟩
    case measure=>simp[aU]
  ·cases m:O.hasC k 119
   ·go_wp2_with (first
     | (go_at_call 328;refine(wK _ _).mono ?_;rintro e w' ⟨rfl,rfl⟩)
     | (go_at_call 338;refine(zpD k x n _ (pJ (y.out.kept c) _)).mono ?_;rw[m];rintro e w1 ⟨rfl,a⟩))
    go_roundw
    case rel=>exact⟨3,by omega,by go_num,by rw[zpA (j:=2) m];exact(b.alloc _).kept (rx a) (rX _),bw (stA c _) a⟩
    case measure=>simp[aU]
   ·go_wp2_with (first
     | (go_at_call 328;refine(wK _ _).mono ?_;rintro e w' ⟨rfl,rfl⟩)
     | (go_at_call 338;refine(zpD k x n _ (pJ (y.out.kept c) _)).mono ?_;rw[m];rintro e w1 ⟨rfl,a⟩;have d:=(b.alloc (χ #[J Q k,J Q 0,J Q 0,J Q 0,J Q 1] 191)).kept (rx a) (rX _);have f:=bw (stA c (χ #[J Q k,J Q 0,J Q 0,J Q 0,J Q 1] 191)) a)
     | (at_builtin;refine wpList_append_lies _ (by rfl) _ _ _ (by rfl) w.heap.size 374 i0 _ 1 8 underlying372 p q r s D (by omega) _ (qA k 2).length _ (by rfl) (d.alloc _) ⟨w1.heap.size,0,G⟩ 1 1 [J Q 2] (by rfl) (by rfl) (World.news_of_block (cs:=#[J Q 2]) (t:=374) (fr:=(0,0)) (aM w1 _)) (by simp[bi]) (by omega) (by have:=wS k 2;unfold dI;omega) (by have:=wS k 2;omega) (by have:=f.size;simp;omega) (w1.heap.size+1) (by simp) ?_;intro E cp F g h B o))
    go_roundw
    case rel=>exact⟨3,by omega,by go_num,by rw[zja (j:=2) m,az];exact g,(stA f _).grown h (stA f _).size (λj z=>(b.lt j z).1)⟩
    case measure=>simp[aU]
  ·cases m:O.hasC k 110
   ·go_wp2_with (first
     | (go_at_call 328;refine(wL _ _).mono ?_;rintro e w' ⟨rfl,rfl⟩)
     | (go_at_call 338;refine(zpE k x n _ (pJ (y.out.kept c) _)).mono ?_;rw[m];rintro e w1 ⟨rfl,a⟩))
    go_roundw
    case rel=>exact⟨4,by omega,by go_num,by rw[zpA (j:=3) m];exact(b.alloc _).kept (rx a) (rX _),bw (stA c _) a⟩
    case measure=>simp[aU]
   ·go_wp2_with (first
     | (go_at_call 328;refine(wL _ _).mono ?_;rintro e w' ⟨rfl,rfl⟩)
     | (go_at_call 338;refine(zpE k x n _ (pJ (y.out.kept c) _)).mono ?_;rw[m];rintro e w1 ⟨rfl,a⟩;have d:=(b.alloc (χ #[J Q k,J Q 0,J Q 0,J Q 1,J Q 0] 191)).kept (rx a) (rX _);have f:=bw (stA c (χ #[J Q k,J Q 0,J Q 0,J Q 1,J Q 0] 191)) a)
     | (at_builtin;refine wpList_append_lies _ (by rfl) _ _ _ (by rfl) w.heap.size 374 i0 _ 1 8 underlying372 p q r s D (by omega) _ (qA k 3).length _ (by rfl) (d.alloc _) ⟨w1.heap.size,0,G⟩ 1 1 [J Q 3] (by rfl) (by rfl) (World.news_of_block (cs:=#[J Q 3]) (t:=374) (fr:=(0,0)) (aM w1 _)) (by simp[bi]) (by omega) (by have:=wS k 3;unfold dI;omega) (by have:=wS k 3;omega) (by have:=f.size;simp;omega) (w1.heap.size+1) (by simp) ?_;intro E cp F g h B o))
    go_roundw
    case rel=>exact⟨4,by omega,by go_num,by rw[zja (j:=3) m,az];exact g,(stA f _).grown h (stA f _).size (λj z=>(b.lt j z).1)⟩
    case measure=>simp[aU]
  ·go_wp2
   go_ret;exact⟨_,D,b,c⟩
theorem zpF(op d s n ww:Int)(h1:O.isOp op=Γ)(h2:O.okB op.toNat d s n ww=Γ)(w:u)(b:br w):Δ ω 338 #[ac #[J Q op,J Q d,J Q s,J Q n,J Q ww]] w λe w'=>e=μ (J Q 0)/\Below w.heap.size w w':=by
 refine(Ak op d s n ww w b).mono λe w' a=>⟨a.1.trans ?_,a.2⟩
 unfold O.ck;rw[h1,h2];rfl
def wordsAt(w:u)(g:Nat)(l:List Int):Prop:=∀ i,i<l.length->w.cell? ⟨g,i,G⟩=A (J Y (l.getD i 0))
theorem zib(k d s n:Int)(h1:0<=k/\k<=31)(h2:0<=d/\d<=7)(h3:0<=s/\s<=7)(h4:-16<=n/\n<=15):bits .or Y (bits .or Y (bits .or Y (k*2048) (d*256)) (s*32)) (bits .and Y (IntKind.u16.wrap n) 31)=O.first k d s n:=by
 rw[O.low5 n h4,O.first_of k d s _ h1 h2 h3 (by omega)];rfl
theorem zsx(k:Nat)(d s n ww:Int)(h:k<32)(q:k≠30)(a:O.okB k d s n ww=Γ)(m:O.hasC k 119=ξ)(w:u)(f:br w):Δ ω 272 #[ac #[J Q k,J Q d,J Q s,J Q n,J Q ww]] w λe w'=>∃ g,e=μ (Ψ #[κ (A ⟨g,0,G⟩) 1 1,J Q 0])/\wordsAt w' g [O.first k d s n]/\w.heap.size<=g/\g<w'.heap.size/\Below w.heap.size w w':=by
 obtain⟨⟨r,d1⟩,⟨s0,s1⟩,⟨t,v⟩,⟨w0,x⟩⟩:=O.ok_bd a;have h1:=(O.isOp_iff k).2 (by omega);have o:lenOf (O.mask k)=1:=by have:=O.mask_w k h;rw[m] at this;unfold lenOf;rw[ae (by simpa using this.symm)]
 have y:=hid o;have z:=hid a;have B:=hid h1;have E:=hid f;have j:=f.lt;have p:0<w.heap.size:=iC (bh _) j;obtain⟨c0,c1,c2⟩:=f k h;clear f a h1 m o;go_enter func272,ntmps272;go_wp2_with (first
  | (go_at_call 338;refine(zpF _ _ _ _ _ B.out z.out _ (pJ E.out _)).mono ?_;rintro e w1 ⟨rfl,b⟩;obtain⟨F,H⟩:=cj b;have l:w.heap.size<w1.heap.size:=by have:=b.size;simp at this;omega)
  | (go_at_call 288;refine(sT _ _ k h _).mono ?_;rw[y.out];rintro e w2 ⟨rfl,c⟩))
 go_ret2
 refine⟨w2.heap.size,D,λi hi=>?_,iy (Θ l c.size),by simp,stA (bw (bw (stA (aR _) _) b) c) _⟩;obtain rfl:i=0:=by simpa using hi
 rw[zib k d s n (by omega) ⟨r,d1⟩ ⟨s0,s1⟩ ⟨t,v⟩];exact ly _ _ _ _ D
theorem zsy(k:Nat)(d s n ww:Int)(h:k<32)(r:k≠30)(a:O.okB k d s n ww=Γ)(o:O.hasC k 119=Γ)(w:u)(f:br w):Δ ω 272 #[ac #[J Q k,J Q d,J Q s,J Q n,J Q ww]] w λe w'=>∃ g,e=μ (Ψ #[κ (A ⟨g,0,G⟩) 2 2,J Q 0])/\wordsAt w' g [O.first k d s n,ww]/\w.heap.size<=g/\g<w'.heap.size/\Below w.heap.size w w':=by
 obtain⟨⟨t,d1⟩,⟨s0,s1⟩,⟨v,x⟩,⟨w0,y⟩⟩:=O.ok_bd a;have h1:=(O.isOp_iff k).2 (by omega);have p:lenOf (O.mask k)=2:=by have:=O.mask_w k h;rw[o] at this;unfold lenOf;rw[am (by simpa using this.symm)]
 have z:=hid p;have B:=hid a;have E:=hid h1;have F:=hid f;have j:=f.lt;have q:0<w.heap.size:=iC (bh _) j;obtain⟨c0,c1,c2⟩:=f k h;clear f a h1 o p;go_enter func272,ntmps272;go_wp2_with (first
  | (go_at_call 338;refine(zpF _ _ _ _ _ E.out B.out _ (pJ F.out _)).mono ?_;rintro e w1 ⟨rfl,b⟩;obtain⟨H,I⟩:=cj b;have l:w.heap.size<w1.heap.size:=by have:=b.size;simp at this;omega)
  | (go_at_call 288;refine(sT _ _ k h _).mono ?_;rw[z.out];rintro e w2 ⟨rfl,c⟩;obtain⟨L,M⟩:=cj c))
 go_ret2
 refine⟨w2.heap.size,D,λi hi=>?_,iy (Θ l c.size),by simp,stA (bw (bw (stA (aR _) _) b) c) _⟩;rw[zib k d s n (by omega) ⟨t,d1⟩ ⟨s0,s1⟩ ⟨v,x⟩];have m:i=0 \/ i=1:=by simp at hi;omega
 rcases m with rfl|rfl <;> exact ly _ _ _ _ D
theorem zkY(op d s n ww:Int)(h1:O.isOp op=Γ)(a:O.okB op.toNat d s n ww=Γ)(w:u)(b:br w):Δ ω 272 #[ac #[J Q op,J Q d,J Q s,J Q n,J Q ww]] w λe w' =>
  ∃ g,e=μ (Ψ #[κ (A ⟨g,0,G⟩) (O.words op d s n ww).length (O.words op d s n ww).length,J Q 0])/\wordsAt w' g (O.words op d s n ww)/\w.heap.size<=g/\g<w'.heap.size/\Below w.heap.size w w':=by
 obtain⟨a1,a2,a3⟩:=(O.isOp_iff op).1 h1;obtain⟨k,rfl⟩:=aA a1;rw[bR] at a;unfold O.words;rw[bR];cases hc:O.hasC k 119
 ·exact zsx k d s n ww (by omega) (by omega) a hc w b
 ·exact zsy k d s n ww (by omega) (by omega) a hc w b
theorem ze1(k:Nat)(d:k<32)(a:k≠30)(w:u)(c:br w):Δ ω 206 #[J Q k] w λe w'=>e=μ (Ψ #[Ω (O.nameS k),J Q 0])/\Below w.heap.size w w':=by
 have f:=hid c;clear c;go_enter func206,ntmps206;go_wp2_with (go_at_call 256;refine(tH k d a _ f.out).mono ?_;rintro e w1 ⟨rfl,b⟩)
 go_ret2
 exact⟨D,stA b _⟩
theorem zsA(op:Int)(h:O.isOp op=ξ)(w:u)(b:br w):Δ ω 206 #[J Q op] w λe w'=>e=μ (Ψ #[Ω ⟨#[]⟩,J Q 5])/\Below w.heap.size w w':=by
 have c:=hid b;clear b;have H:=hid h;clear h;go_enter func206,ntmps206;go_wp2_with (go_at_call 256;refine(zi7 op H.out _ c.out).mono ?_;rintro e w1 ⟨rfl,a⟩)
 go_ret2
 exact⟨D,stA a _⟩
structure AF (w : u) : Prop where
 pow:Lib.TabIs ω w "internal/strconv.uint64pow10" .u64 Lib.pow10Tab
 len:∃ m,w.cell? ⟨0,0,G⟩=A (J Q m)
 shapes:br w
theorem g_pow:Tryz.prog.globalNamed "internal/strconv.uint64pow10" = A 6:=by kernel_rfl
theorem AF.kept{w w':u}(h:AF w)(hb:Below w.heap.size w w'):AF w':=by
 obtain⟨t,⟨m,a⟩,s⟩:=h;exact⟨Joins.tab_stays g_pow t hb (ψ _),⟨m,(hb.cell (aC w _ a)).trans a⟩,s.kept hb⟩
theorem rZ{w:u}(h:AF w)(o:Obj):AF (w.alloc o):=h.kept (stA (aR _) _)
def aT(l:List UInt8):ByteArray:=⟨l.toArray⟩
theorem mk_bs(s:ByteArray):aT (bs s)=s:=by obtain⟨⟨l⟩⟩:=s;rfl
theorem sK(l:List UInt8):bs (aT l)=l:=rfl
theorem sU(l:List UInt8):(aT l).size=l.length:=rfl
theorem zm7(w:u)(k:Nat)(os:Array Obj):Below w.heap.size w (Sort.grow (w.drewN k) os):=by
 have h:∀ k,Below w.heap.size w (w.drewN k):=λk=>by
  induction k with
  | zero=>exact aR w
  | succ k a=>exact a.drew
 refine(h k).trans ⟨D,D,D,by simp[Sort.grow],λi hi=>?_⟩;have:(w.drewN k).heap.size=w.heap.size:=by simp
 show ((w.drewN k).heap++os)[i]?=_;rw[lx (by omega)]
theorem rp(n:Int)(a:-9223372036854775808<=n)(h1:n<=9223372036854775807)(w:u)(h:AF w):Δ ω 104 #[J Q n] w λe w'=>e=μ (Ω (aT (ba n)))/\Below w.heap.size w w':=by
 refine(Tryz.strconv_Itoa n a h1 w h.pow).mono λe w' ⟨b,k,os,c⟩=>⟨b,?_⟩
 subst c;exact zm7 w k os
def t7(p:Nat):Nat:=if p=0 then 1 else if p=1 then 2 else if p=2 then 4 else 3
def ny(k:Nat)(o:S.Ord):Array π:=#[J Q k,J Q o.d,J Q o.s,J Q o.n,J Q o.w]
theorem zAi{k j:Nat}{p:Nat}(h:(S.parts k)[j]?=A p):(qA k 4)[j]?=A (J Q p):=by
 unfold qA;rw[bn];have:((cM 4).filter (λp=>O.hasC k (S.sgn p)))[j]?=A p:=h;rw[this];rfl
theorem zm8(k:Nat):(qA k 4).length=(S.parts k).length:=by unfold qA S.parts;rw[bf]
theorem zjc{k j p:Nat}(h:(S.parts k)[j]?=A p):p<4:=by
 have:=bu h;unfold S.parts at this;have:=(ju.1 this).1
 simpa using this
theorem yW(k:Nat):(S.parts k).length<=4:=by
 unfold S.parts;exact ax (iL _ _) (by simp)
theorem zdY{w:u}{B:Nat}{t:aJ}{v:π}{n:Nat}{xs:List π}(h:w.ownsRow B t 1 v n xs)(f:0<n):∃ g a,v=κ (A ⟨g,0,G⟩) n a/\B<=g/\g<w.heap.size/\n<=a /\ ∀ j,j<n->w.cell? ⟨g,j,G⟩=xs[j]?:=by
 obtain⟨i,h⟩:=h;rcases h with⟨_,k⟩|⟨g,a,b,rfl,hB,hb,hc,_,d,e⟩
 ·omega
 ·refine⟨g,a,D,hB,(aa.1 hb).1,hc,λj l=>?_⟩
  simp only[World.cell?,hb];have c:j<b.size:=by rw[d];omega
  rw[<- e,dN (by omega)];simp[c]
theorem zsC{w:u}{B:Nat}{t:aJ}{v:π}{n:Nat}{xs:List π}(h:w.ownsRow B t 1 v n xs)(c:n=0):∃ a b,v=κ a 0 b:=by
 subst c;rcases h.2 with⟨h,_⟩|⟨g,b,d,h,_⟩
 ·exact⟨_,_,h⟩
 ·exact⟨_,_,h⟩
theorem zkZ(k:Nat)(f:k<32)(d:k≠30)(hp:S.parts k=[])(w:u)(g:br w):Δ ω 327 #[J Q k] w λe w'=>∃ a b,e=μ (κ a 0 b)/\Below w.heap.size w w':=by
 refine(zf0 k f d w g).mono λe w' ⟨v,h,c,hb⟩=>?_
 obtain⟨a,b,rfl⟩:=zsC c (by rw[zm8,hp];rfl);exact⟨a,b,h,hb⟩
def qZ(w:u)(g k:Nat):Prop:=∀ j p:Nat,(S.parts k)[j]?=A p->w.cell? ⟨g,j,G⟩=A (J Q p)
theorem zk0(k:Nat)(h:k<32)(c:k≠30)(hp:0<(S.parts k).length)(w:u)(i:br w):Δ ω 327 #[J Q k] w λe w'=>∃ g a,e=μ (κ (A ⟨g,0,G⟩) (S.parts k).length a)/\qZ w' g k/\w.heap.size<=g/\g<w'.heap.size/\(S.parts k).length<=a/\Below w.heap.size w w':=by
 refine(zf0 k h c w i).mono λe w' ⟨v,d,b,hb⟩=>?_
 obtain⟨g,a,rfl,h1,h2,h3,h4⟩:=zdY b (by rw[zm8];exact hp);rw[zm8] at d h3 h4;refine⟨g,a,d,λj p f=>?_,h1,h2,h3,hb⟩;rw[h4 j (ay.1 f).1,zAi f]
theorem qZ.kept{w w':u}{g k B:Nat}(h:qZ w g k)(hb:Below B w w')(hB:g<B):qZ w' g k:=λj p a=>(hb.cell hB).trans (h j p a)
theorem zna(k:Nat)(a:k≠30):O.nameS k=aT (K.row k).1:=by unfold O.nameS;rw[ae a];rfl
def iJ(w:u)(g o:Nat)(l:List UInt8):Prop:=∀(j:Nat) (c:UInt8),l[j]?=A c->w.cell? ⟨g,o+j,G⟩=A (J au c.toNat)
theorem rq{w a:u}(h:Below w.heap.size w a)(k:Nat):Below w.heap.size w (a.drewN k):=by
 induction k with
 | zero=>exact h
 | succ k b=>exact b.drew
theorem byteCells_append(a b:List UInt8):aV a++aV b=aV (a++b):=by
 first|rfl|simp[aV]
theorem zcS(a:List UInt8):(aV a).length=a.length:=by
 first|rfl|simp[aV]
def jF(w:u)(v:π)(l:List UInt8):Prop:=(∃ a b,v=κ a 0 b/\l=[]) \/ ∃ g o b,v=κ (A ⟨g,o,G⟩) l.length b/\l.length<=b/\g<w.heap.size/\iJ w g o l
/-! ### the orders by their names -/
def j0(j:Nat):List (ByteArray × Int):=((cM j).filter (λk=>k != 30)).map (λk=>(O.nameS k,(k:Int)))
theorem zvK:∀ j,j<32->j≠30->(j0 j).find? (λp=>p.1 == O.nameS j)=G:=by decide +kernel
theorem zqJ{j:Nat}(h:j≠30):j0 (j+1)=j0 j++[(O.nameS j,(j:Int))]:=by
 unfold j0;rw[gP,gE];simp[h]
theorem zvL:j0 31=j0 30:=by
 unfold j0;rw[show (31:Nat)=30+1 from D,gP,gE];simp
theorem zsF{α β:Type}(f:α->β)(p:α->Bool)(q:β->Bool):∀ l:List α,((l.filter p).map f).find? q=(l.find? (λx=>p x && q (f x))).map f
 | []=>rfl
 | a::l=>by
  have b:=zsF f p q l;cases hp:p a
  ·simp[hp,b]
  ·cases c:q (f a)
   ·simp[hp,c,b]
   ·simp[hp,c]
theorem xE(l:List UInt8)(c:ByteArray):(aT l == c)=(l == bs c):=by
 rw[qD];by_cases h:l=bs c
 ·subst h;rw[mk_bs];simp
 ·have:¬ aT l=c:=λe=>h (by rw[<- e];rfl)
  rw[aG this];simp[h]
theorem zvM(c:ByteArray):(j0 32).find? (λp=>p.1 == c)=(S.opOf (bs c)).map (λk=>(O.nameS k,(k:Int))):=by
 unfold j0 S.opOf;rw[zsF];congr 1;congr 1;funext k
 by_cases h:k=30
 ·subst h;rfl
 ·have e:O.nameS k=aT (K.row k).1:=zna k h
  rw[e,xE]
/-! ### the reader -/
def pl(l:List (S.By × Nat)):List (ByteArray × Int):=l.map (λp=>(aT p.1,(p.2:Int)))
theorem zsG(l:List (S.By × Nat))(c:ByteArray):(pl l).find? (λp=>p.1 == c)=(l.find? (λp=>p.1 == bs c)).map (λp=>(aT p.1,(p.2:Int))):=by
 unfold pl;rw[List.find?_map];congr 2;funext p
 exact xE p.1 c
def iF:List (S.By × Nat × Nat)->List π
 | []=>[]
 | θ::a=>[Ω (aT θ.1),J Q θ.2.1,J Q θ.2.2]++iF a
theorem zem:∀ l (θ:S.By × Nat × Nat),iF (l++[θ])=iF l++[Ω (aT θ.1),J Q θ.2.1,J Q θ.2.2]
 | [],θ=>rfl
 | v::a,θ=>by simp[iF,zem a θ]
structure Rd (w : u) (B b mo mp : Nat) (ua : Option cK) (uc : Nat) (ra : Option cK) (rc : Nat) (st : S.St) (ln : Nat) : Prop where
 hB:B<=b
 blk:w.heap[b]?=A (χ #[.map (A mo),.map (A mp),κ ua st.uses.length uc,κ ra st.rom.length rc,J Q ln] 220 (0,0))
 ops:kM w mo (j0 32)
 places:kM w mp (pl st.places)
 hmp:B<=mp
 ne:mo≠mp
 uses:w.ownsRow B 277 3 (κ ua st.uses.length uc) st.uses.length (iF st.uses)
 rom:w.ownsRow B 5 1 (κ ra st.rom.length rc) st.rom.length (aV st.rom)
section
variable {w w' : u} {B b mo mp : Nat} {ua ra : Option cK} {uc rc : Nat} {st : S.St} {ln : Nat}
theorem Rd.lt(h:Rd w B b mo mp ua uc ra rc st ln):b<w.heap.size:=(aa.1 h.blk).1
theorem Rd.cell(h:Rd w B b mo mp ua uc ra rc st ln)(i:Nat):w.cell? ⟨b,i,G⟩=(#[.map (A mo),.map (A mp),κ ua st.uses.length uc,κ ra st.rom.length rc,J Q ln]:Array π)[i]?:=Lib.cell_of_heap h.blk i
theorem Rd.frozen(h:Rd w B b mo mp ua uc ra rc st ln)(i:Nat):w.frozen? ⟨b,i,G⟩=ξ:=Lib.frozen_of_heap h.blk i
theorem Rd.kept(h:Rd w B b mo mp ua uc ra rc st ln)(hb:Below w.heap.size w w'):Rd w' B b mo mp ua uc ra rc st ln :=
 ⟨h.hB,(hb.block b h.lt).trans h.blk,h.ops.below hb h.ops.lt,h.places.below hb h.places.lt,h.hmp,h.ne,h.uses.kept (rx hb) (rX _),h.rom.kept (rx hb) (rX _)⟩
theorem wg{w:u}{B:Nat}{e:aJ}{s:Nat}{v:π}{n:Nat}{xs:List π}{x:Nat}{o:Obj}(b:w.ownsRow B e s v n xs)(hb:w.heap[x]?=A o)(c:∀ a,o ≠ χ a e (0,0)):v.ownBlock≠A x:=by
 rcases b.2 with⟨rfl,_⟩|⟨g,d,a,rfl,_,f,_⟩
 ·simp[im]
 ·intro h
  simp only[im,aZ] at h;subst h;rw[f] at hb;exact c a (aL hb).symm
theorem Rd.rom_b(h:Rd w B b mo mp ua uc ra rc st ln):(κ ra st.rom.length rc).ownBlock≠A b:=wg h.rom h.blk (λa e=>by simp at e)
theorem Rd.uses_b(h:Rd w B b mo mp ua uc ra rc st ln):(κ ua st.uses.length uc).ownBlock≠A b:=wg h.uses h.blk (λa e=>by simp at e)
theorem Rd.rom_mp(h:Rd w B b mo mp ua uc ra rc st ln):(κ ra st.rom.length rc).ownBlock≠A mp:=by
 obtain⟨es,c,hb,_⟩:=h.places;exact wg h.rom hb (λa e=>by simp at e)
theorem Rd.uses_mp(h:Rd w B b mo mp ua uc ra rc st ln):(κ ua st.uses.length uc).ownBlock≠A mp:=by
 obtain⟨es,c,hb,_⟩:=h.places;exact wg h.uses hb (λa e=>by simp at e)
theorem Rd.rom_mo(h:Rd w B b mo mp ua uc ra rc st ln):(κ ra st.rom.length rc).ownBlock≠A mo:=by
 obtain⟨es,c,hb,_⟩:=h.ops;exact wg h.rom hb (λa e=>by simp at e)
theorem Rd.uses_mo(h:Rd w B b mo mp ua uc ra rc st ln):(κ ua st.uses.length uc).ownBlock≠A mo:=by
 obtain⟨es,c,hb,_⟩:=h.ops;exact wg h.uses hb (λa e=>by simp at e)
theorem Rd.mp_b(h:Rd w B b mo mp ua uc ra rc st ln):b≠mp:=λe=>by
 obtain⟨es,c,hb,_⟩:=h.places;rw[<- e,h.blk] at hb;simp at hb
theorem Rd.mo_b(h:Rd w B b mo mp ua uc ra rc st ln):b≠mo:=λe=>by
 obtain⟨es,c,hb,_⟩:=h.ops;rw[<- e,h.blk] at hb;simp at hb
theorem Rd.rows(h:Rd w B b mo mp ua uc ra rc st ln):(κ ua st.uses.length uc).ownBlock=G \/ (κ ua st.uses.length uc).ownBlock≠(κ ra st.rom.length rc).ownBlock:=by
 cases a:(κ ua st.uses.length uc).ownBlock with
 | none=>exact Or.inl D
 | some x =>
  refine ao (λe=>?_);rcases h.uses.2 with⟨c,_⟩|⟨g,f,i,c,_,j,_⟩
  ·rw[c] at a;simp[im] at a
  ·rw[c] at a
   simp only[im,aZ] at a;subst a;exact wg h.rom j (λd k=>by simp at k) e.symm
theorem zb2{w:u}{b i:Nat}{cs:Array π}{t:aJ}{fr:Nat × Nat}(h:w.heap[b]?=A (χ cs t fr))(v:π):(w.setCell ⟨b,i,G⟩ v).heap[b]?=A (χ (cs.setIfInBounds i v) t fr):=by
 simp[jn,j4,h]
theorem za(w:u)(b i:Nat)(v:π):w.grownBy (w.setCell ⟨b,i,G⟩ v) (A b) :=
 ⟨D,D,D,by simp[jn],λk _ a=>cF _ _ _ _ (λe=>a (by rw[e]))⟩
theorem qB{w w':u}{x:Option Nat}(b:w.grownBy w' x){k:Nat}(c:k<w.heap.size)(a:A k≠x):w'.heap[k]?=w.heap[k]?:=b.block k c a
theorem Rd.put_rom(h:Rd w B b mo mp ua uc ra rc st ln){w1:u}(i:w.grownBy w1 (κ ra st.rom.length rc).ownBlock){ra':Option cK}{rc':Nat}{rom':S.By}(c:w1.ownsRow B 5 1 (.slice ra' rom'.length rc') rom'.length (aV rom')):Rd (w1.setCell ⟨b,3,G⟩ (.slice ra' rom'.length rc')) B b mo mp ua uc ra' rc' { st with rom:=rom' } ln:=by
 have d:w1.heap[b]?=_:=(qB i h.lt (bZ h.rom_b)).trans h.blk;have a:=za w1 b 3 (.slice ra' rom'.length rc');have f:kM w1 mo (j0 32):=h.ops.of_block (qB i h.ops.lt (bZ h.rom_mo));have g:kM w1 mp (pl st.places):=h.places.of_block (qB i h.places.lt (bZ h.rom_mp));have j:=h.uses.kept i h.rows;refine⟨h.hB,(zb2 d _).trans (by simp),f.of_block (qB a f.lt (λe=>h.mo_b (aL e).symm)),g.of_block (qB a g.lt (λe=>h.mp_b (aL e).symm)),h.hmp,h.ne,j.kept a (ao h.uses_b),c.kept a (ao (wg c d (λk e=>by simp at e)))⟩
theorem Rd.put_uses(h:Rd w B b mo mp ua uc ra rc st ln){w1:u}(i:w.grownBy w1 (κ ua st.uses.length uc).ownBlock){ua':Option cK}{uc':Nat}{us':List (S.By × Nat × Nat)}(c:w1.ownsRow B 277 3 (.slice ua' us'.length uc') us'.length (iF us')):Rd (w1.setCell ⟨b,2,G⟩ (.slice ua' us'.length uc')) B b mo mp ua' uc' ra rc { st with uses:=us' } ln:=by
 have d:w1.heap[b]?=_:=(qB i h.lt (bZ h.uses_b)).trans h.blk;have a:=za w1 b 2 (.slice ua' us'.length uc');have f:kM w1 mo (j0 32):=h.ops.of_block (qB i h.ops.lt (bZ h.uses_mo));have g:kM w1 mp (pl st.places):=h.places.of_block (qB i h.places.lt (bZ h.uses_mp))
 have j:=h.rom.kept i (by rcases h.rows with k|k
                          ·rw[k];exact rX _
                          ·exact ao (λe=>k e.symm))
 refine⟨h.hB,(zb2 d _).trans (by simp),f.of_block (qB a f.lt (λe=>h.mo_b (aL e).symm)),g.of_block (qB a g.lt (λe=>h.mp_b (aL e).symm)),h.hmp,h.ne,c.kept a (ao (wg c d (λl e=>by simp at e))),j.kept a (ao h.rom_b)⟩
theorem Rd.put_line(h:Rd w B b mo mp ua uc ra rc st ln)(ln':Nat):Rd (w.setCell ⟨b,4,G⟩ (J Q ln')) B b mo mp ua uc ra rc st ln':=by
 have a:=za w b 4 (J Q ln');exact⟨h.hB,(zb2 h.blk _).trans (by simp),h.ops.of_block (qB a h.ops.lt (λe=>h.mo_b (aL e).symm)),h.places.of_block (qB a h.places.lt (λe=>h.mp_b (aL e).symm)),h.hmp,h.ne,h.uses.kept a (ao h.uses_b),h.rom.kept a (ao h.rom_b)⟩
theorem Rd.put_place(h:Rd w B b mo mp ua uc ra rc st ln){w1:u}(a:w.grownBy w1 (A mp)){ps:List (S.By × Nat)}(c:kM w1 mp (pl ps)):Rd w1 B b mo mp ua uc ra rc { st with places:=ps } ln :=
 ⟨h.hB,(qB a h.lt (λe=>h.mp_b (aL e))).trans h.blk,h.ops.of_block (qB a h.ops.lt (λe=>h.ne (aL e))),c,h.hmp,h.ne,h.uses.kept a (ao h.uses_mp),h.rom.kept a (ao h.rom_mp)⟩
end
theorem zpM(p:Option cK)(v:Int)(w:u):Δ ω 329 #[.pointer p,J Q v,ν Γ] w λe w'=>e=μ (J Q v)/\w'=w:=by
 go_enter func329,ntmps329;go_wp2;go_ret;exact⟨D,D⟩
theorem zsH{l:S.By}{n:Int}(h:S.num l=A n):gU l=.ok n/\ba n=l:=by
 unfold S.num at h;split at h
 ·rename_i v a
  split at h
  ·rename_i hi
   cases h;exact⟨a,hi⟩
  ·cases h
 ·cases h
theorem zys(s:ByteArray)(n:Int)(b:s.size<=10000)(h:gU (bs s)=.ok n)(w:u):Δ ω 170 #[Ω s] w λe w'=>e=μ (Ψ #[J Q n,.nilIface])/\Below w.heap.size w w':=by
 refine(Tryz.strconv_Atoi_ok s (by omega) n h w).mono λe w' a=>⟨a.1,?_⟩
 rcases a.2 with rfl|⟨t,rfl⟩
 ·exact aR _
 ·exact Joins.below_bytesWorld _ _ _ _ (ψ _)
theorem zk5(s:ByteArray)(n:Int)(d:s.size<=10000)(h:S.num (bs s)=A n)(w:u)(b:AF w):Δ ω 330 #[Ω s] w λe w'=>e=μ (Ψ #[J Q n,ν Γ])/\Below w.heap.size w w':=by
 obtain⟨h1,h2⟩:=zsH h;obtain⟨b0,b1⟩:=Lib.atoiAll_bounds h1;have f:=hid (zys s n d h1 w);have g:bG (∀ w,AF w->Δ ω 104 #[J Q n] w λe w'=>e=μ (Ω s)/\Below w.heap.size w w'):=λw b=>by
  have:=rp n b0 b1 w b;rw[h2,mk_bs] at this;exact this
 have i:=hid b;have j:(s == s)=Γ:=by rw[qD];simp
 clear h h1 h2 b;go_enter func330,ntmps330;go_wp2_with (first
  | (go_at_call 170;refine f.out.mono ?_;rintro e w1 ⟨rfl,a⟩)
  | (go_at_call 104;refine(g.out _ (i.out.kept a)).mono ?_;rintro e w2 ⟨rfl,c⟩))
 go_ret2
 exact⟨D,bw a c⟩
theorem zf3(p:Option cK)(s:ByteArray)(h:S.nameOk (bs s)=Γ)(w:u):Δ ω 325 #[.pointer p,Ω s] w λe w'=>e=μ (Ψ #[J Q 0,Ω s])/\w'=w:=by
 have a:=hid (zdX s w);rw[h] at a;clear h;go_enter func325,ntmps325;go_wp2_with (go_at_call 324;refine a.out.mono ?_;rintro e w' ⟨rfl,rfl⟩)
 go_ret2
 exact⟨D,D⟩
theorem zg8(p:Option cK)(s:ByteArray)(n:Int)(d:s.size<=10000)(h:S.nameOk (bs s)=ξ)(h2:S.num (bs s)=A n)(w:u)(b:AF w):Δ ω 325 #[.pointer p,Ω s] w λe w'=>e=μ (Ψ #[J Q n,Ω (aT [])])/\Below w.heap.size w w':=by
 have c:=hid (zdX s w);rw[h] at c;have f:=hid (zk5 s n d h2 w b);clear h h2 b;go_enter func325,ntmps325;go_wp2_with (first
  | (go_at_call 324;refine c.out.mono ?_;rintro e w' ⟨rfl,rfl⟩)
  | (go_at_call 330;refine f.out.mono ?_;rintro e w1 ⟨rfl,a⟩)
  | (go_at_call 329;refine(zpM p n _).mono ?_;rintro e w' ⟨rfl,rfl⟩))
 go_ret2
 exact⟨D,a⟩
theorem zen(p:Option cK)(s:ByteArray)(x:Int × S.By)(d:s.size<=10000)(h:S.wordOrName (bs s)=A x)(w:u)(f:AF w):Δ ω 325 #[.pointer p,Ω s] w λe w'=>e=μ (Ψ #[J Q x.1,Ω (aT x.2)])/\Below w.heap.size w w':=by
 unfold S.wordOrName at h;cases a:S.nameOk (bs s) with
 | true =>
  rw[a] at h;cases h;refine(zf3 p s a w).mono λe w' c=>⟨c.1.trans ?_,c.2 ▸ aR _⟩
  rw[mk_bs]
 | false =>
  rw[a] at h;cases b:S.num (bs s) with
  | none=>rw[b] at h;cases h
  | some n =>
   rw[b] at h;cases h;exact zg8 p s n d a b w f
theorem zji(w:u)(o:br w):Δ ω 128 #[] w λe w'=>e=μ (.map (A w.heap.size))/\kM w' w.heap.size (j0 32)/\Below w.heap.size w w':=by
 have p:=hid o;have r:=@lL ω;clear o;go_enter func128,ntmps128;go_wp2;go_loopw [2] (λi wr=>∃ j:Nat,j<=32/\i=J Q j/\kM wr w.heap.size (j0 j)/\Below w.heap.size w wr) (λi _=>32-(aU i).toNat)
 case atStart=>exact⟨0,by omega,D,zk4 w,(aR w).alloc (ψ _) _⟩
 case round =>
  obtain⟨j,v,rfl,d,a⟩:=hrel;by_cases f:j<32
  ·have q:(j:Int)<=31:=by omega
   by_cases c:j=30
   ·subst c
    have h:=hid (zsA 30 (by decide) wr (p.out.kept a));go_wp2_with (go_at_call 206;refine h.out.mono ?_;rintro e w1 ⟨rfl,b⟩)
    go_roundw
    case rel=>exact⟨31,by omega,by go_num,by rw[zvL];exact d.below b d.lt,bw a b⟩
    case measure=>simp[aU]
   ·have h:=hid (ze1 j f c wr (p.out.kept a))
    have s:=hid (zvK j f c);go_wp2_with (first
     | (go_at_call 206;refine h.out.mono ?_;rintro e w1 ⟨rfl,b⟩;have l:=d.below b d.lt)
     | (at_mapUpdate;refine zg7 _ (by rfl) _ _ _ _ (by rfl) 9 3 underlying216 underlying9 w.heap.size (j0 j) (by rfl) l (O.nameS j) j (by rfl) (by rfl) s.out ?_;intro w2 m n))
    go_roundw
    case rel=>exact⟨j+1,by omega,by go_num,by rw[zqJ c];exact m,(bw a b).grown n (ax a.size b.size) (λk t=>by cases t;exact ψ _)⟩
    case measure=>simp[aU];omega
  ·have g:j=32:=by omega
   subst g;go_wp2;go_ret;exact⟨D,d,a⟩
theorem zif(a:Int)(w:u)(c:0<=a)(b:a<=65535):Δ ω 209 #[J Y a] w λe w'=>e=μ (Ψ #[J au (a/256),J au (a%256)])/\w=w':=by
 go_enter func209,ntmps209;go_wp2
 go_ret2
 exact⟨D,D⟩
theorem zyt:(Tryz.prog.info? 5).map (λi=>(i.zero,i.size,i.bytes))=A (A (J au 0),1,1):=by kernel_rfl
theorem zvN:(Tryz.prog.info? 277).map (λi=>(i.zero,i.size,i.bytes))=A (A (ac #[Ω ⟨#[]⟩,J Q 0,J Q 0]),3,32):=by kernel_rfl
theorem zk7{ws:List Int}{j:Nat}{x:Int}(h:ws[j]?=A x):S.bytesOf (ws.take (j+1))=S.bytesOf (ws.take j)++[bF (x/256).toNat,bF (x%256).toNat]:=by
 have c:∀ a b:List Int,S.bytesOf (a++b)=S.bytesOf a++S.bytesOf b:=λa b=>by
  induction a with
  | nil=>rfl
  | cons y a d=>simp[S.bytesOf,d]
 rw[ek,h,c];rfl
theorem zc:∀ ws:List Int,(S.bytesOf ws).length=2*ws.length
 | []=>rfl
 | x::ws=>by simp[S.bytesOf,zc ws];omega
theorem zqK(x:Int)(a:0<=x)(h1:x<=65535):aV [bF (x/256).toNat,bF (x%256).toNat]=[J au (x/256),J au (x%256)]:=by
 have e1:(bF (x/256).toNat).toNat=(x/256).toNat:=by simp;omega
 have e2:(bF (x%256).toNat).toNat=(x%256).toNat:=by simp;omega
 simp only[aV,cI,dQ,e1,e2];rw[show (((x/256).toNat:Nat):Int)=x/256 by omega,show (((x%256).toNat:Nat):Int)=x%256 by omega]
theorem yb(l:S.By):(aT l).toList.isEmpty=l.isEmpty:=by rw[Lib.toList_data];rfl
theorem wordsAt.block{w w':u}{g:Nat}{l:List Int}(h:wordsAt w g l)(e:w'.heap[g]?=w.heap[g]?):wordsAt w' g l:=λi hi=>(Φ (w:=w) e).trans (h i hi)
section
variable {w w1 : u} {B b mo mp : Nat} {ua ra : Option cK} {uc rc : Nat} {st : S.St} {ln : Nat}
end
theorem zAk(w:u)(B b mo mp:Nat)(ua ra:Option cK)(uc rc:Nat)(st:S.St)(ln:Nat)(N:Rd w B b mo mp ua uc ra rc st ln)(g c:Nat)(ws:List Int)(nm:S.By)(hw:wordsAt w g ws)(hg:g<w.heap.size)
 (hgr:(κ ra st.rom.length rc).ownBlock≠A g) (hgb:g≠b) (P:∀ x∈ws,0<=x/\x<=65535) (hw0:0<ws.length) (hm:st.rom.length+2*ws.length<=1024) (hc:ws.length<=c) (hBw:B<=w.heap.size) (R:st.uses.length+1<=1000000) :
 Δ ω 326 #[aB (A ⟨b,0,G⟩),κ (A ⟨g,0,G⟩) ws.length c,Ω (aT nm)] w λe w' =>
  e=μ (Ψ #[])/\(∃ ua' uc' ra' rc',Rd w' B b mo mp ua' uc' ra' rc' ⟨st.rom++S.bytesOf ws,st.places,if nm=[] then st.uses else st.uses++[(nm,st.rom.length+2*ws.length-2,ln)]⟩ ln)/\Below B w w':=by
 obtain⟨i0,hi0,hz0,hz1,hz2⟩:=info_parts zyt;have hlt:=N.lt;have T:=N.hB;have c3:w.cell? ⟨b,3,G⟩=A (κ ra st.rom.length rc):=N.cell 3;have HR:=hid N;have HW:=hid P;have HWA:=hid hw;have hm1:¬ (1024:Int)<st.rom.length+2*ws.length:=by omega
 clear N P hw;go_enter func326,ntmps326;go_wp2;go_loopw [24] (λi wr=>∃(j:Nat) (ra':Option cK) (rc':Nat),j<=ws.length/\i=J Q j/\Rd wr B b mo mp ua uc ra' rc' { st with rom:=st.rom++S.bytesOf (ws.take j) } ln/\Below B w wr/\wordsAt wr g ws/\g<wr.heap.size/\(κ ra' (st.rom++S.bytesOf (ws.take j)).length rc').ownBlock≠A g) (λi _=>ws.length-(aU i).toNat)
 case atStart=>exact⟨0,ra,rc,by omega,D,by simpa [S.bytesOf] using HR.out,bq _ _,HWA.out,hg,by simpa [S.bytesOf] using hgr⟩
 case round =>
  obtain⟨j,ra',rc',hj,rfl,f,q,U,hg1,V⟩:=hrel;have s:=ax hBw q.size;by_cases v:j<ws.length
  ·have hlt':(j:Int)<ws.length:=by omega
   obtain⟨x,hx⟩:∃ x,ws[j]?=A x:=⟨_,aq v⟩
   obtain⟨x0,x1⟩:=HW.out x (bu hx);have cw:wr.cell? ⟨g,j,G⟩=A (J Y x):=by
    have:=U j v;rw[show ws.getD j 0=x by simp[List.getD,hx]] at this;exact this
   obtain⟨L,I⟩:∃ L:Nat,L=(st.rom++S.bytesOf (ws.take j)).length:=⟨_,D⟩
   have W:L=st.rom.length+2*j:=by rw[I,az,zc,bD];omega
   have c3r:wr.cell? ⟨b,3,G⟩=A (.slice ra' L rc'):=by rw[I];exact f.cell 3
   have hbr:=f.lt;have d:=hid (f.kept (stA (aR wr) (χ #[J au (x/256),J au (x%256)] 5)));have y:(wr.alloc (χ #[J au (x/256),J au (x%256)] 5)).ownsRow B 5 1 (.slice ra' L rc') L (aV (st.rom++S.bytesOf (ws.take j))):=by rw[I];exact d.out.rom
   have HX:=hid hx;have HROW:=hid y;have HL:=hid I;have HLB:=hid W;have hLm:L+2<=1024:=by omega
   have F:bG (∀ l,(wr.alloc (χ #[J au (x/256),J au (x%256)] 5)).grownBy l (κ ra' L rc').ownBlock->l.frozen? ⟨b,3,G⟩=ξ/\b<l.heap.size/\l.cell? ⟨b,3,G⟩=A (.slice ra' L rc')):=λl m=>by
    rw[I] at m ⊢;have o:=(qB m d.out.lt (bZ d.out.rom_b)).trans d.out.blk;exact⟨Lib.frozen_of_heap o 3,Θ d.out.lt m.size,Lib.cell_of_heap o 3⟩
   clear hx c3 I W y f;go_wp2_with (first
    | (go_at_call 209;refine(zif x _ x0 x1).mono ?_;rintro e w' ⟨rfl,rfl⟩)
    | (at_builtin;refine wpList_append_lies _ (by rfl) _ _ _ (by rfl) B 5 i0 _ 1 1 underlying26 hi0 hz0 hz1 hz2 D (by omega) _ L _ (by rfl) HROW.out ⟨wr.heap.size,0,G⟩ 2 2 [J au (x/256),J au (x%256)] (by rfl) (by rfl) (World.news_of_block (cs:=#[J au (x/256),J au (x%256)]) (t:=5) (fr:=(0,0)) (aM wr _)) (by simp[bi]) (by omega) (by unfold dI;omega) (by omega) (by simp;omega) (wr.heap.size+1) (by simp) ?_;intro p cp l n a X Z;obtain⟨f3,z3,d3⟩:=F.out l a))
   have e2:st.rom++S.bytesOf (ws.take (j+1))=(st.rom++S.bytesOf (ws.take j))++[bF (x/256).toNat,bF (x%256).toNat]:=by rw[zk7 HX.out,bK]
   have hl2:(st.rom++S.bytesOf (ws.take (j+1))).length=L+2:=by rw[e2,az,<- HL.out];rfl
   have r:aV (st.rom++S.bytesOf (ws.take (j+1)))=aV (st.rom++S.bytesOf (ws.take j))++[J au (x/256),J au (x%256)]:=by rw[e2,<- byteCells_append,zqK x x0 x1]
   have z:=d.out.put_rom (ra':=A ⟨p,0,G⟩) (rc':=cp) (rom':=st.rom++S.bytesOf (ws.take (j+1))) (by rw[HL.out] at a;exact a) (by rw[hl2,r];exact n);rw[hl2] at z;have E:(κ ra' L rc').ownBlock≠A g:=by rw[HL.out];exact V
   refine⟨⟨j+1,A ⟨p,0,G⟩,cp,by omega,by simp,z,(((q.alloc s _).grown a (by simp;omega) (λk hk=>(HROW.out.lt k hk).1)).setCell T _),?_,?_,?_⟩,by simp[aU];omega⟩
   ·refine U.block ((cF _ _ _ _ hgb).trans ((qB a (by simp;omega) (bZ E)).trans (bJ _ _ hg1)))
   ·have:=a.size;simp at this ⊢;omega
   ·simp only[im,ne_eq,aZ]
    rcases X with h|h
    ·intro e;rw[e] at h;exact E h
    ·omega
  ·have hjn:j=ws.length:=by omega
   subst hjn;rw[ja] at f;by_cases hnm:nm=[]
   ·subst hnm
    have he:(aT []).toList.isEmpty=Γ:=yb [];go_wp2;go_end0;exact⟨D,⟨ua,uc,ra',rc',f⟩,q⟩
   ·have he:(aT nm).toList.isEmpty=ξ:=by rw[yb];cases nm <;> simp_all
    obtain⟨i1,hj0,hy0,hy1,hy2⟩:=info_parts zvN;obtain⟨M,hM⟩:∃ M:Nat,(st.rom++S.bytesOf ws).length=M+2:=⟨st.rom.length+2*ws.length-2,by rw[az,zc];omega⟩
    have H:M=st.rom.length+2*ws.length-2:=by rw[az,zc] at hM;omega
    have c2:wr.cell? ⟨b,2,G⟩=A (κ ua st.uses.length uc):=f.cell 2;have c3r:wr.cell? ⟨b,3,G⟩=A (.slice ra' (M+2) rc'):=by rw[<- hM];exact f.cell 3
    have c4:wr.cell? ⟨b,4,G⟩=A (J Q ln):=f.cell 4;have hbr:=f.lt;have hM1:M<=1022:=by omega
    have d:=hid (f.kept (stA (aR wr) (χ #[Ω (aT nm),J Q M,J Q ln] 277)).drew);have hU:bG (((wr.alloc (χ #[Ω (aT nm),J Q M,J Q ln] 277)).drew).ownsRow B 277 3 (κ ua st.uses.length uc) st.uses.length (iF st.uses)):=d.out.uses;have hN:bG (∀ j θ,([Ω (aT nm),J Q M,J Q ln]:List π)[j]?=A θ->((wr.alloc (χ #[Ω (aT nm),J Q M,J Q ln] 277)).drew).cell? ((⟨wr.heap.size,0,G⟩:cK).add j)=A θ):=World.news_of_block (cs:=#[Ω (aT nm),J Q M,J Q ln]) (t:=277) (fr:=(0,0)) (aM wr _);have hO:bG (∀ θ∈([Ω (aT nm),J Q M,J Q ln]:List π),θ.oneCell'=Γ):=by intro θ hu;simp at hu;rcases hu with rfl|rfl|rfl <;> rfl
    have hul:bG (st.uses.length+1<=1000000):=R;have F:bG (∀ l,((wr.alloc (χ #[Ω (aT nm),J Q M,J Q ln] 277)).drew).grownBy l (κ ua st.uses.length uc).ownBlock->l.frozen? ⟨b,2,G⟩=ξ/\b<l.heap.size/\l.cell? ⟨b,2,G⟩=A (κ ua st.uses.length uc)):=λl m=>by
     have o:=(qB m d.out.lt (bZ d.out.uses_b)).trans d.out.blk;exact⟨Lib.frozen_of_heap o 2,Θ d.out.lt m.size,Lib.cell_of_heap o 2⟩
    have hbs:bG (B<=((wr.alloc (χ #[Ω (aT nm),J Q M,J Q ln] 277)).drew).heap.size):=by show B<=_;simp;omega
    have h63:bG (st.uses.length+1<=dI):=by show _<=_;unfold dI;omega
    have hby:bG ((st.uses.length+1)*32<=140737488355328):=by show _<=_;omega
    have HK:bG (∀(p cp:Nat) (l:u),l.ownsRow B 277 3 (κ (A ⟨p,0,G⟩) (st.uses.length+1) cp) (st.uses.length+1) (iF st.uses++[Ω (aT nm),J Q M,J Q ln])->((wr.alloc (χ #[Ω (aT nm),J Q M,J Q ln] 277)).drew).grownBy l (κ ua st.uses.length uc).ownBlock ->
     Rd (l.setCell ⟨b,2,G⟩ (κ (A ⟨p,0,G⟩) (st.uses.length+1) cp)) B b mo mp (A ⟨p,0,G⟩) cp ra' rc' ⟨st.rom++S.bytesOf ws,st.places,st.uses++[(nm,st.rom.length+2*ws.length-2,ln)]⟩ ln/\Below B w (l.setCell ⟨b,2,G⟩ (κ (A ⟨p,0,G⟩) (st.uses.length+1) cp))):=λp cp l hown m=>by
     have hl:(st.uses++[(nm,M,ln)]).length=st.uses.length+1:=by simp
     have:=d.out.put_uses (us':=st.uses++[(nm,M,ln)]) (ua':=A ⟨p,0,G⟩) (uc':=cp) m (by rw[hl,zem];exact hown);rw[hl] at this;rw[<- H];exact⟨this,((((q.alloc s _).drew).grown m hbs.out (λk hk=>(d.out.uses.lt k hk).1)).setCell T _)⟩
    have hwr:IntKind.i64.wrap (M:Int)=M:=by rw[aH];omega
    have HM:=hid hM;have HMB:=hid H;clear f c3 hM H;go_wp2;go_region_law (refine step_append_lies _ (by rfl) (.tmp 51) (.tmp 64) 218 (by rfl) B 277 i1 _ 3 32 underlying218 hj0 hy0 hy1 hy2 D (by omega) (κ ua st.uses.length uc) st.uses.length (iF st.uses) (by simp[rM]) hU.out ⟨wr.heap.size,0,G⟩ 1 1 [Ω (aT nm),J Q M,J Q ln] (by simp[rM]) D hN.out hO.out (by omega) h63.out hby.out hbs.out (wr.heap.size+1) (by simp) ?_;intro p cp l n a X Z;obtain⟨f3,z3,d3⟩:=F.out l a)
    all_goals
     go_wp2;go_end0;obtain⟨k1,k2⟩:=HK.out p cp l n a;exact⟨D,⟨_,_,_,_,k1⟩,k2⟩
theorem zjj{ws:List Int}{nm:S.By}{ln:Nat}{st a:S.St}(h:S.put ws nm ln st=.ok a):st.rom.length+2*ws.length<=1024/\a=⟨st.rom++S.bytesOf ws,st.places,if nm=[] then st.uses else st.uses++[(nm,st.rom.length+2*ws.length-2,ln)]⟩:=by
 unfold S.put at h;split at h
 ·cases h
 ·cases h
  exact⟨by omega,D⟩
theorem zsI(w:u)(B b mo mp:Nat)(ua ra:Option cK)(uc rc:Nat)(st a:S.St)(ln:Nat)(l:Rd w B b mo mp ua uc ra rc st ln)(g c:Nat)(ws:List Int)(nm:S.By)(m:S.put ws nm ln st=.ok a)(n:wordsAt w g ws)(o:g<w.heap.size)
 (f:(κ ra st.rom.length rc).ownBlock≠A g) (h:g≠b) (i:∀ x∈ws,0<=x/\x<=65535) (j:0<ws.length) (hc:ws.length<=c) (k:B<=w.heap.size) (d:st.uses.length+1<=1000000) :
 Δ ω 326 #[aB (A ⟨b,0,G⟩),κ (A ⟨g,0,G⟩) ws.length c,Ω (aT nm)] w λe w' =>
  e=μ (Ψ #[])/\(∃ ua' uc' ra' rc',Rd w' B b mo mp ua' uc' ra' rc' a ln)/\Below B w w':=by
 obtain⟨h1,h2⟩:=zjj m;subst h2;exact zAk w B b mo mp ua ra uc rc st ln l g c ws nm n o f h i j h1 hc k d
theorem bB{B:Nat}{w w':u}(hB:B<=w.heap.size)(h:Below w.heap.size w w'):Below B w w':=h.mono hB
theorem zjk{p:S.By}{ln:Nat}{st a:S.St}(h:S.readWord [p] ln st=.ok a):∃ v nm,S.wordOrName p=A (v,nm)/\0<=v/\v<=65535/\S.put [v] nm ln st=.ok a:=by
 unfold S.readWord at h;simp only at h;split at h
 ·rename_i v nm b
  split at h
  ·cases h
  ·exact⟨v,nm,b,by omega,by omega,h⟩
 ·cases h
theorem yQ(w1:u)(B b mo mp:Nat)(ua ra:Option cK)(uc rc:Nat)(st a:S.St)(ln:Nat)(d:Rd w1 B b mo mp ua uc ra rc st ln)(v:Int)(nm:S.By)(g:S.put [v] nm ln st=.ok a)(v0:0<=v)(l:v<=65535)(f:B<=w1.heap.size)(c:st.uses.length+1<=1000000):Δ ω 326 #[aB (A ⟨b,0,G⟩),κ (A ⟨w1.heap.size,0,G⟩) 1 1,Ω (aT nm)] (w1.alloc (χ #[J Y v] 22)) λe w' =>
  e=μ (Ψ #[])/\(∃ ua' uc' ra' rc',Rd w' B b mo mp ua' uc' ra' rc' a ln)/\Below B w1 w':=by
 have j:=d.lt;refine(zsI _ B b mo mp ua ra uc rc st a ln (d.kept (stA (aR _) _)) w1.heap.size 1 [v] nm g ?_ (by simp) (λh=>?_) (by omega) (by simp;omega) (by simp) (by simp) (by simp;omega) c).mono λe w' ⟨k,h1,h2⟩=>⟨k,h1,((bq _ _).alloc f _).trans h2⟩
 ·intro i hi
  obtain rfl:i=0:=by simpa using hi
  exact ly _ _ _ _ D
 ·have:=(d.rom.lt _ h).2;omega
theorem znf(w:u)(B b mo mp:Nat)(ua ra:Option cK)(uc rc:Nat)(st f:S.St)(ln:Nat)(n:Rd w B b mo mp ua uc ra rc st ln)(g c:Nat)(p:S.By)(hp:p.length<=4000)(k:w.cell? ⟨g,0,G⟩=A (Ω (aT p)))(H:g<w.heap.size)(hc:1<=c)
 (o:S.readWord [p] ln st=.ok f) (h:B<=w.heap.size) (i:st.uses.length+1<=1000000) (q:AF w) :
 Δ ω 259 #[aB (A ⟨b,0,G⟩),κ (A ⟨g,0,G⟩) 1 c] w λe w' =>
  e=μ (Ψ #[])/\(∃ ua' uc' ra' rc',Rd w' B b mo mp ua' uc' ra' rc' f ln)/\Below B w w':=by
 obtain⟨v,nm,r,v0,t,d⟩:=zjk o;have x:=hid (zen (A ⟨b,0,G⟩) (aT p) (v,nm) (by rw[sU];omega) r w q);have s:=hid n;have y:=hid d;have z:¬ v<0:=by omega
 have E:¬ 65535<v:=by omega
 clear n d o r q;go_enter func259,ntmps259;go_wp2_with (first
  | (go_at_call 325;refine x.out.mono ?_;rintro e w1 ⟨rfl,a⟩;have F:=s.out.kept (stA a (χ #[J Y v] 22));have j:=ax h a.size)
  | (go_at_call 326;refine(yQ w1 B b mo mp ua ra uc rc st f ln (s.out.kept a) v nm y.out v0 t j i).mono ?_;rintro e w2 ⟨rfl,l,m⟩))
 go_end0;exact⟨D,l,(bB h a).trans m⟩
theorem zf4{name:S.By}{st a:S.St}(h:S.readPlace name st=.ok a):S.nameOk name=Γ/\st.places.find? (λp=>p.1 == name)=G/\a={ st with places:=st.places++[(name,st.rom.length)] }:=by
 unfold S.readPlace at h;split at h
 ·rename_i b
  split at h
  ·cases h
  ·rename_i c
   cases h;exact⟨b,c,D⟩
 ·cases h
theorem zqL(s:ByteArray)(w:u):Δ ω 324 #[Ω s] w λe w'=>e=μ (ν (S.nameOk (bs s)))/\w=w':=(zdX s w).mono λe w' a=>⟨a.1,a.2.symm⟩
theorem zjl(w:u):(zeroValue 3).run ω w=.ok (J Q 0) w:=by kernel_rfl
theorem zyu(l:List (S.By × Nat))(a:S.By)(n:Nat):pl (l++[(a,n)])=pl l++[(aT a,(n:Int))]:=by unfold pl;simp
theorem zk8(w:u)(B b mo mp:Nat)(ua ra:Option cK)(uc rc:Nat)(st d:S.St)(ln:Nat)(a:Rd w B b mo mp ua uc ra rc st ln)(name:S.By)(m:S.readPlace name st=.ok d)(j:B<=w.heap.size):Δ ω 258 #[aB (A ⟨b,0,G⟩),Ω (aT name)] w λe w' =>
  e=μ (Ψ #[])/\(∃ ua' uc' ra' rc',Rd w' B b mo mp ua' uc' ra' rc' d ln)/\Below B w w':=by
 obtain⟨n,o,f⟩:=zf4 m;have q:=hid (zqL (aT name) w);rw[sK,n] at q;have c:(pl st.places).find? (λp=>p.1 == aT name)=G:=by rw[zsG,sK,o];rfl
 have g:=zjh (P:=ω) underlying216 underlying9 a.places (aT name) (zjl w);rw[c] at g;simp only[Option.map_none,Option.getD_none,Option.isSome_none] at g;obtain⟨w1,r,h,i⟩:=zpL (P:=ω) (w:=w.drew) underlying216 underlying9 a.places (aT name) (st.rom.length:Int) c;have c1:w.cell? ⟨b,1,G⟩=A (.map (A mp)):=a.cell 1;have c3:w.cell? ⟨b,3,G⟩=A (κ ra st.rom.length rc):=a.cell 3;have v:=a.lt;have s:=hid a;have x:=hid h;have t:=hid i;have l:=hid f;clear a m n o f c h i;go_enter func258,ntmps258;go_wp2_with (go_at_call 324;refine q.out.mono ?_;rintro e w' ⟨rfl,rfl⟩)
 go_region
 go_wp2;all_goals
  go_end0;rw[l.out];refine⟨D,⟨ua,uc,ra,rc,?_⟩,?_⟩
  ·exact Rd.put_place (w:=w.drew) (s.out.kept (aR w).drew) t.out (by rw[zyu];exact x.out)
  ·exact((bq B w).drew).grown t.out j (λk y=>by cases y;exact s.out.hmp)
/-! ### sounds -/
theorem zlm{s:Sd}(h:s.fit)(n:Nat):((lB s n).length:Int)=(if s.w<n then (n-s.w-1)/16+1 else 0)/\(s.ticks n).w=(if (n:Int)<=s.w then s.w-n else 15-(n-s.w-1)%16):=by
 have d:=h.w;induction n with
 | zero=>simp[lB,Sd.ticks];omega
 | succ n c =>
  obtain⟨b,i2⟩:=c;have e:=(Sd.ticks_fit h n).w;simp only[lB,az,Sd.ticks,Sd.tick];by_cases a:(s.ticks n).w=0
  ·have:(one (s.ticks n)).length=1:=by unfold one;rw[am a];rfl
   rw[this,am a];rw[a] at i2;constructor
   ·split at i2 <;> split at b <;> split <;> omega
   ·split at i2 <;> split <;> omega
  ·have:(one (s.ticks n)).length=0:=by unfold one;rw[ae a];rfl
   rw[this,ae a];constructor
   ·split at i2 <;> split at b <;> split <;> omega
   ·split at i2 <;> split <;> omega
/-! ### what no processor touches: where the beam is, when the next sample comes -/
/-! ### how many samples -/
theorem zw4(s s':Sd)(h:s.w=s'.w):(if s.w=0 then lB s 1 else []).length=(one s').length:=by
 unfold one;rw[h];split
 ·rename_i a
  show ([]++one s).length=_;unfold one;rw[am (h.trans a)];rfl
 ·rfl
theorem zgx(k0:Cs)(hb:BOk k0.s.M.b.l k0.s.M.b.a k0.s.M.b.f)(c:k0.s.M.b.f<=19000):∀ j:Nat,j<=20000->(k0.clocks j).sm.length=k0.sm.length+(lB k0.s.M.s j).length
 | 0,_=>by simp[Cs.clocks,lB]
 | j+1,i=>by
  have d:=zgx k0 hb c j (by omega);have g:=zR k0 hb c j (by omega);obtain⟨k,h⟩:∃ k,k=k0.clocks j:=⟨_,D⟩
  have e:k0.clocks (j+1)=k.clock:=by rw[h];rfl
  rw[<- h] at d g;rw[e];show (k.sm++(k.s.M.pressed k.co).sample).length=_;have h1:((k.s.M.pressed k.co).sample).length=(one (k0.s.M.s.ticks j)).length:=zw4 _ _ ((zb7 k.co k.s.M).w.trans g.w);rw[az,d,h1];simp only[lB,az];omega
/-! ### which lines -/
def lh(l a f:Int)(j:Nat):Option (Int × Int):=if kA l a j=0/\lC l a j<8 then A (lS l a f j,lC l a j) else G
def gI(l a f:Int):Nat->List (Int × Int)
 | 0=>[]
 | j+1=>gI l a f j++(lh l a f j).toList
theorem zeM(k0:Cs)(hb:BOk k0.s.M.b.l k0.s.M.b.a k0.s.M.b.f)(d:k0.s.M.b.f<=19000)(g:k0.ln=[]):∀ j:Nat,j<=20000->(k0.clocks j).ln.map (λx=>(x.f,x.l))=gI k0.s.M.b.l k0.s.M.b.a k0.s.M.b.f j
 | 0,_=>by simp[Cs.clocks,gI,g]
 | j+1,m=>by
  have h:=zeM k0 hb d g j (by omega);have c:=zR k0 hb d j (by omega);obtain⟨k,i⟩:∃ k,k=k0.clocks j:=⟨_,D⟩
  have e:k0.clocks (j+1)=k.clock:=by rw[i];rfl
  rw[<- i] at h c;rw[e];show (k.ln++(k.s.M.pressed k.co).line).map _=_;have hp:=zb7 k.co k.s.M;have e1:=hp.l.trans c.l;have e2:=hp.a.trans c.a;have e3:=hp.f.trans c.f;rw[gQ,h];simp only[gI];congr 1;unfold Mach.line lh;rw[e1,e2,e3];split <;> rfl
/-! ### who is held, and waits -/
theorem zrQ{σ:Type}{m:C.Mem σ}(c:C.Cpu)(s:σ)(r:Bool)(h1:c.Waits=Γ)(h2:c.May=ξ):C.step m c s r=⟨c,s,1⟩:=by
 unfold C.step;rw[h2,nD,ae (by simp),am h1]
def ig:List UInt8:=[0,6,0,0,0,0,17,0,128,0,49,33,216,0]
def vm:C.Cpu:=⟨[0,0,0,0,0,0,0,0],6,ξ,ξ,ξ,ξ,ξ,ξ⟩
def yL:C.Cpu:=⟨[0,32768,0,0,0,0,0,0],10,ξ,ξ,ξ,ξ,ξ,ξ⟩
def yN:C.Cpu:=⟨[0,32768,0,0,0,0,0,0],12,ξ,ξ,ξ,ξ,ξ,ξ⟩
def tB:C.Cpu:=⟨[0,32768,0,0,0,0,0,0],14,ξ,ξ,ξ,ξ,ξ,Γ⟩
section
variable (main aux : C.Cpu) (arom ram own video : List UInt8) (p0 p1 : Pd) (t : TM) (s : Sd) (b : Bem) (fr tt : Int) (granted held : Bool) (m0 m1 : Int) (rung : Bool) (clock mready aready : Int) (l : List Wt)
theorem zw5:C.order bT vm ⟨⟨main,aux,ig,arom,ram,own,video,p0,p1,t,s,b,fr,tt,granted,held,m0,m1,rung,clock,mready,aready⟩,0,l⟩=⟨yL,⟨⟨main,aux,ig,arom,ram,own,video,p0,p1,t,s,b,fr,tt,granted,held,m0,m1,rung,clock,mready,aready⟩,0,l⟩,2⟩:=by kernel_rfl
theorem zw6:C.order bT yL ⟨⟨main,aux,ig,arom,ram,own,video,p0,p1,t,s,b,fr,tt,granted,held,m0,m1,rung,clock,mready,aready⟩,0,l⟩=⟨yN,⟨⟨main,aux,ig,arom,lF ram 1 0,own,video,p0,p1,t,s,b,fr,tt,granted,held,m0,m1,rung,clock,mready,aready⟩,0,l⟩,2⟩:=by kernel_rfl
theorem zw7:C.order bT yN ⟨⟨main,aux,ig,arom,ram,own,video,p0,p1,t,s,b,fr,tt,granted,held,m0,m1,rung,clock,mready,aready⟩,0,l⟩=⟨tB,⟨⟨main,aux,ig,arom,ram,own,video,p0,p1,t,s,b,fr,tt,granted,held,m0,m1,rung,clock,mready,aready⟩,0,l⟩,1⟩:=by kernel_rfl
end
structure Lkm (M : Mach) (c : C.Cpu) (clock mready : Int) : Prop where
 rom:M.mrom=ig
 held:M.held=Γ
 main:M.main=c
 clock:M.clock=clock
 ready:M.mready=mready
theorem zqh{σ:Type}{m:C.Mem σ}(c:C.Cpu)(s:σ)(r:Bool)(h1:c.Waits=ξ)(h2:c.May=ξ):C.step m c s r=C.order m c s:=by
 unfold C.step;rw[h2,nD,ae (by simp),h1,ae (by simp)]
theorem zS{k:Cs}{c e:C.Cpu}{d r f:Int}(h:Lkm k.s.M c d r)(b:k.co=[])(a:Lkm (Bst.stepMain k.s).M e d f):Lkm k.clock.s.M e (d+1) f/\k.clock.co=[]:=by
 have g:k.s.M.pressed k.co=k.s.M:=by rw[b];rfl
 have i:(Bst.stepMain k.s).stepAux=Bst.stepMain k.s:=by
  unfold Bst.stepAux;rw[am (Or.inl a.held)]
 have j:k.now.s=Bst.stepMain k.s:=by
  show (Bst.stepMain ⟨k.s.M.pressed k.co,k.s.n,k.s.l⟩).stepAux=_;rw[g,i]
 have m:k.clock.s.M=(Bst.stepMain k.s).M.goOn:=by show k.now.s.M.goOn=_;rw[j]
 refine⟨?_,by show k.s.M.coming k.co=[];rw[b];rfl⟩;rw[m];exact⟨a.rom,a.held,a.main,by show (Bst.stepMain k.s).M.clock+1=_;rw[a.clock],a.ready⟩
theorem zuA{s:Bst}{c:C.Cpu}{a r:Int}(h:Lkm s.M c a r)(b:a<r):Lkm (Bst.stepMain s).M c a r:=by
 unfold Bst.stepMain;rw[am (by rw[h.clock,h.ready];exact b)];exact h
theorem vC{s:Bst}{c f:C.Cpu}{d r n:Int}(h:Lkm s.M c d r)(g:¬ d<r)(j:c.Waits=ξ)(k:c.May=ξ)
 (m:∀(main aux:C.Cpu) (arom ram own video:List UInt8) (p0 p1:Pd) (t:TM) (s:Sd) (b:Bem) (fr tt:Int) (granted held:Bool) (m0 m1:Int) (rung:Bool) (clock mready aready:Int) (l:List Wt),
   ∃ a,C.order bT c ⟨⟨main,aux,ig,arom,ram,own,video,p0,p1,t,s,b,fr,tt,granted,held,m0,m1,rung,clock,mready,aready⟩,0,l⟩=⟨f,⟨⟨main,aux,ig,arom,a,own,video,p0,p1,t,s,b,fr,tt,granted,held,m0,m1,rung,clock,mready,aready⟩,0,l⟩,n⟩):Lkm (Bst.stepMain s).M f d (d+3*n):=by
 unfold Bst.stepMain;rw[ae (by rw[h.clock,h.ready];exact g)];obtain⟨⟨main,aux,mrom,arom,ram,own,video,p0,p1,t,o,b,fr,tt,granted,held,m0,m1,rung,clock,mready,aready⟩,p,l⟩:=s;obtain⟨h1,h2,h3,h4,i⟩:=h;dsimp only at h1 h2 h3 h4 i g ⊢;subst h1 h2 h3 h4 i;obtain⟨a,e⟩:=m main aux arom ram own video p0 p1 t o b fr tt granted Γ m0 m1 rung clock mready aready l;rw[zqh _ _ _ j k,e];exact⟨D,D,D,D,by show clock+3*n+0=_;omega⟩
theorem zzB{s:Bst}{a r:Int}(h:Lkm s.M tB a r):∃ c,Lkm (Bst.stepMain s).M tB a c:=by
 unfold Bst.stepMain;split
 ·exact⟨r,h⟩
 ·have d:=h.main
  show ∃ c,Lkm { (C.step bT s.M.main ⟨s.M,0,s.l⟩ (s.M.t.g || s.M.b.g)).s.M with main:=_,mready:=_ } tB a c;rw[d,zrQ (m:=bT) tB ⟨s.M,0,s.l⟩ _ D D];exact⟨_,h.rom,h.held,D,h.clock,D⟩
theorem zzC(k0:Cs)(i:Lkm k0.s.M vm 0 0)(b:k0.co=[])(j:Nat):(k0.clocks j).co=[]/\((j=0->Lkm (k0.clocks j).s.M vm 0 0)/\(1<=j/\j<=6->Lkm (k0.clocks j).s.M yL j 6)/\(7<=j/\j<=12->Lkm (k0.clocks j).s.M yN j 12)/\(13<=j->∃ r,Lkm (k0.clocks j).s.M tB j r)):=by
 induction j with
 | zero=>exact⟨b,λ_=>i,λh=>by omega,λh=>by omega,λh=>by omega⟩
 | succ j l =>
  obtain⟨hc,i0,c,i2,i3⟩:=l;obtain⟨k,f⟩:∃ k,k=k0.clocks j:=⟨_,D⟩
  have e:k0.clocks (j+1)=k.clock:=by rw[f];rfl
  rw[<- f] at hc i0 c i2 i3;rw[e];have m:((j+1:Nat):Int)=(j:Int)+1:=by omega
  rw[m];have d:k.clock.co=[]:=by show k.s.M.coming k.co=[];rw[hc];rfl
  refine⟨d,λh=>by omega,λh=>?_,λh=>?_,λh=>?_⟩
  ·by_cases a:j=0
   ·subst a
    have g:=i0 D;exact(zS g hc (vC (n:=2) g (by decide) D D (λ_ _ _ ram _ _ _ _ _ _ _ _ _ _ _ _ _ _ _ _ _ _=>⟨ram,zw5 ..⟩))).1
   ·have g:=c (by omega)
    exact(zS g hc (zuA g (by omega))).1
  ·by_cases a:j=6
   ·subst a
    have g:=c (by omega);exact(zS g hc (vC (n:=2) g (by decide) D D (λ_ _ _ ram _ _ _ _ _ _ _ _ _ _ _ _ _ _ _ _ _ _=>⟨lF ram 1 0,zw6 ..⟩))).1
   ·have g:=i2 (by omega)
    exact(zS g hc (zuA g (by omega))).1
  ·by_cases a:j=12
   ·subst a
    have g:=i2 (by omega);exact⟨_,(zS g hc (vC (n:=1) g (by decide) D D (λ_ _ _ ram _ _ _ _ _ _ _ _ _ _ _ _ _ _ _ _ _ _=>⟨ram,zw7 ..⟩))).1⟩
   ·obtain⟨r,g⟩:=i3 (by omega)
    obtain⟨o,g'⟩:=zzB g;exact⟨o,(zS g hc g').1⟩
def dA:Cs:=⟨⟨dv ig [],0,[]⟩,[],[],[]⟩
theorem zw8:Lkm dA.s.M vm 0 0:=⟨D,D,by show gM ((dr ig []).lookM 0) ((dr ig []).lookM 1)=vm;decide +kernel,D,D⟩
theorem zyc:(dA.clocks 64).ln.length=1/\(dA.clocks 64).sm.length=4/\(dA.clocks 64).s.M.main.Waits=Γ/\(dA.clocks 64).s.M.clock=64/\(dA.clocks 64).s.M.b.l=1:=by
 have hb:BOk dA.s.M.b.l dA.s.M.b.a dA.s.M.b.f:=⟨show (0:Int)<=0 by decide,show (0:Int)<=9 by decide,show (0:Int)<=0 by decide,show (0:Int)<=63 by decide,show (0:Int)<=0 by decide,show (0:Int)<=20000 by decide⟩
 have c:dA.s.M.b.f<=19000:=show (0:Int)<=19000 by decide
 have h1:=zR dA hb c 64 (by omega);have h2:=zgx dA hb c 64 (by omega);have h3:=zeM dA hb c D 64 (by omega);obtain⟨_,_,_,_,h4⟩:=zzC dA zw8 D 64;obtain⟨r,h4⟩:=h4 (by omega);refine⟨?_,?_,?_,h4.clock,?_⟩
 ·have:((dA.clocks 64).ln.map (λx=>(x.f,x.l))).length=1:=by rw[h3];decide +kernel
  rwa [bf] at this
 ·rw[h2]
  have:(lB dA.s.M.s 64).length=4:=by
   have d:=(zlm (s:=dA.s.M.s) { zok.s with w:=(by decide:0<=(0:Int)/\(0:Int)<=15) } 64).1;rw[show dA.s.M.s.w=0 from D,am (by decide)] at d;omega
  rw[this];rfl
 ·rw[h4.main];rfl
 ·rw[h1.l];decide +kernel
theorem sF{H:Type}{enc:aJ × π->H}{P:Program}{w:u}{base:Nat}{spare:Nat->Bool}{held:Bool}{n i o:Nat}{ty:aJ}{cs:List π}{xs:List (DataW H × List MemPlace)}
 (h:DataW.trod enc P w base spare held n ty ((cs.drop o).take (P.cellsOf ty))=xs[i]?) (hi:i<xs.length) (hc:P.cellsOf ty=1) (b:P.underlying ty=A .bool) {v:π} (c:cs[o]?=A v):∃ a:Bool,v=.bool a:=by
 obtain⟨y,d⟩:=fld h hi hc c;obtain⟨a,e,_⟩:=DataW.trod_bool b d;simp only[eF,and_true] at e;exact⟨a,e⟩
theorem zff{H:Type}{enc:aJ × π->H}{w:u}{base:Nat}{spare:Nat->Bool}{held:Bool}{m:Nat}{c0 c1 c2 c3 c4:π}{x:DataW H × List MemPlace}(h:DataW.trod enc ω w base spare held m 33 [c0,c1,c2,c3,c4]=A x):∃ v:Vc,[c0,c1,c2,c3,c4]=sV v/\v.ok:=by
 have c:Tryz.prog.cellsOf 22=1:=by kernel_rfl
 have hB:Tryz.prog.cellsOf 4=1:=by kernel_rfl
 have d:Tryz.prog.cellsOf 5=1:=by kernel_rfl
 obtain⟨xs,n,_,_,_,b,a⟩:=eh underlying33 h;have e:xs.length=5:=b;obtain⟨a0,rfl,w0⟩:=oo (ty:=22) (o:=0) (v:=c0) (a 0 _ D) (by omega) c underlying22 D;obtain⟨a1,rfl,w1⟩:=oo (ty:=22) (o:=1) (v:=c1) (a 1 _ D) (by omega) c underlying22 D;obtain⟨a2,rfl,w2⟩:=oo (ty:=5) (o:=2) (v:=c2) (a 2 _ D) (by omega) d underlying5 D;obtain⟨b3,rfl⟩:=sF (ty:=4) (o:=3) (v:=c3) (a 3 _ D) (by omega) hB underlying4 D;obtain⟨a4,rfl,w4⟩:=oo (ty:=22) (o:=4) (v:=c4) (a 4 _ D) (by omega) c underlying22 D;exact⟨⟨a0,a1,a2,b3,a4⟩,D,ee w0,ee w1,kV w2,ee w4⟩
theorem Gd.isSl{F:Gx}{W:u}{M:Mach}{tk:Tk}(h:Gd F W M tk):F.S.isSl:=λj b=>by
 obtain⟨a,c,e⟩:=h.slAt.lens j b;exact⟨_,_,_,e⟩
end Go.Proofs.YthghjlinhokimaaGreatDoor
