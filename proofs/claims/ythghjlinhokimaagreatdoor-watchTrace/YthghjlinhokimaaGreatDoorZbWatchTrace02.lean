/-
  Parts of a proof, joined.
-/
import Derived.Test.YthghjlinhokimaaGreatDoorZbA
import Derived.Test.YthghjlinhokimaaGreatDoorZbWatchTrace00
import Derived.Test.YthghjlinhokimaaGreatDoorZbWatchTrace01
import Derived.Test.YthghjlinhokimaaGreatDoorZb35
set_option linter.all false
set_option maxRecDepth 100000
set_option maxHeartbeats 6400000
open Option renaming none->G,some->A
open Go renaming World->u,Value->π,Calls->Δ,TypeId->aJ,Program->bX,Addr->cK,maxLen->dI,MemPlace->dZ,DataW->fF
open Bool renaming false->ξ,true->Γ
open Go.Proofs.Tryz renaming prog->ω
open Go.Act renaming put->ag
open Or renaming inl->aj,inr->ao
open Go.Result renaming andThen->aE
open Go.Instr renaming index->aK
open Go.RowKit renaming intOf->aU
open Go.Lib renaming byteCells->aV,itoa->ba,cut->bA,IsBuilder->dt,decDigits->dM,join->fk,TabIs->fm,pow10Tab->iZ,BuilderAt->lZ,strCells->mG
open Go.Value renaming oneCell'->bi,string->Ω,int->J,slice->κ,bool->ν,tuple->Ψ,agg->ac,pointer->aB
open Go.DataW renaming trod->dh
open Go.IntKind renaming i64->Q,u16->Y,u8->au
open Go.Ending renaming returned->μ
open Go.Obj renaming cells->χ
namespace Go.Proofs.YthghjlinhokimaaGreatDoor
open Go.ChangeShapes Go.WideShapes Go.ChangeAt Go.RowKit Go.Proofs.Tryz
def t6(b:Nat):π:=.func (.func 380) #[] #[aB (A ⟨b,0,G⟩),aB (A ⟨b+1,0,G⟩)]
theorem zqF(l θ:Int)(w:u):Δ ω 370 #[J Q l,J Q θ] w λe w'=>e=μ (.func (.func 380) #[] #[aB (A ⟨w.heap.size,0,G⟩),aB (A ⟨w.heap.size+1,0,G⟩)])/\w'=(w.alloc (χ #[J Q l] 3)).alloc (χ #[J Q θ] 3):=by
 go_enter func370,ntmps370;go_wp2;go_ret;exact⟨D,D⟩
theorem wR(l θ x:Int)(b c:Nat)(w:u)(a:w.cell? ⟨b,0,G⟩=A (J Q l))(d:w.cell? ⟨c,0,G⟩=A (J Q θ)):Δ ω 380 #[J Q x,aB (A ⟨b,0,G⟩),aB (A ⟨c,0,G⟩)] w λe w'=>e=μ (ν (O.inR l θ x))/\w'=w:=by
 have e:∀ b,(decide (l<=x) && decide (x<=θ))=b->Hid (O.inR l θ x=b):=λ_ h=>h
 by_cases h1:l<=x <;> by_cases h2:x<=θ
 ·have e:=e Γ (by simp[h1,h2])
  go_enter func380,ntmps380;go_wp2;go_ret;rw[e.out];exact⟨D,D⟩
 all_goals
  have e:=e ξ (by simp;omega);go_enter func380,ntmps380;go_wp2;go_ret;rw[e.out];exact⟨D,D⟩
structure Lims (h : Int) (b0 b1 b2 b3 : Nat) (w : u) : Prop where
 l0:w.cell? ⟨b0,0,G⟩=A (J Q (O.lo h 0))
 u0:w.cell? ⟨b0+1,0,G⟩=A (J Q (O.hi h 0))
 l1:w.cell? ⟨b1,0,G⟩=A (J Q (O.lo h 1))
 u1:w.cell? ⟨b1+1,0,G⟩=A (J Q (O.hi h 1))
 l2:w.cell? ⟨b2,0,G⟩=A (J Q (O.lo h 2))
 u2:w.cell? ⟨b2+1,0,G⟩=A (J Q (O.hi h 2))
 l3:w.cell? ⟨b3,0,G⟩=A (J Q (O.lo h 3))
 u3:w.cell? ⟨b3+1,0,G⟩=A (J Q (O.hi h 3))
theorem zqG(a b:π)(k:Nat)(c:k<32)(w:u):Δ ω 365 #[ac #[a,b,J Q (O.mask k)]] w λe w'=>∃ b0 b1 b2 b3,e=μ (ac #[t6 b0,t6 b1,t6 b2,t6 b3])/\Lims (O.mask k) b0 b1 b2 b3 w'/\Below w.heap.size w w':=by
 rcases O.mask_or k c with h|h|h|h|h|h|h|h|h <;> rw[h]
 all_goals
  clear h;go_enter func365,ntmps365;go_wp2_with (go_at_call 370;refine(zqF _ _ _).mono ?_;rintro e w' ⟨rfl,rfl⟩)
  refine Ξ (v:=?_) ?_ D ?_;rotate_left
  ·simp[results,results365,go_sem]
   first|done|exact D
  refine⟨_,_,_,_,D,⟨?_,?_,?_,?_,?_,?_,?_,?_⟩,?_⟩
  rotate_right 1
  ·repeat (first|exact bq _ _|refine Below.alloc ?_ (by simp <;> omega) _)
  all_goals repeat (first|(refine(ly _ _ _ _ ?_).trans ?_;(focus (simp;done));rfl)|(refine(aN _ _ _ ?_).trans ?_;(focus (simp <;> omega))))
theorem zvB(op d s n ww:Int)(h:O.isOp op=ξ)(w:u)(b:br w):Δ ω 338 #[ac #[J Q op,J Q d,J Q s,J Q n,J Q ww]] w λe w'=>e=μ (J Q 5)/\Below w.heap.size w w':=by
 have c:=hid b;clear b;have H:=hid h;clear h;go_enter func338,ntmps338;go_wp2_with (go_at_call 256;refine(zi7 op H.out _ (pJ c.out _)).mono ?_;rintro e w1 ⟨rfl,a⟩)
 go_ret;exact⟨D,stA (bw (stA (aR _) _) a) _⟩
def wH(h:Int)(v:Nat->Int)(j:Nat):Prop:=∀ i,i<j->O.inB h i (v i)=Γ
def yD(d s n w:Int)(i:Nat):Int:=if i=0 then d else if i=1 then s else if i=2 then n else w
theorem zz8(k:Nat)(a:k<32)(d s n w:Int)(h:wH (O.mask k) (yD d s n w) 4):O.okB k d s n w=Γ:=by
 have b:O.inB (O.mask k) 0 d=Γ:=h 0 (by omega);have h1:O.inB (O.mask k) 1 s=Γ:=h 1 (by omega);have h2:O.inB (O.mask k) 2 n=Γ:=h 2 (by omega);have h3:O.inB (O.mask k) 3 w=Γ:=h 3 (by omega);rw[<- O.inB_all k a,b,h1,h2,h3];rfl
theorem zfL(k:Nat)(b:k<32)(d s n w:Int)(i:Nat)(hi:i<4)(h:O.inB (O.mask k) i (yD d s n w i)=ξ):O.okB k d s n w=ξ:=by
 rw[<- O.inB_all k b];have hc:i=0 \/ i=1 \/ i=2 \/ i=3:=by omega
 rcases hc with rfl|rfl|rfl|rfl
 ·have a:O.inB (O.mask k) 0 d=ξ:=h
  rw[a];simp
 ·have a:O.inB (O.mask k) 1 s=ξ:=h
  rw[a];simp
 ·have a:O.inB (O.mask k) 2 n=ξ:=h
  rw[a];simp
 ·have a:O.inB (O.mask k) 3 w=ξ:=h
  rw[a];simp
theorem Aj{k:Nat}(b:k<32)(a:k≠30)(d s n w:Int):O.ck k d s n w=if O.okB k d s n w then 0 else 3:=by
 unfold O.ck;rw[am ((O.isOp_iff _).2 (by omega))];rfl
theorem zek{h:Int}{v:Nat->Int}{j:Nat}(a:wH h v j)(b:O.inB h j (v j)=Γ):wH h v (j+1):=λi hi=>by
 by_cases e:i<j
 ·exact a i e
 ·have:i=j:=by omega
  subst this;exact b
theorem zyn(a x1 x2 x3:π)(w:u):(aK 423 (ac #[a,x1,x2,x3]) (J Q 0)).run ω w=.ok a w:=by kernel_rfl
theorem zyo(a x1 x2 x3:π)(w:u):(aK 423 (ac #[a,x1,x2,x3]) (J Q 1)).run ω w=.ok x1 w:=by kernel_rfl
theorem zyp(a x1 x2 x3:π)(w:u):(aK 423 (ac #[a,x1,x2,x3]) (J Q 2)).run ω w=.ok x2 w:=by kernel_rfl
theorem zyq(a x1 x2 x3:π)(w:u):(aK 423 (ac #[a,x1,x2,x3]) (J Q 3)).run ω w=.ok x3 w:=by kernel_rfl
theorem zsv(k:Nat)(f:k<32)(c:k≠30)(d s n ww:Int)(w:u)(L:br w):Δ ω 338 #[ac #[J Q k,J Q d,J Q s,J Q n,J Q ww]] w λe w'=>e=μ (J Q (O.ck k d s n ww))/\Below w.heap.size w w':=by
 have M:=hid L;clear L;go_enter func338,ntmps338;go_wp2_with (first
  | (go_at_call 256;refine(tH k f c _ (pJ M.out _)).mono ?_;rintro e w1 ⟨rfl,h⟩;obtain⟨E,F⟩:=cj h;have N:w.heap.size<w1.heap.size:=by have:=h.size;simp at this;omega)
  | (go_at_call 365;refine(zqG _ _ k f _).mono ?_;rintro e w2 ⟨b0,b1,b2,b3,rfl,P,m⟩;unfold t6;obtain⟨g,H⟩:=cj m))
 have hB:Below w.heap.size w w2:=bw (stA (stA (bw (stA (aR _) _) h) _) _) m;have v0:w2.cell? ⟨w1.heap.size+1,0,G⟩=A (J Q d):=by rw[g _ _ (by simp)];exact ly _ _ _ _ (by simp)
 have R:w2.cell? ⟨w1.heap.size+1,1,G⟩=A (J Q s):=by rw[g _ _ (by simp)];exact ly _ _ _ _ (by simp)
 have v2:w2.cell? ⟨w1.heap.size+1,2,G⟩=A (J Q n):=by rw[g _ _ (by simp)];exact ly _ _ _ _ (by simp)
 have v3:w2.cell? ⟨w1.heap.size+1,3,G⟩=A (J Q ww):=by rw[g _ _ (by simp)];exact ly _ _ _ _ (by simp)
 clear E F g H h m M;obtain⟨o,p,q,r,t,v,x,y⟩:=P
 go_loop [28] (λi=>∃ j:Nat,j<=4/\i=J Q j/\wH (O.mask k) (yD d s n ww) j) (λi=>4-(aU i).toNat)
 case atStart=>exact⟨0,by omega,D,λi hi=>by omega⟩
 case round =>
  obtain⟨j,T,rfl,z⟩:=hrel;have B:=hid z;clear z;have I:j=0 \/ j=1 \/ j=2 \/ j=3 \/ j=4:=by omega
  rcases I with rfl|rfl|rfl|rfl|rfl
  ·have i0:=zyn
   by_cases a:O.inR (O.lo (O.mask k) 0) (O.hi (O.mask k) 0) d=Γ
   ·go_wp2_with (go_at_call 380;refine(wR _ _ _ _ _ _ o p).mono ?_;rintro e w' ⟨rfl,rfl⟩)
    go_round
    case rel=>exact⟨1,by omega,by go_num,zek B.out a⟩
    case measure=>simp[aU]
   ·have b:O.inR (O.lo (O.mask k) 0) (O.hi (O.mask k) 0) d=ξ:=by simpa using a
    have l:=hid (zfL k f d s n ww 0 (by omega) b);clear a;go_wp2_with (go_at_call 380;refine(wR _ _ _ _ _ _ o p).mono ?_;rintro e w' ⟨rfl,rfl⟩)
    go_ret;rw[Aj f c,l.out];exact⟨D,hB⟩
  ·have i0:=zyo
   by_cases a:O.inR (O.lo (O.mask k) 1) (O.hi (O.mask k) 1) s=Γ
   ·go_wp2_with (go_at_call 380;refine(wR _ _ _ _ _ _ q r).mono ?_;rintro e w' ⟨rfl,rfl⟩)
    go_round
    case rel=>exact⟨2,by omega,by go_num,zek B.out a⟩
    case measure=>simp[aU]
   ·have b:O.inR (O.lo (O.mask k) 1) (O.hi (O.mask k) 1) s=ξ:=by simpa using a
    have l:=hid (zfL k f d s n ww 1 (by omega) b);clear a;go_wp2_with (go_at_call 380;refine(wR _ _ _ _ _ _ q r).mono ?_;rintro e w' ⟨rfl,rfl⟩)
    go_ret;rw[Aj f c,l.out];exact⟨D,hB⟩
  ·have i0:=zyp
   by_cases a:O.inR (O.lo (O.mask k) 2) (O.hi (O.mask k) 2) n=Γ
   ·go_wp2_with (go_at_call 380;refine(wR _ _ _ _ _ _ t v).mono ?_;rintro e w' ⟨rfl,rfl⟩)
    go_round
    case rel=>exact⟨3,by omega,by go_num,zek B.out a⟩
    case measure=>simp[aU]
   ·have b:O.inR (O.lo (O.mask k) 2) (O.hi (O.mask k) 2) n=ξ:=by simpa using a
    have l:=hid (zfL k f d s n ww 2 (by omega) b);clear a;go_wp2_with (go_at_call 380;refine(wR _ _ _ _ _ _ t v).mono ?_;rintro e w' ⟨rfl,rfl⟩)
    go_ret;rw[Aj f c,l.out];exact⟨D,hB⟩
  ·have i0:=zyq
   by_cases a:O.inR (O.lo (O.mask k) 3) (O.hi (O.mask k) 3) ww=Γ
   ·go_wp2_with (go_at_call 380;refine(wR _ _ _ _ _ _ x y).mono ?_;rintro e w' ⟨rfl,rfl⟩)
    go_round
    case rel=>exact⟨4,by omega,by go_num,zek B.out a⟩
    case measure=>simp[aU]
   ·have b:O.inR (O.lo (O.mask k) 3) (O.hi (O.mask k) 3) ww=ξ:=by simpa using a
    have l:=hid (zfL k f d s n ww 3 (by omega) b);clear a;go_wp2_with (go_at_call 380;refine(wR _ _ _ _ _ _ x y).mono ?_;rintro e w' ⟨rfl,rfl⟩)
    go_ret;rw[Aj f c,l.out];exact⟨D,hB⟩
  ·have l:=hid (zz8 k f d s n ww B.out)
   go_wp2;go_ret;rw[Aj f c,l.out];exact⟨D,hB⟩
theorem Ak(op d s n ww:Int)(w:u)(a:br w):Δ ω 338 #[ac #[J Q op,J Q d,J Q s,J Q n,J Q ww]] w λe w'=>e=μ (J Q (O.ck op d s n ww))/\Below w.heap.size w w':=by
 cases h:O.isOp op
 ·refine(zvB op d s n ww h w a).mono λe w' b=>⟨b.1.trans ?_,b.2⟩
  unfold O.ck;rw[h];rfl
 ·obtain⟨h1,h2,h3⟩:=(O.isOp_iff op).1 h
  obtain⟨k,rfl⟩:=aA h1;exact zsv k (by omega) (by omega) d s n ww w a
theorem Ah(s:ByteArray)(i:Nat)(c:UInt8)(h:(bs s)[i]?=A c):∀ a,s[i]'a=c:=by
 intro a;obtain⟨⟨l⟩⟩:=s;have b:i<l.length:=a;have:l[i]?=A c:=h;rw[aq b] at this;exact aL this
theorem wI(g:Nat)(w:u):Δ ω 328 #[J Q 0,aB (A ⟨g,0,G⟩)] w λe w'=>e=μ (aB (A ⟨g,1,G⟩))/\w'=w:=by
 go_enter func328,ntmps328;go_wp2;go_ret;exact⟨D,D⟩
theorem wJ(g:Nat)(w:u):Δ ω 328 #[J Q 1,aB (A ⟨g,0,G⟩)] w λe w'=>e=μ (aB (A ⟨g,2,G⟩))/\w'=w:=by
 go_enter func328,ntmps328;go_wp2;go_ret;exact⟨D,D⟩
theorem wK(g:Nat)(w:u):Δ ω 328 #[J Q 2,aB (A ⟨g,0,G⟩)] w λe w'=>e=μ (aB (A ⟨g,4,G⟩))/\w'=w:=by
 go_enter func328,ntmps328;go_wp2;go_ret;exact⟨D,D⟩
theorem wL(g:Nat)(w:u):Δ ω 328 #[J Q 3,aB (A ⟨g,0,G⟩)] w λe w'=>e=μ (aB (A ⟨g,3,G⟩))/\w'=w:=by
 go_enter func328,ntmps328;go_wp2;go_ret;exact⟨D,D⟩
theorem zsw:(Tryz.prog.info? 374).map (λi=>(i.zero,i.size,i.bytes))=A (A (J Q 0),1,8):=by kernel_rfl
theorem zi9:∀ k:Nat,k<32->k≠30->O.ck k 1 0 0 0=(if O.hasC k 100 then 0 else 3)/\O.ck k 0 1 0 0=(if O.hasC k 115 then 0 else 3)/\O.ck k 0 0 0 1=(if O.hasC k 119 then 0 else 3)/\O.ck k 0 0 1 0=(if O.hasC k 110 then 0 else 3):=by decide +kernel
def qA(k j:Nat):List π:=((List.range j).filter (λp=>O.hasC k (S.sgn p))).map (λp:Nat=>Value.int Q p)
theorem zpA{k j:Nat}(h:O.hasC k (S.sgn j)=ξ):qA k (j+1)=qA k j:=by unfold qA;rw[gP,gE];simp[h]
theorem zja{k j:Nat}(h:O.hasC k (S.sgn j)=Γ):qA k (j+1)=qA k j++[J Q j]:=by unfold qA;rw[gP,gE];simp[h]
theorem wS(k j:Nat):(qA k j).length<=j:=by
 unfold qA;rw[bf];exact ax (iL _ _) (by simp)
theorem zpB(k:Nat)(c:k<32)(a:k≠30)(w:u)(d:br w):Δ ω 338 #[ac #[J Q k,J Q 1,J Q 0,J Q 0,J Q 0]] w λe w'=>e=μ (J Q (if O.hasC k 100 then 0 else 3))/\Below w.heap.size w w' :=
 (Ak k 1 0 0 0 w d).mono λe w' b=>⟨by rw[b.1,(zi9 k c a).1],b.2⟩
theorem zpC(k:Nat)(c:k<32)(a:k≠30)(w:u)(d:br w):Δ ω 338 #[ac #[J Q k,J Q 0,J Q 1,J Q 0,J Q 0]] w λe w'=>e=μ (J Q (if O.hasC k 115 then 0 else 3))/\Below w.heap.size w w' :=
 (Ak k 0 1 0 0 w d).mono λe w' b=>⟨by rw[b.1,(zi9 k c a).2.1],b.2⟩
theorem zpD(k:Nat)(c:k<32)(a:k≠30)(w:u)(d:br w):Δ ω 338 #[ac #[J Q k,J Q 0,J Q 0,J Q 0,J Q 1]] w λe w'=>e=μ (J Q (if O.hasC k 119 then 0 else 3))/\Below w.heap.size w w' :=
 (Ak k 0 0 0 1 w d).mono λe w' b=>⟨by rw[b.1,(zi9 k c a).2.2.1],b.2⟩
theorem zpE(k:Nat)(c:k<32)(a:k≠30)(w:u)(d:br w):Δ ω 338 #[ac #[J Q k,J Q 0,J Q 0,J Q 1,J Q 0]] w λe w'=>e=μ (J Q (if O.hasC k 110 then 0 else 3))/\Below w.heap.size w w' :=
 (Ak k 0 0 1 0 w d).mono λe w' b=>⟨by rw[b.1,(zi9 k c a).2.2.2],b.2⟩
theorem rX(v:π):v.ownBlock=G \/ v.ownBlock≠G:=by cases v.ownBlock with
 | none=>exact aj D
 | some g=>exact ao (by simp)
theorem zf0(k:Nat)(x:k<32)(n:k≠30)(w:u)(H:br w):Δ ω 327 #[J Q k] w λe w'=>∃ v,e=μ v/\w'.ownsRow w.heap.size 374 1 v (qA k 4).length (qA k 4)/\Below w.heap.size w w':=by
 obtain⟨i0,p,q,r,s⟩:=info_parts zsw;have y:=hid H;clear H;go_enter func327,ntmps327;go_wp2;go_loopw [3,4] (λl i wr=>∃ j:Nat,j<=4/\i=J Q j/\wr.ownsRow w.heap.size 374 1 l (qA k j).length (qA k j)/\Below w.heap.size w wr) (λ_ i _=>4-(aU i).toNat)
 case atStart=>exact⟨0,by omega,D,⟨D,aj ⟨D,D⟩⟩,bq _ _⟩
 case round =>
  obtain⟨j,z,rfl,b,c⟩:=hrel;have hc:j=0 \/ j=1 \/ j=2 \/ j=3 \/ j=4:=by omega
  have I:=c.size;rcases hc with rfl|rfl|rfl|rfl|rfl
  ·cases m:O.hasC k 100
   ·go_wp2_with (first
     | (go_at_call 328;refine(wI _ _).mono ?_;rintro e w' ⟨rfl,rfl⟩)
     | (go_at_call 338;refine(zpB k x n _ (pJ (y.out.kept c) _)).mono ?_;rw[m];rintro e w1 ⟨rfl,a⟩))
    go_roundw
    case rel=>exact⟨1,by omega,by go_num,by rw[zpA (j:=0) m];exact(b.alloc _).kept (rx a) (rX _),bw (stA c _) a⟩
    case measure=>simp[aU]
   ·go_wp2_with (first
     | (go_at_call 328;refine(wI _ _).mono ?_;rintro e w' ⟨rfl,rfl⟩)
     | (go_at_call 338;refine(zpB k x n _ (pJ (y.out.kept c) _)).mono ?_;rw[m];rintro e w1 ⟨rfl,a⟩;have d:=(b.alloc (χ #[J Q k,J Q 1,J Q 0,J Q 0,J Q 0] 191)).kept (rx a) (rX _);have f:=bw (stA c (χ #[J Q k,J Q 1,J Q 0,J Q 0,J Q 0] 191)) a)
     | (at_builtin;refine wpList_append_lies _ (by rfl) _ _ _ (by rfl) w.heap.size 374 i0 _ 1 8 underlying372 p q r s D (by omega) _ (qA k 0).length _ (by rfl) (d.alloc _) ⟨w1.heap.size,0,G⟩ 1 1 [J Q 0] (by rfl) (by rfl) (World.news_of_block (cs:=#[J Q 0]) (t:=374) (fr:=(0,0)) (aM w1 _)) (by simp[bi]) (by omega) (by have:=wS k 0;unfold dI;omega) (by have:=wS k 0;omega) (by have:=f.size;simp;omega) (w1.heap.size+1) (by simp) ?_;intro E cp F g h B o))
    go_roundw
    case rel=>exact⟨1,by omega,by go_num,by rw[zja (j:=0) m,az];exact g,(stA f _).grown h (stA f _).size (λj z=>(b.lt j z).1)⟩
    case measure=>simp[aU]
  ·cases m:O.hasC k 115
   ·go_wp2_with (first
     | (go_at_call 328;refine(wJ _ _).mono ?_;rintro e w' ⟨rfl,rfl⟩)
     | (go_at_call 338;refine(zpC k x n _ (pJ (y.out.kept c) _)).mono ?_;rw[m];rintro e w1 ⟨rfl,a⟩))
    go_roundw
    case rel=>exact⟨2,by omega,by go_num,by rw[zpA (j:=1) m];exact(b.alloc _).kept (rx a) (rX _),bw (stA c _) a⟩
    case measure=>simp[aU]
   ·go_wp2_with (first
     | (go_at_call 328;refine(wJ _ _).mono ?_;rintro e w' ⟨rfl,rfl⟩)
     | (go_at_call 338;refine(zpC k x n _ (pJ (y.out.kept c) _)).mono ?_;rw[m];rintro e w1 ⟨rfl,a⟩;have d:=(b.alloc (χ #[J Q k,J Q 0,J Q 1,J Q 0,J Q 0] 191)).kept (rx a) (rX _);have f:=bw (stA c (χ #[J Q k,J Q 0,J Q 1,J Q 0,J Q 0] 191)) a)
     | (at_builtin;refine wpList_append_lies _ (by rfl) _ _ _ (by rfl) w.heap.size 374 i0 _ 1 8 underlying372 p q r s D (by omega) _ (qA k 1).length _ (by rfl) (d.alloc _) ⟨w1.heap.size,0,G⟩ 1 1 [J Q 1] (by rfl) (by rfl) (World.news_of_block (cs:=#[J Q 1]) (t:=374) (fr:=(0,0)) (aM w1 _)) (by simp[bi]) (by omega) (by have:=wS k 1;unfold dI;omega) (by have:=wS k 1;omega) (by have:=f.size;simp;omega) (w1.heap.size+1) (by simp) ?_;intro E cp F g h B o))
    go_roundw
    case rel=>exact⟨2,by omega,by go_num,by rw[zja (j:=1) m,az];exact g,(stA f _).grown h (stA f _).size (λj z=>(b.lt j z).1)⟩
    case measure=>simp[aU]
  ·cases m:O.hasC k 119
   ·go_wp2_with (first
     | (go_at_call 328;refine(wK _ _).mono ?_;rintro e w' ⟨rfl,rfl⟩)
     | (go_at_call 338;refine(zpD k x n _ (pJ (y.out.kept c) _)).mono ?_;rw[m];rintro e w1 ⟨rfl,a⟩))
    go_roundw
    case rel=>exact⟨3,by omega,by go_num,by rw[zpA (j:=2) m];exact(b.alloc _).kept (rx a) (rX _),bw (stA c _) a⟩
    case measure=>simp[aU]
   ·go_wp2_with (first
     | (go_at_call 328;refine(wK _ _).mono ?_;rintro e w' ⟨rfl,rfl⟩)
     | (go_at_call 338;refine(zpD k x n _ (pJ (y.out.kept c) _)).mono ?_;rw[m];rintro e w1 ⟨rfl,a⟩;have d:=(b.alloc (χ #[J Q k,J Q 0,J Q 0,J Q 0,J Q 1] 191)).kept (rx a) (rX _);have f:=bw (stA c (χ #[J Q k,J Q 0,J Q 0,J Q 0,J Q 1] 191)) a)
     | (at_builtin;refine wpList_append_lies _ (by rfl) _ _ _ (by rfl) w.heap.size 374 i0 _ 1 8 underlying372 p q r s D (by omega) _ (qA k 2).length _ (by rfl) (d.alloc _) ⟨w1.heap.size,0,G⟩ 1 1 [J Q 2] (by rfl) (by rfl) (World.news_of_block (cs:=#[J Q 2]) (t:=374) (fr:=(0,0)) (aM w1 _)) (by simp[bi]) (by omega) (by have:=wS k 2;unfold dI;omega) (by have:=wS k 2;omega) (by have:=f.size;simp;omega) (w1.heap.size+1) (by simp) ?_;intro E cp F g h B o))
    go_roundw
    case rel=>exact⟨3,by omega,by go_num,by rw[zja (j:=2) m,az];exact g,(stA f _).grown h (stA f _).size (λj z=>(b.lt j z).1)⟩
    case measure=>simp[aU]
  ·cases m:O.hasC k 110
   ·go_wp2_with (first
     | (go_at_call 328;refine(wL _ _).mono ?_;rintro e w' ⟨rfl,rfl⟩)
     | (go_at_call 338;refine(zpE k x n _ (pJ (y.out.kept c) _)).mono ?_;rw[m];rintro e w1 ⟨rfl,a⟩))
    go_roundw
    case rel=>exact⟨4,by omega,by go_num,by rw[zpA (j:=3) m];exact(b.alloc _).kept (rx a) (rX _),bw (stA c _) a⟩
    case measure=>simp[aU]
   ·go_wp2_with (first
     | (go_at_call 328;refine(wL _ _).mono ?_;rintro e w' ⟨rfl,rfl⟩)
     | (go_at_call 338;refine(zpE k x n _ (pJ (y.out.kept c) _)).mono ?_;rw[m];rintro e w1 ⟨rfl,a⟩;have d:=(b.alloc (χ #[J Q k,J Q 0,J Q 0,J Q 1,J Q 0] 191)).kept (rx a) (rX _);have f:=bw (stA c (χ #[J Q k,J Q 0,J Q 0,J Q 1,J Q 0] 191)) a)
     | (at_builtin;refine wpList_append_lies _ (by rfl) _ _ _ (by rfl) w.heap.size 374 i0 _ 1 8 underlying372 p q r s D (by omega) _ (qA k 3).length _ (by rfl) (d.alloc _) ⟨w1.heap.size,0,G⟩ 1 1 [J Q 3] (by rfl) (by rfl) (World.news_of_block (cs:=#[J Q 3]) (t:=374) (fr:=(0,0)) (aM w1 _)) (by simp[bi]) (by omega) (by have:=wS k 3;unfold dI;omega) (by have:=wS k 3;omega) (by have:=f.size;simp;omega) (w1.heap.size+1) (by simp) ?_;intro E cp F g h B o))
    go_roundw
    case rel=>exact⟨4,by omega,by go_num,by rw[zja (j:=3) m,az];exact g,(stA f _).grown h (stA f _).size (λj z=>(b.lt j z).1)⟩
    case measure=>simp[aU]
  ·go_wp2
   go_ret;exact⟨_,D,b,c⟩
theorem zpF(op d s n ww:Int)(h1:O.isOp op=Γ)(h2:O.okB op.toNat d s n ww=Γ)(w:u)(b:br w):Δ ω 338 #[ac #[J Q op,J Q d,J Q s,J Q n,J Q ww]] w λe w'=>e=μ (J Q 0)/\Below w.heap.size w w':=by
 refine(Ak op d s n ww w b).mono λe w' a=>⟨a.1.trans ?_,a.2⟩
 unfold O.ck;rw[h1,h2];rfl
def wordsAt(w:u)(g:Nat)(l:List Int):Prop:=∀ i,i<l.length->w.cell? ⟨g,i,G⟩=A (J Y (l.getD i 0))
theorem zib(k d s n:Int)(h1:0<=k/\k<=31)(h2:0<=d/\d<=7)(h3:0<=s/\s<=7)(h4:-16<=n/\n<=15):bits .or Y (bits .or Y (bits .or Y (k*2048) (d*256)) (s*32)) (bits .and Y (IntKind.u16.wrap n) 31)=O.first k d s n:=by
 rw[O.low5 n h4,O.first_of k d s _ h1 h2 h3 (by omega)];rfl
theorem zsx(k:Nat)(d s n ww:Int)(h:k<32)(q:k≠30)(a:O.okB k d s n ww=Γ)(m:O.hasC k 119=ξ)(w:u)(f:br w):Δ ω 272 #[ac #[J Q k,J Q d,J Q s,J Q n,J Q ww]] w λe w'=>∃ g,e=μ (Ψ #[κ (A ⟨g,0,G⟩) 1 1,J Q 0])/\wordsAt w' g [O.first k d s n]/\w.heap.size<=g/\g<w'.heap.size/\Below w.heap.size w w':=by
 obtain⟨⟨r,d1⟩,⟨s0,s1⟩,⟨t,v⟩,⟨w0,x⟩⟩:=O.ok_bd a;have h1:=(O.isOp_iff k).2 (by omega);have o:lenOf (O.mask k)=1:=by have:=O.mask_w k h;rw[m] at this;unfold lenOf;rw[ae (by simpa using this.symm)]
 have y:=hid o;have z:=hid a;have B:=hid h1;have E:=hid f;have j:=f.lt;have p:0<w.heap.size:=iC (bh _) j;obtain⟨c0,c1,c2⟩:=f k h;clear f a h1 m o;go_enter func272,ntmps272;go_wp2_with (first
  | (go_at_call 338;refine(zpF _ _ _ _ _ B.out z.out _ (pJ E.out _)).mono ?_;rintro e w1 ⟨rfl,b⟩;obtain⟨F,H⟩:=cj b;have l:w.heap.size<w1.heap.size:=by have:=b.size;simp at this;omega)
  | (go_at_call 288;refine(sT _ _ k h _).mono ?_;rw[y.out];rintro e w2 ⟨rfl,c⟩))
 go_ret2
 refine⟨w2.heap.size,D,λi hi=>?_,iy (Θ l c.size),by simp,stA (bw (bw (stA (aR _) _) b) c) _⟩;obtain rfl:i=0:=by simpa using hi
 rw[zib k d s n (by omega) ⟨r,d1⟩ ⟨s0,s1⟩ ⟨t,v⟩];exact ly _ _ _ _ D
theorem zsy(k:Nat)(d s n ww:Int)(h:k<32)(r:k≠30)(a:O.okB k d s n ww=Γ)(o:O.hasC k 119=Γ)(w:u)(f:br w):Δ ω 272 #[ac #[J Q k,J Q d,J Q s,J Q n,J Q ww]] w λe w'=>∃ g,e=μ (Ψ #[κ (A ⟨g,0,G⟩) 2 2,J Q 0])/\wordsAt w' g [O.first k d s n,ww]/\w.heap.size<=g/\g<w'.heap.size/\Below w.heap.size w w':=by
 obtain⟨⟨t,d1⟩,⟨s0,s1⟩,⟨v,x⟩,⟨w0,y⟩⟩:=O.ok_bd a;have h1:=(O.isOp_iff k).2 (by omega);have p:lenOf (O.mask k)=2:=by have:=O.mask_w k h;rw[o] at this;unfold lenOf;rw[am (by simpa using this.symm)]
 have z:=hid p;have B:=hid a;have E:=hid h1;have F:=hid f;have j:=f.lt;have q:0<w.heap.size:=iC (bh _) j;obtain⟨c0,c1,c2⟩:=f k h;clear f a h1 o p;go_enter func272,ntmps272;go_wp2_with (first
  | (go_at_call 338;refine(zpF _ _ _ _ _ E.out B.out _ (pJ F.out _)).mono ?_;rintro e w1 ⟨rfl,b⟩;obtain⟨H,I⟩:=cj b;have l:w.heap.size<w1.heap.size:=by have:=b.size;simp at this;omega)
  | (go_at_call 288;refine(sT _ _ k h _).mono ?_;rw[z.out];rintro e w2 ⟨rfl,c⟩;obtain⟨L,M⟩:=cj c))
 go_ret2
 refine⟨w2.heap.size,D,λi hi=>?_,iy (Θ l c.size),by simp,stA (bw (bw (stA (aR _) _) b) c) _⟩;rw[zib k d s n (by omega) ⟨t,d1⟩ ⟨s0,s1⟩ ⟨v,x⟩];have m:i=0 \/ i=1:=by simp at hi;omega
 rcases m with rfl|rfl <;> exact ly _ _ _ _ D
theorem zkY(op d s n ww:Int)(h1:O.isOp op=Γ)(a:O.okB op.toNat d s n ww=Γ)(w:u)(b:br w):Δ ω 272 #[ac #[J Q op,J Q d,J Q s,J Q n,J Q ww]] w λe w' =>
  ∃ g,e=μ (Ψ #[κ (A ⟨g,0,G⟩) (O.words op d s n ww).length (O.words op d s n ww).length,J Q 0])/\wordsAt w' g (O.words op d s n ww)/\w.heap.size<=g/\g<w'.heap.size/\Below w.heap.size w w':=by
 obtain⟨a1,a2,a3⟩:=(O.isOp_iff op).1 h1;obtain⟨k,rfl⟩:=aA a1;rw[bR] at a;unfold O.words;rw[bR];cases hc:O.hasC k 119
 ·exact zsx k d s n ww (by omega) (by omega) a hc w b
 ·exact zsy k d s n ww (by omega) (by omega) a hc w b
theorem ze1(k:Nat)(d:k<32)(a:k≠30)(w:u)(c:br w):Δ ω 206 #[J Q k] w λe w'=>e=μ (Ψ #[Ω (O.nameS k),J Q 0])/\Below w.heap.size w w':=by
 have f:=hid c;clear c;go_enter func206,ntmps206;go_wp2_with (go_at_call 256;refine(tH k d a _ f.out).mono ?_;rintro e w1 ⟨rfl,b⟩)
 go_ret2
 exact⟨D,stA b _⟩
structure AF (w : u) : Prop where
 pow:fm ω w "internal/strconv.uint64pow10" .u64 iZ
 len:∃ m,w.cell? ⟨0,0,G⟩=A (J Q m)
 shapes:br w
theorem g_pow:Tryz.prog.globalNamed "internal/strconv.uint64pow10" = A 6:=by kernel_rfl
theorem AF.kept{w w':u}(h:AF w)(hb:Below w.heap.size w w'):AF w':=by
 obtain⟨t,⟨m,a⟩,s⟩:=h;exact⟨Joins.tab_stays g_pow t hb (ψ _),⟨m,(hb.cell (aC w _ a)).trans a⟩,s.kept hb⟩
theorem rZ{w:u}(h:AF w)(o:Obj):AF (w.alloc o):=h.kept (stA (aR _) _)
def aT(l:List UInt8):ByteArray:=⟨l.toArray⟩
theorem nR(a b:List UInt8):aT a++aT b=aT (a++b):=by
 unfold aT;apply n9;rw[mZ];simp
theorem sU(l:List UInt8):(aT l).size=l.length:=rfl
theorem zm7(w:u)(k:Nat)(os:Array Obj):Below w.heap.size w (Sort.grow (w.drewN k) os):=by
 have h:∀ k,Below w.heap.size w (w.drewN k):=λk=>by
  induction k with
  | zero=>exact aR w
  | succ k a=>exact a.drew
 refine(h k).trans ⟨D,D,D,by simp[Sort.grow],λi hi=>?_⟩;have:(w.drewN k).heap.size=w.heap.size:=by simp
 show ((w.drewN k).heap++os)[i]?=_;rw[lx (by omega)]
theorem rp(n:Int)(a:-9223372036854775808<=n)(h1:n<=9223372036854775807)(w:u)(h:AF w):Δ ω 104 #[J Q n] w λe w'=>e=μ (Ω (aT (ba n)))/\Below w.heap.size w w':=by
 refine(Tryz.strconv_Itoa n a h1 w h.pow).mono λe w' ⟨b,k,os,c⟩=>⟨b,?_⟩
 subst c;exact zm7 w k os
def t7(p:Nat):Nat:=if p=0 then 1 else if p=1 then 2 else if p=2 then 4 else 3
theorem zjb(p:Nat)(hp:p<4)(g:Nat)(w:u):Δ ω 328 #[J Q p,aB (A ⟨g,0,G⟩)] w λe w'=>e=μ (aB (A ⟨g,t7 p,G⟩))/\w'=w:=by
 have hc:p=0 \/ p=1 \/ p=2 \/ p=3:=by omega
 rcases hc with rfl|rfl|rfl|rfl
 ·exact wI g w
 ·exact wJ g w
 ·exact wK g w
 ·exact wL g w
def ny(k:Nat)(o:S.Ord):Array π:=#[J Q k,J Q o.d,J Q o.s,J Q o.n,J Q o.w]
theorem zqI(k:Nat)(o:S.Ord)(p:Nat)(hp:p<4):(ny k o)[t7 p]?=A (J Q (o.get p)):=by
 have hc:p=0 \/ p=1 \/ p=2 \/ p=3:=by omega
 rcases hc with rfl|rfl|rfl|rfl <;> rfl
theorem zAi{k j:Nat}{p:Nat}(h:(S.parts k)[j]?=A p):(qA k 4)[j]?=A (J Q p):=by
 unfold qA;rw[bn];have:((List.range 4).filter (λp=>O.hasC k (S.sgn p)))[j]?=A p:=h;rw[this];rfl
theorem zm8(k:Nat):(qA k 4).length=(S.parts k).length:=by unfold qA S.parts;rw[bf]
theorem zjc{k j p:Nat}(h:(S.parts k)[j]?=A p):p<4:=by
 have:=bu h;unfold S.parts at this;have:=(ju.1 this).1
 simpa using this
def yV(k:Nat)(o:S.Ord)(j:Nat):List π:=((S.parts k).take j).map (λp=>Ω (aT (S.partText o p)))
theorem zjd{k:Nat}{o:S.Ord}{j p:Nat}(h:(S.parts k)[j]?=A p):yV k o (j+1)=yV k o j++[Ω (aT (S.partText o p))]:=by
 unfold yV;rw[ek,h];simp
theorem zm9:(Tryz.prog.info? 9).map (λi=>(i.zero,i.size,i.bytes))=A (A (Ω ⟨#[]⟩),1,16):=by kernel_rfl
theorem yW(k:Nat):(S.parts k).length<=4:=by
 unfold S.parts;exact ax (iL _ _) (by simp)
theorem zsB{k:Nat}{o:S.Ord}(a:O.okB k o.d o.s o.n o.w=Γ)(p:Nat):-16<=o.get p/\o.get p<=65535:=by
 obtain⟨b1,b2,b3,b4⟩:=O.ok_bd a;unfold S.Ord.get;split
 ·omega
 ·split
  ·omega
  ·split <;> omega
theorem yX(o:S.Ord)(p:Nat)(h:p=0 \/ p=1):aT (S.partText o p)=aT [114]++aT (ba (o.get p)):=by
 unfold S.partText;rw[am h,nR];rfl
theorem Al(o:S.Ord)(p:Nat)(h:¬ (p=0 \/ p=1)):aT (S.partText o p)=aT (ba (o.get p)):=by
 unfold S.partText;rw[ae h]
theorem zdY{w:u}{B:Nat}{t:aJ}{v:π}{n:Nat}{xs:List π}(h:w.ownsRow B t 1 v n xs)(f:0<n):∃ g a,v=κ (A ⟨g,0,G⟩) n a/\B<=g/\g<w.heap.size/\n<=a /\ ∀ j,j<n->w.cell? ⟨g,j,G⟩=xs[j]?:=by
 obtain⟨i,h⟩:=h;rcases h with⟨_,k⟩|⟨g,a,b,rfl,hB,hb,hc,_,d,e⟩
 ·omega
 ·refine⟨g,a,D,hB,(aa.1 hb).1,hc,λj l=>?_⟩
  simp only[World.cell?,hb];have c:j<b.size:=by rw[d];omega
  rw[<- e,dN (by omega)];simp[c]
theorem vK(n:Int)(h:n.natAbs<1000000):(ba n).length<=7:=by
 have c:∀ θ,θ<1000000->(dM θ).length<=6:=λθ a=>by
  have b:∀ d θ,θ<10 ^ (d+1)->(dM θ).length<=d+1:=by
   intro d;induction d with
   | zero=>intro θ a;rw[S.dec_small θ (by simpa using a)];simp
   | succ d e =>
    intro θ a;rw[dM];split
    ·simp
    ·rw[az]
     have:=e (θ/10) (by rw[Nat.pow_succ] at a;omega);simp;omega
  exact b 5 θ (by simpa using a)
 unfold ba;split
 ·have:=c n.natAbs h;simp;omega
 ·have:=c n.toNat (by omega);omega
theorem zje:∀ ps:List S.By,(∀ p∈ps,p.length<=10)->(fk ps S.comma).length<=12*ps.length
 | [],_=>by simp[fk,List.intercalate]
 | [p],h=>by rw[S.join_one];have:=h p (by simp);simp;omega
 | p::q::ps,h=>by
  have a:=zje (q::ps) (λx b=>h x (bV _ b));have hp:=h p (by simp);rw[S.join_cons];simp only[az,cy] at a ⊢;omega
theorem zft{k:Nat}{o:S.Ord}(a:O.okB k o.d o.s o.n o.w=Γ)(p:Nat):(S.partText o p).length<=10:=by
 have h1:=zsB a p;have h2:=vK (o.get p) (by omega);unfold S.partText;split
 ·simp;omega
 ·omega
theorem zdv{k:Nat}{o:S.Ord}(a:O.okB k o.d o.s o.n o.w=Γ):(fk ((S.parts k).map (S.partText o)) S.comma).length<=48:=by
 have h4:=yW k;have:=zje ((S.parts k).map (S.partText o)) (λp hp=>by obtain⟨q,_,rfl⟩:=gc.1 hp;exact zft a q);rw[bf] at this;omega
theorem zvC(k:Nat)(o:S.Ord)(b:O.okB k o.d o.s o.n o.w=Γ)(g c:Nat)(w:u)(hc:(S.parts k).length<=c)(i:g<w.heap.size)(a:∀ j,j<(S.parts k).length->w.cell? ⟨g,j,G⟩=(yV k o (S.parts k).length)[j]?):Δ ω 339 #[κ (A ⟨g,0,G⟩) (S.parts k).length c,Ω ⟨#[44,32]⟩] w λe w'=>e=μ (Ω (aT (fk ((S.parts k).map (S.partText o)) S.comma)))/\Below w.heap.size w w':=by
 have h4:=yW k;have e1:(((S.parts k).map (λp=>aT (S.partText o p))).map (·.data.toList))=(S.parts k).map (S.partText o):=by
  rw[kQ];rfl
 have h:=Tryz.strings_Join g 0 c ((S.parts k).map (λp=>aT (S.partText o p))) ⟨#[44,32]⟩ w (λj x f=>?_) i (by simp;omega) (by simpa using hc) ?_
 ·rw[e1,bf] at h
  exact h
 ·have l:j<(S.parts k).length:=by
   have:=(ay.1 f).1
   simpa using this
  rw[aX,a j l];unfold yV;rw[ja,show (λp=>Ω (aT (S.partText o p)))=Ω ∘ (λp=>aT (S.partText o p)) from D,<- kQ,bn,f];rfl
 ·rw[e1]
  exact ax (zdv b) (by omega)
theorem zsC{w:u}{B:Nat}{t:aJ}{v:π}{n:Nat}{xs:List π}(h:w.ownsRow B t 1 v n xs)(c:n=0):∃ a b,v=κ a 0 b:=by
 subst c;rcases h.2 with⟨h,_⟩|⟨g,b,d,h,_⟩
 ·exact⟨_,_,h⟩
 ·exact⟨_,_,h⟩
theorem zkZ(k:Nat)(f:k<32)(d:k≠30)(hp:S.parts k=[])(w:u)(g:br w):Δ ω 327 #[J Q k] w λe w'=>∃ a b,e=μ (κ a 0 b)/\Below w.heap.size w w':=by
 refine(zf0 k f d w g).mono λe w' ⟨v,h,c,hb⟩=>?_
 obtain⟨a,b,rfl⟩:=zsC c (by rw[zm8,hp];rfl);exact⟨a,b,h,hb⟩
def qZ(w:u)(g k:Nat):Prop:=∀ j p:Nat,(S.parts k)[j]?=A p->w.cell? ⟨g,j,G⟩=A (J Q p)
theorem zk0(k:Nat)(h:k<32)(c:k≠30)(hp:0<(S.parts k).length)(w:u)(i:br w):Δ ω 327 #[J Q k] w λe w'=>∃ g a,e=μ (κ (A ⟨g,0,G⟩) (S.parts k).length a)/\qZ w' g k/\w.heap.size<=g/\g<w'.heap.size/\(S.parts k).length<=a/\Below w.heap.size w w':=by
 refine(zf0 k h c w i).mono λe w' ⟨v,d,b,hb⟩=>?_
 obtain⟨g,a,rfl,h1,h2,h3,h4⟩:=zdY b (by rw[zm8];exact hp);rw[zm8] at d h3 h4;refine⟨g,a,d,λj p f=>?_,h1,h2,h3,hb⟩;rw[h4 j (ay.1 f).1,zAi f]
theorem qZ.kept{w w':u}{g k B:Nat}(h:qZ w g k)(hb:Below B w w')(hB:g<B):qZ w' g k:=λj p a=>(hb.cell hB).trans (h j p a)
theorem zk1:∀ k,k<32->(O.nameS k).size<=4:=by decide +kernel
theorem zna(k:Nat)(a:k≠30):O.nameS k=aT (K.row k).1:=by unfold O.nameS;rw[ae a];rfl
theorem znb(k:Nat)(c:k<32)(b:k≠30)(hp:S.parts k=[])(d s n ww:Int)(w:u)(g:AF w):Δ ω 273 #[ac #[J Q k,J Q d,J Q s,J Q n,J Q ww]] w λe w'=>e=μ (Ω (aT ((K.row k).1++[10])))/\Below w.heap.size w w':=by
 have h:=hid g;have o:=hid hp;have p:=zk1 k c;have j:¬ 9223372036854775807<(O.nameS k).size+1:=by omega
 clear g hp;go_enter func273,ntmps273;go_wp2_with (first
  | (go_at_call 206;refine(ze1 k c b _ (rZ h.out _).shapes).mono ?_;rintro e w1 ⟨rfl,a⟩;obtain⟨q,r⟩:=cj a;have t:=rY a)
  | (go_at_call 327;refine(zkZ k c b o.out _ ((rZ h.out _).kept a).shapes).mono ?_;rintro e w2 ⟨a2,m,rfl,f⟩))
 go_loop [5,19] (λl i=>l=κ G 0 0/\i=J Q 0) (λ_ _=>0)
 case atStart=>exact⟨D,D⟩
 case round =>
  obtain⟨rfl,rfl⟩:=hrel;go_wp2;go_ret;rw[zna k b,show (⟨#[10]⟩:ByteArray)=aT [10] from D,nR];exact⟨D,bw (bw (stA (aR _) _) a) f⟩
theorem znc(k:Nat)(hk:k<32)(L:k≠30)(hp:0<(S.parts k).length)(o:S.Ord)(V:O.okB k o.d o.s o.n o.w=Γ)(w:u)(hF:AF w):Δ ω 273 #[ac #[J Q k,J Q o.d,J Q o.s,J Q o.n,J Q o.w]] w λe w'=>e=μ (Ω (aT (S.orderText k o++[10])))/\Below w.heap.size w w':=by
 obtain⟨i0,M,N,P,R⟩:=info_parts zm9;have HF:=hid hF;have HO:=hid V;have h4:=yW k;clear hF V;go_enter func273,ntmps273;go_wp2_with (first
  | (go_at_call 206;refine(ze1 k hk L _ (rZ HF.out _).shapes).mono ?_;rintro e w1 ⟨rfl,B⟩;obtain⟨hc1,hf1⟩:=cj B;have hz1':=rY B)
  | (go_at_call 327;refine(zk0 k hk L hp _ ((rZ HF.out _).kept B).shapes).mono ?_;rintro e w2 ⟨g,cap,rfl,T,hg1,hg2,hcap,hb2⟩))
 have E:=bw B hb2;have U:=hid ((rZ HF.out _).kept E);have H:=E.size;clear hc1 hf1;go_loopw [5,19] (λl i wr=>∃ j:Nat,j<=(S.parts k).length/\i=J Q j/\wr.ownsRow w2.heap.size 9 1 l j (yV k o j)/\Below w2.heap.size w2 wr) (λ_ i _=>(S.parts k).length-(aU i).toNat)
 case atStart=>exact⟨0,by omega,D,⟨D,aj ⟨D,D⟩⟩,bq _ _⟩
 case round =>
  obtain⟨j,hj,rfl,a,r⟩:=hrel;have hszr:=r.size;by_cases hlt:j<(S.parts k).length
  ·obtain⟨p,y⟩:∃ p,(S.parts k)[j]?=A p:=⟨_,aq hlt⟩
   have F:=zjc y;have hcp:=(T.kept r hg2) j p y;have hgr:g<wr.heap.size:=by omega
   have hfield:wr.cell? ⟨w.heap.size,t7 p,G⟩=A (J Q (o.get p)):=by
    have hsz:w.heap.size<w2.heap.size:=by simp at H;omega
    rw[r.cell hsz,E.cell (by simp)];exact(ly w _ _ _ D).trans (zqI k o p F)
   have hwr:w.heap.size<wr.heap.size:=by simp at H;omega
   have hbd:=zsB HO.out p;have hlt':(j:Int)<(S.parts k).length:=by omega
   clear T;have W:=vK (o.get p) (by omega);have hi':(aT (ba (o.get p))).size<=7:=W;have hi2:¬ 9223372036854775807<1+(aT (ba (o.get p))).size:=by omega
   clear W hi';by_cases h0:p=0
   ·subst h0
    go_wp2_with (first
     | (go_at_call 328;refine(zjb 0 F _ _).mono ?_;rintro e w' ⟨rfl,rfl⟩)
     | (go_at_call 104;refine(rp (o.get 0) (by omega) (by omega) _ (U.out.kept r)).mono ?_;rintro e z ⟨rfl,v⟩;have b:=a.kept (rx v) (rX _);have c:=bw r v)
     | (at_builtin;refine wpList_append_lies _ (by rfl) _ _ _ (by rfl) w2.heap.size 9 i0 _ 1 16 underlying251 M N P R D (by omega) _ j _ (by rfl) (b.alloc _) ⟨z.heap.size,0,G⟩ 1 1 [Ω (⟨#[114]⟩++aT (ba (o.get 0)))] (by rfl) (by rfl) (World.news_of_block (cs:=#[Ω (⟨#[114]⟩++aT (ba (o.get 0)))]) (t:=9) (fr:=(0,0)) (aM z _)) (by simp[bi]) (by omega) (by unfold dI;omega) (by omega) (by have:=c.size;simp;omega) (z.heap.size+1) (by simp) ?_;intro gg cp w4 f m X I))
    go_roundw
    case rel=>exact⟨j+1,by omega,by go_num,by rw[zjd y,yX o 0 (aj D)];exact f,(stA c _).grown m (stA c _).size (λq Z=>(a.lt q Z).1)⟩
    case measure=>simp[aU];omega
   ·by_cases h1:p=1
    ·subst h1
     go_wp2_with (first
     | (go_at_call 328;refine(zjb 1 F _ _).mono ?_;rintro e w' ⟨rfl,rfl⟩)
     | (go_at_call 104;refine(rp (o.get 1) (by omega) (by omega) _ (U.out.kept r)).mono ?_;rintro e z ⟨rfl,v⟩;have b:=a.kept (rx v) (rX _);have c:=bw r v)
     | (at_builtin;refine wpList_append_lies _ (by rfl) _ _ _ (by rfl) w2.heap.size 9 i0 _ 1 16 underlying251 M N P R D (by omega) _ j _ (by rfl) (b.alloc _) ⟨z.heap.size,0,G⟩ 1 1 [Ω (⟨#[114]⟩++aT (ba (o.get 1)))] (by rfl) (by rfl) (World.news_of_block (cs:=#[Ω (⟨#[114]⟩++aT (ba (o.get 1)))]) (t:=9) (fr:=(0,0)) (aM z _)) (by simp[bi]) (by omega) (by unfold dI;omega) (by omega) (by have:=c.size;simp;omega) (z.heap.size+1) (by simp) ?_;intro gg cp w4 f m X I))
     go_roundw
     case rel=>exact⟨j+1,by omega,by go_num,by rw[zjd y,yX o 1 (ao D)];exact f,(stA c _).grown m (stA c _).size (λq Z=>(a.lt q Z).1)⟩
     case measure=>simp[aU];omega
    ·have g0:((p:Int) == 0)=ξ:=by rw[jh];omega
     have g1:((p:Int) == 1)=ξ:=by rw[jh];omega
     go_wp2_with (first
     | (go_at_call 328;refine(zjb p F _ _).mono ?_;rintro e w' ⟨rfl,rfl⟩)
     | (go_at_call 104;refine(rp (o.get p) (by omega) (by omega) _ (U.out.kept r)).mono ?_;rintro e z ⟨rfl,v⟩;have b:=a.kept (rx v) (rX _);have c:=bw r v)
     | (at_builtin;refine wpList_append_lies _ (by rfl) _ _ _ (by rfl) w2.heap.size 9 i0 _ 1 16 underlying251 M N P R D (by omega) _ j _ (by rfl) (b.alloc _) ⟨z.heap.size,0,G⟩ 1 1 [Ω (aT (ba (o.get p)))] (by rfl) (by rfl) (World.news_of_block (cs:=#[Ω (aT (ba (o.get p)))]) (t:=9) (fr:=(0,0)) (aM z _)) (by simp[bi]) (by omega) (by unfold dI;omega) (by omega) (by have:=c.size;simp;omega) (z.heap.size+1) (by simp) ?_;intro gg cp w4 f m X I))
     go_roundw
     case rel=>exact⟨j+1,by omega,by go_num,by rw[zjd y,Al o p (by omega)];exact f,(stA c _).grown m (stA c _).size (λq Z=>(a.lt q Z).1)⟩
     case measure=>simp[aU];omega
  ·have hjn:j=(S.parts k).length:=by omega
   subst hjn;obtain⟨g',cap',rfl,hg1',hg2',hc',x⟩:=zdY a hp;have hns:=zk1 k hk;have hjs:(aT (fk ((S.parts k).map (S.partText o)) S.comma)).size<=48:=zdv HO.out;have q1:¬ 9223372036854775807<1+(aT (fk ((S.parts k).map (S.partText o)) S.comma)).size:=by omega
   have q2:¬ 9223372036854775807<(O.nameS k).size+(1+(aT (fk ((S.parts k).map (S.partText o)) S.comma)).size):=by omega
   have q3:¬ 9223372036854775807<(O.nameS k).size+(1+(aT (fk ((S.parts k).map (S.partText o)) S.comma)).size)+1:=by omega
   have hp':(0:Int)<(S.parts k).length:=by omega
   have HJ:=hid (zvC k o HO.out g' cap' wr hc' hg2' x);clear x T;go_wp2_with (go_at_call 339;refine HJ.out.mono ?_;rintro e w5 ⟨rfl,hb5⟩)
   go_ret;refine⟨?_,bw (bw (bw (stA (aR _) _) E) r) hb5⟩;rw[zna k L,show (⟨#[10]⟩:ByteArray)=aT [10] from D,show (⟨#[32]⟩:ByteArray)=aT [32] from D,nR,nR,nR];unfold S.orderText;rw[ae (λh=>by rw[h] at hp;simp at hp)];simp
theorem zjf(k:Nat)(c:k<32)(a:k≠30)(o:S.Ord)(b:O.okB k o.d o.s o.n o.w=Γ)(w:u)(f:AF w):Δ ω 273 #[ac #[J Q k,J Q o.d,J Q o.s,J Q o.n,J Q o.w]] w λe w'=>e=μ (Ω (aT (S.orderText k o++[10])))/\Below w.heap.size w w':=by
 by_cases hp:S.parts k=[]
 ·have h:=znb k c a hp o.d o.s o.n o.w w f
  have e:S.orderText k o=(K.row k).1:=by unfold S.orderText;rw[am hp];simp
  rw[e];exact h
 ·exact znc k c a (by cases h:S.parts k <;> simp_all) o b w f
theorem ya(a b:UInt8)(w:u):Δ ω 211 #[J au a.toNat,J au b.toNat] w λe w'=>e=μ (J Y (S.word a b))/\w'=w:=by
 have d:=a.toNat_lt;have hb:=b.toNat_lt;have c:=M.joined (a.toNat:Int) (b.toNat:Int) (by omega) (by omega) (by omega) (by omega);go_enter func211,ntmps211;go_wp2;go_ret;exact⟨by rw[show S.word a b=(a.toNat:Int)*256+b.toNat from D,<- c];rfl,D⟩
def iJ(w:u)(g o:Nat)(l:List UInt8):Prop:=∀(j:Nat) (c:UInt8),l[j]?=A c->w.cell? ⟨g,o+j,G⟩=A (J au c.toNat)
theorem iJ.kept{w w':u}{g o B:Nat}{l:List UInt8}(h:iJ w g o l)(hb:Below B w w')(hB:g<B):iJ w' g o l:=λj c a=>(hb.cell hB).trans (h j c a)
theorem iJ.drop{w:u}{g o:Nat}{l:List UInt8}(h:iJ w g o l)(n:Nat):iJ w g (o+n) (l.drop n):=λj c a=>by
 rw[jC] at a;rw[dS];exact h (n+j) c a
theorem rq{w a:u}(h:Below w.heap.size w a)(k:Nat):Below w.heap.size w (a.drewN k):=by
 induction k with
 | zero=>exact h
 | succ k b=>exact b.drew
theorem vM{w:u}(h:AF w)(k:Nat):AF (w.drewN k):=h.kept (rq (aR _) k)
theorem znd(op d s n ww:Int)(h1:O.isOp op=Γ)(a:O.okB op.toNat d s n ww=Γ)(w:u)(b:br w):Δ ω 272 #[ac #[J Q op,J Q d,J Q s,J Q n,J Q ww]] w λe w' =>
  ∃(g c:Nat),e=μ (Ψ #[κ (A ⟨g,0,G⟩) c c,J Q 0])/\0<c/\w'.cell? ⟨g,0,G⟩=A (J Y (O.first op d s n))/\g<w'.heap.size/\Below w.heap.size w w':=by
 refine(zkY op d s n ww h1 a w b).mono λe w' ⟨g,f,h,_,i,hb⟩=>?_
 refine⟨g,(O.words op d s n ww).length,f,?_,?_,i,hb⟩
 ·unfold O.words;split <;> simp
 ·have:=h 0 (by unfold O.words;split <;> simp)
  rw[this];unfold O.words;split <;> rfl
theorem Am(a b:Int)(d:0<=a/\a<=65535)(hb:0<=b/\b<=65535)(w:u)(f:br w):Δ ω 272 #[ac #[J Q (O.rOp a),J Q (O.rD a),J Q (O.rS a),J Q (O.rN a),J Q (O.rW a b)]] w λe w' =>
  ∃(g c:Nat),e=μ (Ψ #[κ (A ⟨g,0,G⟩) c c,J Q 0])/\0<c/\w'.cell? ⟨g,0,G⟩=A (J Y (O.first (O.rOp a) (O.rD a) (O.rS a) (O.rN a)))/\g<w'.heap.size/\Below w.heap.size w w' :=
 znd _ _ _ _ _ (O.rOp_isOp a d) (O.read_ok a b d hb) w f
theorem zdT(a b:Int)(c:0<=a/\a<=65535)(hb:0<=b/\b<=65535)(w:u)(d:AF w):Δ ω 273 #[ac #[J Q (O.rOp a),J Q (O.rD a),J Q (O.rS a),J Q (O.rN a),J Q (O.rW a b)]] w λe w'=>e=μ (Ω (aT (S.orderText (O.rk a) (S.rOrd a b)++[10])))/\Below w.heap.size w w':=by
 obtain⟨o1,o2,o3⟩:=(O.isOp_iff _).1 (O.rOp_isOp a c);have f:((O.rk a:Nat):Int)=O.rOp a:=by show (((O.rOp a).toNat:Nat):Int)=O.rOp a;omega
 have h:=zjf (O.rk a) (by show (O.rOp a).toNat<32;omega) (by show (O.rOp a).toNat≠30;omega) (S.rOrd a b) (O.read_ok a b c hb) w d;rw[f] at h;exact h
theorem An(a b:Int)(c:0<=a/\a<=65535)(hb:0<=b/\b<=65535)(w:u)(d:br w):Δ ω 271 #[J Y a,J Y b] w λe w'=>e=μ (Ψ #[ac #[J Q (O.rOp a),J Q (O.rD a),J Q (O.rS a),J Q (O.rN a),J Q (O.rW a b)],J Q (O.rLen a)])/\Below w.heap.size w w':=zfM a b c hb w d
theorem zpH{P:bX}{f:FuncId}{args:Array π}{w:u}{q n:Nat}{v:π}
 (h:Δ P f args (w.drewN (q+n)) λe w'=>e=μ v/\w'=w.drewN (q+n)):Δ P f args (w.drewN (q+n)) λe a=>e=μ v /\ ∃ m,a=w.drewN (q+m) :=
 h.mono λ_ _ ⟨b,c⟩=>⟨b,n,c⟩
theorem yY(a:Int):(⟨#[46,119,111,114,100,32]⟩:ByteArray)++aT (ba a)++(⟨#[10]⟩:ByteArray)=aT (S.wordText a++[10]):=by
 rw[show (⟨#[46,119,111,114,100,32]⟩:ByteArray)=aT [46,119,111,114,100,32] from D,show (⟨#[10]⟩:ByteArray)=aT [10] from D,nR,nR];simp[S.wordText,S.plain]
theorem zvD(g o b:Nat)(x y:UInt8)(l:2<=b)(w:u)(F:g<w.heap.size)(c0:w.cell? ⟨g,o,G⟩=A (J au x.toNat))(c1:w.cell? ⟨g,o+1,G⟩=A (J au y.toNat))(m:AF w)(q:¬ O.first (O.rOp (S.word x y)) (O.rD (S.word x y)) (O.rS (S.word x y)) (O.rN (S.word x y))=S.word x y):Δ ω 233 #[κ (A ⟨g,o,G⟩) 2 b] w λe w'=>e=μ (Ψ #[Ω (aT (S.wordText (S.word x y)++[10])),J Q 2])/\Below w.heap.size w w':=by
 have n:=hid m;obtain⟨a0,a1⟩:=S.word_bd x y;obtain⟨l1,l2⟩:1<=O.rLen (S.word x y)/\O.rLen (S.word x y)<=2:=by rcases S.rLen_or (S.word x y) with h|h <;> rw[h] <;> omega
 have f:(aT (ba (S.word x y))).size<=7:=vK (S.word x y) (by omega);have r:¬ 9223372036854775807<6+(aT (ba (S.word x y))).size:=by omega
 have s:¬ 9223372036854775807<6+(aT (ba (S.word x y))).size+1:=by omega
 clear m f;go_enter func233,ntmps233;go_wp2;go_quiet ((go_at_call 211;exact Calls.quiet_of_same (ya x y _)))
 go_wp2_with (first
  | (go_at_call 271;refine(An _ 0 ⟨a0,a1⟩ (by omega) _ (vM n.out _).shapes).mono ?_;rintro e w1 ⟨rfl,c⟩;have d:=hid (rZ ((vM n.out _).kept c) (χ #[J Q (O.rOp (S.word x y)),J Q (O.rD (S.word x y)),J Q (O.rS (S.word x y)),J Q (O.rN (S.word x y)),J Q (O.rW (S.word x y) 0)] 191)))
  | (go_at_call 272;refine(Am (S.word x y) 0 ⟨a0,a1⟩ (by omega) _ d.out.shapes).mono ?_;rintro e w2 ⟨H,k2,rfl,i,t,v,a⟩;have p:(0:Int)<k2:=dT.2 i;have j:=hid (d.out.kept a);obtain⟨z,B⟩:=cj a;have E:=rY a)
  | (go_at_call 104;refine(rp (S.word x y) (by omega) (by omega) _ j.out).mono ?_;rintro e I ⟨rfl,k⟩))
 go_ret2
 exact⟨by rw[<- yY];rfl,bw (bw (stA (bw (rq (aR w) _) c) _) a) k⟩
theorem zvE(g o c:Nat)(x y:UInt8)(m:2<=c)(w:u)(I:g<w.heap.size)(c0:w.cell? ⟨g,o,G⟩=A (J au x.toNat))(c1:w.cell? ⟨g,o+1,G⟩=A (J au y.toNat))(n:AF w)(b:O.first (O.rOp (S.word x y)) (O.rD (S.word x y)) (O.rS (S.word x y)) (O.rN (S.word x y))=(S.word x y))(L:(2:Int)<2*O.rLen (S.word x y)):Δ ω 233 #[κ (A ⟨g,o,G⟩) 2 c] w λe w'=>e=μ (Ψ #[Ω (aT (S.wordText (S.word x y)++[10])),J Q 2])/\Below w.heap.size w w':=by
 have p:=hid n;obtain⟨a0,a1⟩:=S.word_bd x y;obtain⟨l1,l2⟩:1<=O.rLen (S.word x y)/\O.rLen (S.word x y)<=2:=by rcases S.rLen_or (S.word x y) with h|h <;> rw[h] <;> omega
 have i:(aT (ba (S.word x y))).size<=7:=vK (S.word x y) (by omega);have r:¬ 9223372036854775807<6+(aT (ba (S.word x y))).size:=by omega
 have s:¬ 9223372036854775807<6+(aT (ba (S.word x y))).size+1:=by omega
 have t:=hid b;have v:(O.first (O.rOp (S.word x y)) (O.rD (S.word x y)) (O.rS (S.word x y)) (O.rN (S.word x y)) == (S.word x y))=Γ:=by rw[b];simp
 clear b;clear n i;go_enter func233,ntmps233;go_wp2;go_quiet ((go_at_call 211;exact Calls.quiet_of_same (ya x y _)))
 go_wp2_with (first
  | (go_at_call 271;refine(An _ 0 ⟨a0,a1⟩ (by omega) _ (vM p.out _).shapes).mono ?_;rintro e w1 ⟨rfl,d⟩;have f:=hid (rZ ((vM p.out _).kept d) (χ #[J Q (O.rOp (S.word x y)),J Q (O.rD (S.word x y)),J Q (O.rS (S.word x y)),J Q (O.rN (S.word x y)),J Q (O.rW (S.word x y) 0)] 191)))
  | (go_at_call 272;refine(Am (S.word x y) 0 ⟨a0,a1⟩ (by omega) _ f.out.shapes).mono ?_;rintro e w2 ⟨M,k2,rfl,j,z,B,a⟩;have q:(0:Int)<k2:=dT.2 j;have k:=hid (f.out.kept a);obtain⟨E,F⟩:=cj a;have H:=rY a)
  | (go_at_call 104;refine(rp (S.word x y) (by omega) (by omega) _ k.out).mono ?_;rintro e N ⟨rfl,l⟩))
 go_ret2
 exact⟨by rw[<- yY];rfl,bw (bw (stA (bw (rq (aR w) _) d) _) a) l⟩
theorem zvF(g o c:Nat)(x y:UInt8)(m:2<=c)(w:u)(I:g<w.heap.size)(c0:w.cell? ⟨g,o,G⟩=A (J au x.toNat))(c1:w.cell? ⟨g,o+1,G⟩=A (J au y.toNat))(n:AF w)(b:O.first (O.rOp (S.word x y)) (O.rD (S.word x y)) (O.rS (S.word x y)) (O.rN (S.word x y))=(S.word x y))(L:¬ (2:Int)<2*O.rLen (S.word x y)):Δ ω 233 #[κ (A ⟨g,o,G⟩) 2 c] w λe w'=>e=μ (Ψ #[Ω (aT (S.orderText (O.rk (S.word x y)) (S.rOrd (S.word x y) 0)++[10])),J Q (2*O.rLen (S.word x y))])/\Below w.heap.size w w':=by
 have p:=hid n;obtain⟨a0,a1⟩:=S.word_bd x y;obtain⟨l1,l2⟩:1<=O.rLen (S.word x y)/\O.rLen (S.word x y)<=2:=by rcases S.rLen_or (S.word x y) with h|h <;> rw[h] <;> omega
 have i:(aT (ba (S.word x y))).size<=7:=vK (S.word x y) (by omega);have r:¬ 9223372036854775807<6+(aT (ba (S.word x y))).size:=by omega
 have s:¬ 9223372036854775807<6+(aT (ba (S.word x y))).size+1:=by omega
 have t:=hid b;have v:(O.first (O.rOp (S.word x y)) (O.rD (S.word x y)) (O.rS (S.word x y)) (O.rN (S.word x y)) == (S.word x y))=Γ:=by rw[b];simp
 clear b;clear n i;go_enter func233,ntmps233;go_wp2;go_quiet ((go_at_call 211;exact Calls.quiet_of_same (ya x y _)))
 go_wp2_with (first
  | (go_at_call 271;refine(An _ 0 ⟨a0,a1⟩ (by omega) _ (vM p.out _).shapes).mono ?_;rintro e w1 ⟨rfl,d⟩;have f:=hid (rZ ((vM p.out _).kept d) (χ #[J Q (O.rOp (S.word x y)),J Q (O.rD (S.word x y)),J Q (O.rS (S.word x y)),J Q (O.rN (S.word x y)),J Q (O.rW (S.word x y) 0)] 191)))
  | (go_at_call 272;refine(Am (S.word x y) 0 ⟨a0,a1⟩ (by omega) _ f.out.shapes).mono ?_;rintro e w2 ⟨M,k2,rfl,j,z,B,a⟩;have q:(0:Int)<k2:=dT.2 j;have k:=hid (f.out.kept a);obtain⟨E,F⟩:=cj a;have H:=rY a)
  | (go_at_call 273;refine(zdT (S.word x y) 0 ⟨a0,a1⟩ (by omega) _ k.out).mono ?_;rintro e N ⟨rfl,l⟩))
 go_ret2
 exact⟨D,bw (bw (stA (bw (rq (aR w) _) d) _) a) l⟩
theorem zvG(g o n c:Nat)(x y x2 b:UInt8)(N:(3:Int)<n)(m:n<=c)(w:u)(P:g<w.heap.size)(c0:w.cell? ⟨g,o,G⟩=A (J au x.toNat))(c1:w.cell? ⟨g,o+1,G⟩=A (J au y.toNat))(c2:w.cell? ⟨g,o+2,G⟩=A (J au x2.toNat))(c3:w.cell? ⟨g,o+3,G⟩=A (J au b.toNat))(p:AF w)(s:¬ O.first (O.rOp (S.word x y)) (O.rD (S.word x y)) (O.rS (S.word x y)) (O.rN (S.word x y))=S.word x y):Δ ω 233 #[κ (A ⟨g,o,G⟩) n c] w λe w'=>e=μ (Ψ #[Ω (aT (S.wordText (S.word x y)++[10])),J Q 2])/\Below w.heap.size w w':=by
 have q:=hid p;obtain⟨a0,a1⟩:=S.word_bd x y;obtain⟨b0,b1⟩:=S.word_bd x2 b;have t:(0:Int)<n:=by omega
 have v:(1:Int)<n:=by omega
 have z:(2:Int)<n:=by omega
 obtain⟨l1,l2⟩:1<=O.rLen (S.word x y)/\O.rLen (S.word x y)<=2:=by rcases S.rLen_or (S.word x y) with h|h <;> rw[h] <;> omega
 have i:(aT (ba (S.word x y))).size<=7:=vK (S.word x y) (by omega);have B:¬ 9223372036854775807<6+(aT (ba (S.word x y))).size:=by omega
 have E:¬ 9223372036854775807<6+(aT (ba (S.word x y))).size+1:=by omega
 clear p i;go_enter func233,ntmps233;go_wp2;go_quiet ((go_at_call 211;exact Calls.quiet_of_same (ya x y _)))
 go_wp2;go_quiet ((go_at_call 211;exact zpH (ya x2 b _)))
 go_wp2_with (first
  | (go_at_call 271;refine(An _ (S.word x2 b) ⟨a0,a1⟩ ⟨b0,b1⟩ _ (vM q.out _).shapes).mono ?_;rintro e w1 ⟨rfl,d⟩;have f:=hid (rZ ((vM q.out _).kept d) (χ #[J Q (O.rOp (S.word x y)),J Q (O.rD (S.word x y)),J Q (O.rS (S.word x y)),J Q (O.rN (S.word x y)),J Q (O.rW (S.word x y) (S.word x2 b))] 191)))
  | (go_at_call 272;refine(Am (S.word x y) (S.word x2 b) ⟨a0,a1⟩ ⟨b0,b1⟩ _ f.out.shapes).mono ?_;rintro e w2 ⟨R,k2,rfl,j,F,H,a⟩;have r:(0:Int)<k2:=dT.2 j;have k:=hid (f.out.kept a);obtain⟨I,L⟩:=cj a;have M:=rY a)
  | (go_at_call 104;refine(rp (S.word x y) (by omega) (by omega) _ k.out).mono ?_;rintro e T ⟨rfl,l⟩))
 go_ret2
 exact⟨by rw[<- yY];rfl,bw (bw (stA (bw (rq (aR w) _) d) _) a) l⟩
theorem zvH(g o n d:Nat)(x y x2 b:UInt8)(R:(3:Int)<n)(p:n<=d)(w:u)(T:g<w.heap.size)(c0:w.cell? ⟨g,o,G⟩=A (J au x.toNat))(c1:w.cell? ⟨g,o+1,G⟩=A (J au y.toNat))(c2:w.cell? ⟨g,o+2,G⟩=A (J au x2.toNat))(c3:w.cell? ⟨g,o+3,G⟩=A (J au b.toNat))(q:AF w)(c:O.first (O.rOp (S.word x y)) (O.rD (S.word x y)) (O.rS (S.word x y)) (O.rN (S.word x y))=(S.word x y))(U:¬ (n:Int)<2*O.rLen (S.word x y)):Δ ω 233 #[κ (A ⟨g,o,G⟩) n d] w λe w'=>e=μ (Ψ #[Ω (aT (S.orderText (O.rk (S.word x y)) (S.rOrd (S.word x y) (S.word x2 b))++[10])),J Q (2*O.rLen (S.word x y))])/\Below w.heap.size w w':=by
 have r:=hid q;obtain⟨a0,a1⟩:=S.word_bd x y;obtain⟨b0,b1⟩:=S.word_bd x2 b;have t:(0:Int)<n:=by omega
 have v:(1:Int)<n:=by omega
 have z:(2:Int)<n:=by omega
 obtain⟨l1,l2⟩:1<=O.rLen (S.word x y)/\O.rLen (S.word x y)<=2:=by rcases S.rLen_or (S.word x y) with h|h <;> rw[h] <;> omega
 have j:(aT (ba (S.word x y))).size<=7:=vK (S.word x y) (by omega);have B:¬ 9223372036854775807<6+(aT (ba (S.word x y))).size:=by omega
 have E:¬ 9223372036854775807<6+(aT (ba (S.word x y))).size+1:=by omega
 have F:=hid c;have H:(O.first (O.rOp (S.word x y)) (O.rD (S.word x y)) (O.rS (S.word x y)) (O.rN (S.word x y)) == (S.word x y))=Γ:=by rw[c];simp
 clear c;clear q j;go_enter func233,ntmps233;go_wp2;go_quiet ((go_at_call 211;exact Calls.quiet_of_same (ya x y _)))
 go_wp2;go_quiet ((go_at_call 211;exact zpH (ya x2 b _)))
 go_wp2_with (first
  | (go_at_call 271;refine(An _ (S.word x2 b) ⟨a0,a1⟩ ⟨b0,b1⟩ _ (vM r.out _).shapes).mono ?_;rintro e w1 ⟨rfl,f⟩;have i:=hid (rZ ((vM r.out _).kept f) (χ #[J Q (O.rOp (S.word x y)),J Q (O.rD (S.word x y)),J Q (O.rS (S.word x y)),J Q (O.rN (S.word x y)),J Q (O.rW (S.word x y) (S.word x2 b))] 191)))
  | (go_at_call 272;refine(Am (S.word x y) (S.word x2 b) ⟨a0,a1⟩ ⟨b0,b1⟩ _ i.out.shapes).mono ?_;rintro e w2 ⟨V,k2,rfl,k,I,L,a⟩;have s:(0:Int)<k2:=dT.2 k;have l:=hid (i.out.kept a);obtain⟨M,N⟩:=cj a;have P:=rY a)
  | (go_at_call 273;refine(zdT (S.word x y) (S.word x2 b) ⟨a0,a1⟩ ⟨b0,b1⟩ _ l.out).mono ?_;rintro e W ⟨rfl,m⟩))
 go_ret2
 exact⟨D,bw (bw (stA (bw (rq (aR w) _) f) _) a) m⟩
theorem zf1(a:Int)(len:Nat):S.isOrder a len=Γ ↔ O.first (O.rOp a) (O.rD a) (O.rS a) (O.rN a)=a/\2*O.rLen a<=len:=by
 unfold S.isOrder;simp only[io,ll,cu]
theorem Ao(a:Int)(len:Nat)(b:Int)(h:O.first (O.rOp a) (O.rD a) (O.rS a) (O.rN a)=a)(h2:¬ (len:Int)<2*O.rLen a):S.lineOf a len b=(S.orderText (O.rk a) (S.rOrd a b),2*(O.rLen a).toNat):=by
 unfold S.lineOf;rw[am ((zf1 a len).2 ⟨h,by omega⟩)]
theorem yZ(a:Int)(len:Nat)(b:Int)(h:¬ (O.first (O.rOp a) (O.rD a) (O.rS a) (O.rN a)=a/\2*O.rLen a<=len)):S.lineOf a len b=(S.wordText a,2):=by
 unfold S.lineOf;rw[ae (λc=>h ((zf1 a len).1 c))]
theorem zpI(a:Int):((2*(O.rLen a).toNat:Nat):Int)=2*O.rLen a:=by rcases S.rLen_or a with h|h <;> rw[h] <;> rfl
theorem zjg(g o n b:Nat)(l:List UInt8)(c:l.length=n)(h2:2<=n)(s:n%2=0)(a:n<=b)(w:u)(i:g<w.heap.size)(hb:iJ w g o l)(j:AF w):Δ ω 233 #[κ (A ⟨g,o,G⟩) n b] w λe w'=>e=μ (Ψ #[Ω (aT ((S.firstLine l).1++[10])),J Q ((S.firstLine l).2:Nat)])/\Below w.heap.size w w':=by
 match l,c,hb with
 | x::y::r,c,hb =>
  have c0:=hb 0 x D;have c1:=hb 1 y D;have e:S.firstLine (x::y::r)=S.lineOf (S.word x y) n (S.second r):=by rw[<- c];rfl
  rw[e]
  match r,c,hb with
  | [],c,hb =>
   have p:n=2:=by simpa using c.symm
   subst p;by_cases d:O.first (O.rOp (S.word x y)) (O.rD (S.word x y)) (O.rS (S.word x y)) (O.rN (S.word x y))=S.word x y
   ·by_cases f:((2:Nat):Int)<2*O.rLen (S.word x y)
    ·rw[yZ _ _ _ (λh=>by omega)]
     exact zvE g o b x y a w i c0 c1 j d f
    ·rw[Ao _ _ _ d f]
     have:=zvF g o b x y a w i c0 c1 j d f;rw[<- zpI] at this;exact this
   ·rw[yZ _ _ _ (λh=>d h.1)]
    exact zvD g o b x y a w i c0 c1 j d
  | [z],c,hb=>simp at c;omega
  | x2::k::q,c,hb =>
   have c2:=hb 2 x2 D;have c3:=hb 3 k D;have m:(3:Int)<n:=by simp at c;omega
   have es:S.second (x2::k::q)=S.word x2 k:=D;rw[es];by_cases d:O.first (O.rOp (S.word x y)) (O.rD (S.word x y)) (O.rS (S.word x y)) (O.rN (S.word x y))=S.word x y
   ·by_cases f:(n:Int)<2*O.rLen (S.word x y)
    ·rcases S.rLen_or (S.word x y) with h|h <;> omega
    ·rw[Ao _ _ _ d f]
     have:=zvH g o n b x y x2 k m a w i c0 c1 c2 c3 j d f;rw[<- zpI] at this;exact this
   ·rw[yZ _ _ _ (λh=>d h.1)]
    exact zvG g o n b x y x2 k m a w i c0 c1 c2 c3 j d
 | [x],c,hb=>simp at c;omega
 | [],c,hb=>simp at c;omega
theorem zsD(a:Option cK)(n b:Nat)(c:(1024:Int)<n)(w:u):Δ ω 174 #[κ a n b] w λe w'=>e=μ (Ψ #[Ω (aT []),J Q 2])/\w'=w:=by
 go_enter func174,ntmps174;go_wp2
 go_ret2
 exact⟨D,D⟩
theorem zvI(a:Option cK)(n b:Nat)(d:¬ (1024:Int)<n)(c:(n:Int)%2=1)(w:u):Δ ω 174 #[κ a n b] w λe w'=>e=μ (Ψ #[Ω (aT []),J Q 4])/\w'=w:=by
 have h1:¬ (n:Int)%2=0:=by omega
 have h2:(n:Int).tmod 2=1:=by rw[ak (by omega)];exact c
 go_enter func174,ntmps174;go_wp2
 go_ret2
 exact⟨D,D⟩
theorem zpJ{T e:aJ}{B b:Nat}{bs:List π}{w w':u}(h:dt T e B b bs w)(hb:Below w.heap.size w w'):dt T e B b bs w':=by
 have key:∀ p,lZ T e B b p bs w->lZ T e B b p bs w':=λp hp=>by
  have c:=hp.lt;obtain⟨hB,v,f,a,d⟩:=hp;exact⟨hB,v,(hb.block b c).trans f,a.kept (rx hb) (rX v),d⟩
 rcases h with h|h
 ·exact aj (key _ h)
 ·exact ao (key _ h)
theorem zne(l:List UInt8):mG (aT l)=aV l:=by
 first|rfl|simp[mG,aV,aT]
theorem byteCells_append(a b:List UInt8):aV a++aV b=aV (a++b):=by
 first|rfl|simp[aV]
theorem zcS(a:List UInt8):(aV a).length=a.length:=by
 first|rfl|simp[aV]
theorem zf2(B b:Nat)(acc:List UInt8)(s:List UInt8)(w:u)(h:dt 173 5 B b (aV acc) w)(c:acc.length+s.length<=1000000)(hB:B<=w.heap.size):Δ ω 82 #[aB (A ⟨b,0,G⟩),Ω (aT s)] w λe w'=>e=μ (Ψ #[J Q (aT s).size,.nilIface])/\dt 173 5 B b (aV (acc++s)) w'/\Below B w w':=by
 refine(Any.Builder_WriteString (ρ := Tryz.lays156_ren) { Tryz.lays156 with } Tryz.Builder_Extra_156 B b (aV acc) (aT s) w h ?_ hB).mono λe w' ⟨a,h1,h2⟩=>⟨a,ao ?_,h2⟩
 ·rw[zcS,sU];omega
 ·rw[zne,byteCells_append] at h1
  exact h1
theorem zpK:∀ k,k<32->(K.row k).1.length<=4:=by decide +kernel
theorem zic(l:List UInt8):(S.firstLine l).1.length<=60:=by
 have hb:=S.second_bd l;unfold S.firstLine S.lineOf;split
 ·have a:=O.read_ok (S.second l) (S.second (l.drop 2)) hb (S.second_bd _)
  obtain⟨o1,o2,o3⟩:=(O.isOp_iff _).1 (O.rOp_isOp (S.second l) hb);have b:=zpK (O.rk (S.second l)) (by show (O.rOp _).toNat<32;omega);have c:=zdv (k:=O.rk (S.second l)) (o:=S.rOrd (S.second l) (S.second (l.drop 2))) a;show (S.orderText _ _).length<=60;unfold S.orderText;rw[az];split
  ·simp;omega
  ·rw[cy];omega
 ·have:=vK (S.second l) (by omega)
  show (S.wordText _).length<=60;unfold S.wordText;simp[S.plain];omega
theorem zdw(f:Nat)(rom:List UInt8)(h:rom≠[]):S.listN (f+1) rom=(S.firstLine rom).1++[10]++S.listN f (rom.drop (S.firstLine rom).2):=by
 simp[S.listN,h]
theorem zid:∀(f:Nat) (rom:List UInt8),rom.length<=f->∀ g,rom.length<=g->S.listN f rom=S.listN g rom
 | 0,rom,b,g,c=>by
  have:rom=[]:=bM.1 (by omega);subst this;cases g <;> simp[S.listN]
 | f+1,rom,b,g,c=>by
  by_cases a:rom=[]
  ·subst a;cases g <;> simp[S.listN]
  ·have d:rom.length≠0:=λh=>a (bM.1 h)
   obtain⟨g',rfl⟩:∃ g',g=g'+1:=⟨g-1,by omega⟩
   rw[zdw f rom a,zdw g' rom a];have e:=S.first_size rom;rw[zid f (rom.drop (S.firstLine rom).2) (by simp;omega) g' (by simp;omega)]
theorem zk3(rom:List UInt8)(h:rom≠[]):S.list rom=(S.firstLine rom).1++[10]++S.list (rom.drop (S.firstLine rom).2):=by
 have c:rom.length≠0:=λa=>h (bM.1 a)
 obtain⟨f,b⟩:∃ f,rom.length=f+1:=⟨rom.length-1,by omega⟩
 have d:=S.first_size rom;unfold S.list;rw[b,zdw f rom h,zid f (rom.drop (S.firstLine rom).2) (by simp;omega) _ (ψ _)]
theorem zie(B b:Nat)(l:List UInt8)(w:u)(h:dt 173 5 B b (aV l) w)(hB:B<=w.heap.size):Δ ω 85 #[aB (A ⟨b,0,G⟩)] w λe w'=>e=μ (Ω (aT l))/\Below B w w':=Tryz.Builder_String_any B b l w h hB
theorem zxS(a:Option cK)(b:Nat)(w:u):Δ ω 174 #[κ a 0 b] w λe w'=>e=μ (Ψ #[Ω (aT []),J Q 0])/\Below w.heap.size w w':=by
 go_enter func174,ntmps174;go_wp2
 go_loop [0] (λr=>r=κ a 0 b) (λ_=>0)
 case atStart=>rfl
 case round =>
  subst hrel;go_wp2_with (go_at_call 85;refine(zie w.heap.size w.heap.size [] _ (Lib.fresh_isBuilder _ _ w) (by simp)).mono ?_;rintro e w1 ⟨rfl,c⟩)
  go_ret2
  exact⟨D,(stA (aR _) _).trans c⟩
theorem zAj(g o n c:Nat)(l:List UInt8)(P:l.length=n)(h2:2<=n)(he:n%2=0)(hm:n<=1024)(I:n<=c)(w:u)(R:g<w.heap.size)(hb:iJ w g o l)(L:AF w):Δ ω 174 #[κ (A ⟨g,o,G⟩) n c] w λe w'=>e=μ (Ψ #[Ω (aT (S.list l)),J Q 0])/\Below w.heap.size w w':=by
 have T:=hid L;have U:=hid hb;have z:(n:Int)%2=0:=by omega
 have V:(n:Int).tmod 2=0:=by rw[ak (by omega)];exact z
 have W:¬ (1024:Int)<n:=by omega
 clear L hb;go_enter func174,ntmps174;go_wp2;go_loopw [0] (λr wr=>∃(q:Nat) (acc:List UInt8) (a:Option cK),q<=n/\q%2=0/\r=.slice a (n-q) (c-q)/\(q<n->a=A ⟨g,o+q,G⟩)/\dt 173 5 w.heap.size w.heap.size (aV acc) wr/\Below w.heap.size w wr/\acc++S.list (l.drop q)=S.list l/\acc.length<=64*q) (λr _=>match r with | κ _ k _=>k|_=>0)
 case atStart=>exact⟨0,[],_,by omega,D,D,λ_=>D,Lib.fresh_isBuilder _ _ w,stA (aR _) _,D,by simp⟩
 case round =>
  obtain⟨q,acc,a,hq,X,rfl,Z,hB,d,f,M⟩:=hrel;have i:=d.size;by_cases B:q<n
  ·obtain rfl:=Z B
   have N:(0:Int)<((n-q:Nat):Int):=by omega
   have m:(l.drop q).length=n-q:=by rw[cW,P]
   have E:l.drop q≠[]:=λh=>by rw[h] at m;simp at m;omega
   have y:=hid (zjg g (o+q) (n-q) (c-q) (l.drop q) m (by omega) (by omega) (by omega) wr (by omega) ((U.out.kept d R).drop q) (T.out.kept d));have hll:=zic (l.drop q);have j:=hid (zk3 (l.drop q) E);have v:=S.first_le (l.drop q) (by omega);rcases S.first_size (l.drop q) with F|F
   ·rw[F] at y j v
    have x:(2:Int)<=((n-q:Nat):Int):=by omega
    go_wp2_with (first
     | (go_at_call 233;refine y.out.mono ?_;rintro e w1 ⟨rfl,b⟩)
     | (go_at_call 82;refine(zf2 w.heap.size w.heap.size acc _ _ (zpJ hB b) (by simp;omega) (ax i b.size)).mono ?_;rintro e w2 ⟨rfl,p,s⟩))
    refine⟨⟨q+2,acc++((S.firstLine (l.drop q)).1++[10]),_,by omega,by omega,by rw[show n-q-2=n-(q+2) by omega,show c-q-2=c-(q+2) by omega],λh=>?_,p,(bw d b).trans s,?_,?_⟩,?_⟩
    ·rw[ae (by omega)];rfl
    ·rw[<- f,j.out,fJ];simp
    ·simp;omega
    ·simp only;omega
   ·rw[F] at y j v
    have x:(4:Int)<=((n-q:Nat):Int):=by omega
    go_wp2_with (first
     | (go_at_call 233;refine y.out.mono ?_;rintro e w1 ⟨rfl,b⟩)
     | (go_at_call 82;refine(zf2 w.heap.size w.heap.size acc _ _ (zpJ hB b) (by simp;omega) (ax i b.size)).mono ?_;rintro e w2 ⟨rfl,p,s⟩))
    refine⟨⟨q+4,acc++((S.firstLine (l.drop q)).1++[10]),_,by omega,by omega,by rw[show n-q-4=n-(q+4) by omega,show c-q-4=c-(q+4) by omega],λh=>?_,p,(bw d b).trans s,?_,?_⟩,?_⟩
    ·rw[ae (by omega)];rfl
    ·rw[<- f,j.out,fJ];simp
    ·simp;omega
    ·simp only;omega
  ·have H:q=n:=by omega
   subst H;have h0:q-q=0:=by omega
   rw[h0];have t:acc=S.list l:=by
    rw[<- f,mI (by omega)];simp[S.list,S.listN]
   subst t;go_wp2_with (go_at_call 85;refine(zie w.heap.size w.heap.size (S.list l) _ hB i).mono ?_;rintro e w1 ⟨rfl,b⟩)
   go_ret2
   exact⟨D,d.trans b⟩
def oG(l:List UInt8):List UInt8 × Int:=if 1024<l.length then ([],2) else if l.length%2=1 then ([],4) else (S.list l,0)
def jF(w:u)(v:π)(l:List UInt8):Prop:=(∃ a b,v=κ a 0 b/\l=[]) \/ ∃ g o b,v=κ (A ⟨g,o,G⟩) l.length b/\l.length<=b/\g<w.heap.size/\iJ w g o l
theorem zvJ(v:π)(l:List UInt8)(w:u)(h:jF w v l)(i:AF w):Δ ω 174 #[v] w λe w'=>e=μ (Ψ #[Ω (aT (oG l).1),J Q (oG l).2])/\Below w.heap.size w w':=by
 rcases h with⟨a,b,rfl,rfl⟩|⟨g,o,b,rfl,h2,h3,h4⟩
 ·exact zxS a b w
 ·unfold oG
  by_cases d:1024<l.length
  ·rw[am d]
   exact(zsD _ _ b (by omega) w).mono λe w' c=>⟨c.1,c.2 ▸ aR _⟩
  ·rw[ae d]
   by_cases f:l.length%2=1
   ·rw[am f]
    exact(zvI _ _ b (by omega) (by omega) w).mono λe w' c=>⟨c.1,c.2 ▸ aR _⟩
   ·rw[ae f]
    by_cases j:l.length=0
    ·have:l=[]:=bM.1 j
     subst this;exact zxS _ b w
    ·exact zAj g o l.length b l D (by omega) (by omega) (by omega) h2 w h3 h4 i
/-! ### the orders by their names -/
/-! ### the reader -/
def pl(l:List (S.By × Nat)):List (ByteArray × Int):=l.map (λp=>(aT p.1,(p.2:Int)))
section
variable {w w' : u} {B b mo mp : Nat} {ua ra : Option cK} {uc rc : Nat} {st : S.St} {ln : Nat}
end
theorem znp{W:u}{l:List (String × fF Unit)}(h:laidMet ω l W)(b:("internal/strconv.uint64pow10",Rows.laid_internal_strconv_uint64pow10)∈l):fm ω W "internal/strconv.uint64pow10" .u64 iZ:=by
 obtain⟨g,t,cs,fuel,p,c,d,e,a⟩:=Lib.laidMet.reads h b;have e2:(Tryz.prog.globals[6]?).map (·.type)=A 397:=by kernel_rfl
 obtain rfl:=aL (g_pow.symm.trans c);obtain rfl:=aL (e2.symm.trans d);have e3:(Rows.laid_internal_strconv_uint64pow10:fF Unit)=Lib.tabData .u64 iZ:=by kernel_rfl
 rw[e3] at a;unfold fm;rw[e,<- Lib.cells_of_tab underlying397 underlying350 (by kernel_rfl) (by kernel_rfl) a]
theorem sL{W:u}{l:List (String × fF Unit)}(h:laidMet ω l W)(a:W.ShapedOpen ω)(h1:("internal/strconv.uint64pow10",Rows.laid_internal_strconv_uint64pow10)∈l)(h2:("marquee/order.shapes",Rows.laid_marquee_order_shapes)∈l):AF W :=
 ⟨znp h h1,zfZ a,zdS h h2⟩
structure CkW (w : u) (u0 u1 u2 u3 u4 : Option cK) (n0 n1 n2 n3 n4 c0 c1 c2 c3 c4 : Nat) (x l a f k m q : Int) (g : Bool) (ι : u) : Prop where
 low:Below w.heap.size w ι
 z:w.heap.size<ι.heap.size
 r0:ι.cell? ⟨w.heap.size,30,G⟩=A (κ u0 n0 c0)
 r1:ι.cell? ⟨w.heap.size,31,G⟩=A (κ u1 n1 c1)
 r2:ι.cell? ⟨w.heap.size,32,G⟩=A (κ u2 n2 c2)
 r3:ι.cell? ⟨w.heap.size,33,G⟩=A (κ u3 n3 c3)
 r4:ι.cell? ⟨w.heap.size,34,G⟩=A (κ u4 n4 c4)
 s:ι.cell? ⟨w.heap.size,60,G⟩=A (J Q x)
 b0:ι.cell? ⟨w.heap.size,61,G⟩=A (J Q l)
 b1:ι.cell? ⟨w.heap.size,62,G⟩=A (J Q a)
 b2:ι.cell? ⟨w.heap.size,63,G⟩=A (ν g)
 b3:ι.cell? ⟨w.heap.size,64,G⟩=A (J Q f)
 k:ι.cell? ⟨w.heap.size,72,G⟩=A (J Q k)
 m:ι.cell? ⟨w.heap.size,73,G⟩=A (J Q m)
 q:ι.cell? ⟨w.heap.size,74,G⟩=A (J Q q)
theorem CkW.mk0(M:Mach)(S:Sl)(w:u)(t:aJ){u0 u1 u2 u3 u4:Option cK}{c0 c1 c2 c3 c4:Nat}(c:S.get 0=κ u0 M.mrom.length c0)(e1:S.get 1=κ u1 M.arom.length c1)(e2:S.get 2=κ u2 M.ram.length c2)(e3:S.get 3=κ u3 M.own.length c3)(e4:S.get 4=κ u4 M.video.length c4):CkW w u0 u1 u2 u3 u4 M.mrom.length M.arom.length M.ram.length M.own.length M.video.length c0 c1 c2 c3 c4 M.s.w M.b.l M.b.a M.b.f M.clock M.mready M.aready M.b.g (w.alloc (χ (υ M S).toArray t)):=by
 have h:=Bx.new w (υ M S) t (b:=w.heap.size) D;exact⟨stA (aR w) _,h.z,(h.at 30 (S.get 0) D).trans (by rw[c]),(h.at 31 (S.get 1) D).trans (by rw[e1]),(h.at 32 (S.get 2) D).trans (by rw[e2]),(h.at 33 (S.get 3) D).trans (by rw[e3]),(h.at 34 (S.get 4) D).trans (by rw[e4]),h.at 60 _ D,h.at 61 _ D,h.at 62 _ D,h.at 63 _ D,h.at 64 _ D,h.at 72 _ D,h.at 73 _ D,h.at 74 _ D⟩
theorem tP(M:Mach)(S:Sl)(w:u)(b:S.lens M):Δ ω 35 #[ac (υ M S).toArray] w λe w'=>e=μ (J Q M.chk)/\Below w.heap.size w w':=by
 obtain⟨u0,c0,d⟩:=b 0 (by omega);obtain⟨u1,c1,e1⟩:=b 1 (by omega);obtain⟨u2,c2,e2⟩:=b 2 (by omega);obtain⟨u3,c3,e3⟩:=b 3 (by omega);obtain⟨u4,c4,e4⟩:=b 4 (by omega);have f:=hid (CkW.mk0 M S w 41 d e1 e2 e3 e4);obtain⟨v,c⟩:∃ v,M.chk=v:=⟨_,D⟩
 rw[c];have h:=hid c;clear c d e1 e2 e3 e4 b;go_enter func35,ntmps35;go_upto_region 1 with fail
 refine Pl.cutW (CkW w u0 u1 u2 u3 u4 _ _ _ _ _ c0 c1 c2 c3 c4 _ _ _ _ _ _ _ _) f.out ?_;intro ι i;obtain⟨a,z,r0,r1,r2,r3,r4,s,b0,b1,b2,b3,j,k,l⟩:=i;have g:=hid a;clear a f;go_wp2;all_goals
  go_ret;refine⟨?_,by first|exact g.out|exact stA g.out _⟩;have c:=h.out;simp only[Mach.chk,pL,cu] at c;try simp only[mB,ne_eq,bne_eq_false_iff_eq] at *
  refine congrArg (λz=>Ending.returned (J Q z)) ?_;subst c
  repeat' split
  all_goals omega
section
variable {w : u} {L1 L2 : List π} {ι : u}
theorem zfd(M:Mach)(S:Sl)(v:π)(l:List Inp)(n:Int)(w:u)(z:cf w S M)(B:∀ j,j<5->(M.byt j).length<=9223372036854775807)(d:M.ok)(f:bP w.heap.size w v l)(E:-9223372036854775808<=n/\n<=9223372036854775807)(F:bS M l n≠0):Δ ω 9 #[ac (υ M S).toArray,v,J Q n] w λe w'=>e=μ (Ψ #[ac (υ aD aP).toArray,ac #[κ G 0 0,κ G 0 0,κ G 0 0],J Q (bS M l n)])/\Below w.heap.size w w':=by
 have g:=Bx.new w (υ M S) 41 (b:=w.heap.size) D;have h:Below w.heap.size w (((w.alloc (χ (υ M S).toArray 41)).alloc (χ (υ aD aP).toArray 41)).alloc (χ #[κ G 0 0,κ G 0 0,κ G 0 0] 47)):=stA (stA (stA (aR w) _) _) _;have p:Hid (RR w (υ aD aP) [κ G 0 0,κ G 0 0,κ G 0 0] (((w.alloc (χ (υ M S).toArray 41)).alloc (χ (υ aD aP).toArray 41)).alloc (χ #[κ G 0 0,κ G 0 0,κ G 0 0] 47))) :=
  ⟨h,(Bx.new (w.alloc (χ (υ M S).toArray 41)) (υ aD aP) 41 (b:=w.heap.size+1) (by simp)).over _,Bx.new ((w.alloc (χ (υ M S).toArray 41)).alloc (χ (υ aD aP).toArray 41)) [κ G 0 0,κ G 0 0,κ G 0 0] 47 (b:=w.heap.size+2) (by simp)⟩
 have q:=hid ((g.over (χ (υ aD aP).toArray 41)).over (χ #[κ G 0 0,κ G 0 0,κ G 0 0] 47));have L:=hid (z.kept h);have s:=hid ((f.kept h).mono h.size);have N:=hid B;have t:=hid d;have P:=hid E;obtain⟨r,i⟩:∃ r,r=bS M l n:=⟨_,D⟩
 have a:=zgu M S v l n _ L.out N.out t.out s.out P.out F;rw[<- i] at F a ⊢;have x:=hid a;clear z B f d E g h a i;go_enter func9,ntmps9;go_wp2_with (first
  | (refine wpList_load_mid D 41 _ D w.heap.size 0 D (υ M S) _ q.out.c underlying41 D cn ?_)
  | (go_at_call 31;refine x.out.mono ?_;rintro e w1 ⟨rfl,k⟩;have m:=hid (p.out.kept k);clear k)
  | (refine wpList_store_mid D 41 _ _ D (w.heap.size+1) 0 (υ aD aP).toArray D D (m.out.b1.there 0 75 (by rw[dG];omega)) cn (iq _ _ vS) ?_
     refine Pl.cutL (RR w (υ aD aP) [κ G 0 0,κ G 0 0,κ G 0 0]) m.out.zero1 ?_;intro Z H;have o:=hid H;clear H)
  | (refine wpList_store_mid D 47 _ _ D (w.heap.size+2) 0 #[κ G 0 0,κ G 0 0,κ G 0 0] D D (o.out.b2.there 0 3 (by simp)) kX (by simp[bi]) ?_
     refine Pl.cutL (RR w (υ aD aP) [κ G 0 0,κ G 0 0,κ G 0 0]) o.out.zero2 ?_;intro V I;have y:=hid I;clear I))
 refine Ξ (v:=Ψ #[ac (υ aD aP).toArray,ac #[κ G 0 0,κ G 0 0,κ G 0 0],J Q r]) ?_ D ⟨D,y.out.low⟩;have l1:=run_loadVar_mid V (w.heap.size+1) 0 41 _ _ y.out.b1.c underlying41 D cn;have l2:=run_loadVar_mid V (w.heap.size+2) 0 47 _ _ y.out.b2.c underlying47 D kX;simp only[results,results9];simp;show (aE (Sem.run ω (loadVar 41 ⟨w.heap.size+1,0,G⟩) V) _)=_;rw[l1];show (aE (Sem.run ω (loadVar 47 ⟨w.heap.size+2,0,G⟩) V) _)=_;rw[l2];rfl
end
end Go.Proofs.YthghjlinhokimaaGreatDoor
namespace Go.Proofs.YthghjlinhokimaaGreatDoor.C
section
variable {σ τ : Type} {m : Mem σ} {m' : Mem τ} {η : σ -> τ -> Prop}
structure Sim (m : Mem σ) (m' : Mem τ) (η : σ -> τ -> Prop) : Prop where
 rd:∀ s t a,η s t->(m.rd s a).1=(m'.rd t a).1/\η (m.rd s a).2 (m'.rd t a).2
 wr:∀ s t a b,η s t->η (m.wr s a b) (m'.wr t a b)
structure SQ (η : σ -> τ -> Prop) (x : St σ) (y : St τ) : Prop where
 c:x.c=y.c
 n:x.n=y.n
 s:η x.s y.s
theorem Sim.rdw(h:Sim m m' η){s:σ}{t:τ}(b:η s t)(a:Int):(m.rdw s a).1=(m'.rdw t a).1/\η (m.rdw s a).2 (m'.rdw t a).2:=by
 obtain⟨e1,q1⟩:=h.rd s t a b;obtain⟨e2,c⟩:=h.rd _ _ ((a+1)%65536) q1;exact⟨by show (m.rd s a).1*256+_=(m'.rd t a).1*256+_;rw[e1,e2],c⟩
theorem Sim.wrw(h:Sim m m' η){s:σ}{t:τ}(b:η s t)(a n:Int):η (m.wrw s a n) (m'.wrw t a n):=h.wr _ _ _ _ (h.wr _ _ _ _ b)
theorem Sim.push(h:Sim m m' η){c:Cpu}{s:σ}{t:τ}{k:Int}(a:η s t)(n:Int):SQ η (push m ⟨c,s,k⟩ n) (push m' ⟨c,t,k⟩ n):=⟨D,D,h.wrw a _ _⟩
theorem Sim.popV(h:Sim m m' η){c:Cpu}{s:σ}{t:τ}{k:Int}(a:η s t):popV m ⟨c,s,k⟩=popV m' ⟨c,t,k⟩:=(h.rdw a _).1
theorem Sim.pop(h:Sim m m' η){c:Cpu}{s:σ}{t:τ}{k:Int}(a:η s t):SQ η (pop m ⟨c,s,k⟩) (pop m' ⟨c,t,k⟩):=⟨D,D,(h.rdw a _).2⟩
theorem Sim.leave(h:Sim m m' η){x:St σ}{y:St τ}(d:SQ η x y)(a:Int):SQ η (leave m x a) (leave m' y a):=by
 obtain⟨c,s,k⟩:=x;obtain⟨e,t,k'⟩:=y;obtain⟨rfl,rfl,b⟩:=d;dsimp only at b;have h1:=h.push (c:=c) (k:=k) b c.PC;have h2:SQ η (C.push m (C.push m ⟨c,s,k⟩ c.PC) (sign (C.push m ⟨c,s,k⟩ c.PC).c)) (C.push m' (C.push m' ⟨c,t,k⟩ c.PC) (sign (C.push m' ⟨c,t,k⟩ c.PC).c)):=h.push (c:=(C.push m ⟨c,s,k⟩ c.PC).c) (k:=k) h1.s _;obtain⟨e1,q1⟩:=h.rdw h2.s a;refine⟨?_,D,q1⟩;unfold C.leave;dsimp only;rw[h2.c,e1]
theorem Sim.comeBack(h:Sim m m' η){x:St σ}{y:St τ}(b:SQ η x y):SQ η (comeBack m x) (comeBack m' y):=by
 obtain⟨c,s,k⟩:=x;obtain⟨d,t,k'⟩:=y;obtain⟨rfl,rfl,a⟩:=b;dsimp only at a;have e1:=h.popV (c:=c) (k:=k) a;have h1:=h.pop (c:=c) (k:=k) a;have e2:C.popV m (C.pop m ⟨c,s,k⟩)=C.popV m' (C.pop m' ⟨c,t,k⟩):=h.popV (c:=(C.pop m ⟨c,s,k⟩).c) (k:=k) h1.s;have h2:SQ η (C.pop m (C.pop m ⟨c,s,k⟩)) (C.pop m' (C.pop m' ⟨c,t,k⟩)):=h.pop (c:=(C.pop m ⟨c,s,k⟩).c) (k:=k) h1.s;refine⟨?_,D,h2.s⟩;unfold C.comeBack;dsimp only;rw[e1,e2,h2.c]
theorem Sim.act(h:Sim m m' η){x:St σ}{y:St τ}(g:SQ η x y)(k:Nat)(d s n w:Int):SQ η (act m x k d s n w) (act m' y k d s n w):=by
 have r:=h.leave g 4;have i:=h.comeBack g;obtain⟨c,θ,j⟩:=x;obtain⟨l,t,o⟩:=y;obtain⟨rfl,rfl,e⟩:=g;dsimp only at e;have u0:∀(l:Cpu) (o:Int),SQ η ⟨l,θ,o⟩ ⟨l,t,o⟩:=λ_ _=>⟨D,D,e⟩
 have r2:∀ a,SQ η ⟨c.set d (m.rdw θ a).1,(m.rdw θ a).2,j⟩ ⟨c.set d (m'.rdw t a).1,(m'.rdw t a).2,j⟩:=λa=>⟨by dsimp only;rw[(h.rdw e a).1],D,(h.rdw e a).2⟩
 have r1:∀ a,SQ η ⟨c.set d (m.rd θ a).1,(m.rd θ a).2,j⟩ ⟨c.set d (m'.rd t a).1,(m'.rd t a).2,j⟩:=λa=>⟨by dsimp only;rw[(h.rd θ t a e).1],D,(h.rd θ t a e).2⟩
 have w2:∀ a b,SQ η ⟨c,m.wrw θ a b,j⟩ ⟨c,m'.wrw t a b,j⟩:=λa b=>⟨D,D,h.wrw e a b⟩
 have w1:∀ a b,SQ η ⟨c,m.wr θ a b,j⟩ ⟨c,m'.wr t a b,j⟩:=λa b=>⟨D,D,h.wr _ _ a b e⟩
 have p:=λb=>h.push (c:=c) (k:=j) e b
 have f:=h.pop (c:=c) (k:=j) e;have q:=h.popV (c:=c) (k:=j) e
 match k with
 | 0=>exact u0 _ _
 | 1=>exact u0 _ _
 | 2=>exact u0 _ _
 | 3=>exact r2 _
 | 4=>exact w2 _ _
 | 5=>exact r1 _
 | 6=>exact w1 _ _
 | 7=>exact u0 _ _
 | 8=>exact u0 _ _
 | 9=>exact u0 _ _
 | 10=>exact u0 _ _
 | 11=>exact u0 _ _
 | 12=>exact u0 _ _
 | 13=>exact u0 _ _
 | 14=>exact u0 _ _
 | 15=>exact u0 _ _
 | 16=>exact u0 _ _
 | 17=>show SQ η (if c.Z then _ else _) (if c.Z then _ else _);split <;> exact u0 _ _
 | 18=>show SQ η (if c.N then _ else _) (if c.N then _ else _);split <;> exact u0 _ _
 | 19=>show SQ η (if c.C then _ else _) (if c.C then _ else _);split <;> exact u0 _ _
 | 20=>exact⟨D,D,(p _).s⟩
 | 21=>exact⟨by show ({ (C.pop m ⟨c,θ,j⟩).c with PC:=C.popV m ⟨c,θ,j⟩ }:Cpu)={ (C.pop m' ⟨c,t,j⟩).c with PC:=C.popV m' ⟨c,t,j⟩ };rw[q,f.c],D,f.s⟩
 | 22=>exact p _
 | 23=>exact⟨by show (C.pop m ⟨c,θ,j⟩).c.set d (C.popV m ⟨c,θ,j⟩)=(C.pop m' ⟨c,t,j⟩).c.set d (C.popV m' ⟨c,t,j⟩);rw[q,f.c],D,f.s⟩
 | 24=>exact u0 _ _
 | 25=>exact u0 _ _
 | 26=>exact i
 | 27=>exact u0 _ _
 | 28=>exact u0 _ _
 | 29=>show SQ η (if c.Z then _ else _) (if c.Z then _ else _);split <;> exact u0 _ _
 | 30=>exact u0 _ _
 | 31=>exact r
 | k+32=>exact u0 _ _
theorem Sim.order(h:Sim m m' η)(c:Cpu){s:σ}{t:τ}(a:η s t):SQ η (order m c s) (order m' c t):=by
 obtain⟨e1,q1⟩:=h.rdw a c.PC;obtain⟨e2,b⟩:=h.rdw q1 ((c.PC+2)%65536);have h1:C.word1 m c s=C.word1 m' c t:=e1;have h2:C.word2 m c s=C.word2 m' c t:=by unfold C.word2;rw[h1,e2]
 have h3:SQ η (C.behind m c s) (C.behind m' c t):=by
  unfold C.behind;rw[h1];refine⟨D,D,?_⟩;dsimp only;split
  ·exact b
  ·exact q1
 unfold C.order;rw[h1,h2];exact h.act (x:={ C.behind m c s with n:=K.cyc (O.rk (C.word1 m' c t)) }) (y:={ C.behind m' c t with n:=K.cyc (O.rk (C.word1 m' c t)) }) ⟨h3.c,D,h3.s⟩ _ _ _ _ _
theorem Sim.step(h:Sim m m' η)(c:Cpu){s:σ}{t:τ}(a:η s t)(r:Bool):SQ η (step m c s r) (step m' c t r):=by
 unfold C.step;split
 ·have:=h.leave (x:=⟨c,s,0⟩) (y:=⟨c,t,0⟩) ⟨D,D,a⟩ 2
  exact⟨this.c,D,this.s⟩
 ·split
  ·exact⟨D,D,a⟩
  ·exact h.order c a
end
end Go.Proofs.YthghjlinhokimaaGreatDoor.C
namespace Go.Proofs.YthghjlinhokimaaGreatDoor
open Go.ChangeShapes Go.WideShapes Go.ChangeAt Go.RowKit Go.Proofs.Tryz
structure Bst.like (p : List Wt) (s t : Bst) : Prop where
 M:s.M=t.M
 l:s.l=p++t.l
theorem zkb(p:List Wt):C.Sim bT bT (Bst.like p) where
 rd s t a h:=⟨by show (s.M.rdM a).1%256=(t.M.rdM a).1%256;rw[h.M],⟨by show (s.M.rdM a).2=(t.M.rdM a).2;rw[h.M],h.l⟩⟩
 wr s t a b h:=⟨by show s.M.wrM a (b%256)=t.M.wrM a (b%256);rw[h.M],h.l⟩
theorem zzD(p:List Wt):C.Sim cL cL (Bst.like p) where
 rd s t a h:=⟨by show (s.M.rdA a).1%256=(t.M.rdA a).1%256;rw[h.M],⟨by show (s.M.rdA a).2=(t.M.rdA a).2;rw[h.M],h.l⟩⟩
 wr s t a b h:=⟨by show s.M.wrA a (b%256)=t.M.wrA a (b%256);rw[h.M],by show s.l++s.M.shA a (b%256)=p++(t.l++t.M.shA a (b%256));rw[h.M,h.l,bK]⟩
structure Bst.like2 (p : List Wt) (s t : Bst) : Prop extends Bst.like p s t where
 n:s.n=t.n
theorem zuG(p:List Wt):C.Sim bT bT (Bst.like2 p) where
 rd s t a h:=⟨((zkb p).rd s t a h.tolike).1,⟨((zkb p).rd s t a h.tolike).2,h.n⟩⟩
 wr s t a b h:=⟨(zkb p).wr s t a b h.tolike,by show s.n+_=t.n+_;rw[h.n]⟩
theorem zkc{p:List Wt}{s t:Bst}(h:Bst.like p s t):Bst.like p s.stepMain t.stepMain:=by
 unfold Bst.stepMain;rw[h.M];split
 ·exact h
 ·have a:=(zuG p).step t.M.main (s:=⟨t.M,0,s.l⟩) (t:=⟨t.M,0,t.l⟩) ⟨⟨D,h.l⟩,D⟩ (t.M.t.g || t.M.b.g)
  refine⟨?_,a.s.l⟩;dsimp only;rw[a.c,a.n,a.s.M,a.s.n]
theorem zlQ{p:List Wt}{s t:Bst}(h:Bst.like p s t):Bst.like p s.stepAux t.stepAux:=by
 unfold Bst.stepAux;rw[h.M];split
 ·exact h
 ·have a:=(zzD p).step t.M.aux (s:=s) (t:=t) h t.M.rung
  refine⟨?_,a.s.l⟩;dsimp only;rw[a.c,a.n,a.s.M]
structure Cs.like (p : List Wt) (pl : List Lin) (ps : List UInt8) (k k' : Cs) : Prop where
 s:Bst.like p k.s k'.s
 co:k.co=k'.co
 ln:k.ln=pl++k'.ln
 sm:k.sm=ps++k'.sm
theorem ziG{p:List Wt}{pl:List Lin}{ps:List UInt8}{k k':Cs}(h:Cs.like p pl ps k k'):Cs.like p pl ps k.clock k'.clock:=by
 have a:=h.s.M;have hc:=h.co;have h1:Bst.like p ⟨k.s.M.pressed k.co,k.s.n,k.s.l⟩ ⟨k'.s.M.pressed k'.co,k'.s.n,k'.s.l⟩:=⟨by dsimp only;rw[a,hc],h.s.l⟩
 have h2:=zlQ (zkc h1);refine⟨⟨?_,h2.l⟩,?_,?_,?_⟩
 ·show Mach.goOn (Bst.stepAux _).M=Mach.goOn (Bst.stepAux _).M
  rw[h2.M]
 ·show k.s.M.coming k.co=k'.s.M.coming k'.co
  rw[a,hc]
 ·show k.ln++(k.s.M.pressed k.co).line=pl++(k'.ln++(k'.s.M.pressed k'.co).line)
  rw[h.ln,a,hc,bK]
 ·show k.sm++(k.s.M.pressed k.co).sample=ps++(k'.sm++(k'.s.M.pressed k'.co).sample)
  rw[h.sm,a,hc,bK]
theorem zd6{p:List Wt}{pl:List Lin}{ps:List UInt8}{k k':Cs}(h:Cs.like p pl ps k k'):∀ j:Nat,Cs.like p pl ps (k.clocks j) (k'.clocks j)
 | 0=>h
 | j+1=>ziG (zd6 h j)
theorem zfe(k:Cs)(a:Nat):∀ b:Nat,k.clocks (a+b)=(k.clocks a).clocks b
 | 0=>rfl
 | b+1=>by show (k.clocks (a+b)).clock=_;rw[zfe k a b];rfl
/-! ### what is still to be pressed -/
def sn(l:List Inp):Prop:=l.Pairwise (λx y=>x.c<=y.c)
theorem zeO:∀(l:List Inp) (M:Mach),sn l->M.coming l=l.filter (λx=>decide (M.clock<x.c))
 | [],M,_=>rfl
 | x::l,M,h=>by
  have a:=fC.1 h;unfold Mach.coming;split
  ·rename_i b
   rw[zeO l M a.2,mj (by simp;omega)]
  ·rename_i b
   rw[qP (by simp;omega),kL.2 (λy d=>by have:=a.1 y d;simp;omega)]
theorem zcz(k0:Cs)(l:List Inp)(b:k0.co=l)(hp:sn l)(a:∀ x∈l,k0.s.M.clock<=x.c):∀ j:Nat,(k0.clocks j).s.M.clock=k0.s.M.clock+j/\(k0.clocks j).co=l.filter (λx=>decide (k0.s.M.clock+j<=x.c))
 | 0=>⟨by simp[Cs.clocks],by
  show k0.co=_;rw[b,kL.2 (λy d=>by have:=a y d;simp;omega)]⟩
 | j+1=>by
  obtain⟨e1,e2⟩:=zcz k0 l b hp a j;have e3:(k0.clocks (j+1)).co=(k0.clocks j).s.M.coming (k0.clocks j).co:=rfl;refine⟨?_,?_⟩
  ·show (k0.clocks j).now.s.M.clock+1=_
   rw[sZ,e1];push_cast;omega
  ·rw[e3,e2,zeO _ _ (nG _ hp),List.filter_filter,e1]
   refine List.filter_congr (λx e=>?_);rw[<- mR];exact dW.2 (by push_cast;omega)
theorem zuH(M:Mach)(l:List Inp)(hp:sn l)(e:∀ x∈l,M.clock<=x.c)(a b:Nat):Cs.like (Cs.clocks ⟨⟨M,0,[]⟩,l,[],[]⟩ a).s.l (Cs.clocks ⟨⟨M,0,[]⟩,l,[],[]⟩ a).ln (Cs.clocks ⟨⟨M,0,[]⟩,l,[],[]⟩ a).sm (Cs.clocks ⟨⟨M,0,[]⟩,l,[],[]⟩ (a+b))
  (Cs.clocks ⟨⟨(Cs.clocks ⟨⟨M,0,[]⟩,l,[],[]⟩ a).s.M,0,[]⟩,l.filter (λx=>decide (M.clock+a<=x.c)),[],[]⟩ b):=by
 rw[zfe];have d:=(zcz ⟨⟨M,0,[]⟩,l,[],[]⟩ l D hp e a).2;generalize Cs.clocks ⟨⟨M,0,[]⟩,l,[],[]⟩ a=k at d ⊢;exact zd6 (p:=k.s.l) (pl:=k.ln) (ps:=k.sm) (k:=k) (k':=⟨⟨k.s.M,0,[]⟩,l.filter (λx=>decide (M.clock+a<=x.c)),[],[]⟩) ⟨⟨D,by simp⟩,d,by simp,by simp⟩ b
theorem sF{H:Type}{enc:aJ × π->H}{P:bX}{w:u}{base:Nat}{spare:Nat->Bool}{held:Bool}{n i o:Nat}{ty:aJ}{cs:List π}{xs:List (fF H × List dZ)}
 (h:dh enc P w base spare held n ty ((cs.drop o).take (P.cellsOf ty))=xs[i]?) (hi:i<xs.length) (hc:P.cellsOf ty=1) (b:P.underlying ty=A .bool) {v:π} (c:cs[o]?=A v):∃ a:Bool,v=.bool a:=by
 obtain⟨y,d⟩:=fld h hi hc c;obtain⟨a,e,_⟩:=DataW.trod_bool b d;simp only[eF,and_true] at e;exact⟨a,e⟩
theorem zff{H:Type}{enc:aJ × π->H}{w:u}{base:Nat}{spare:Nat->Bool}{held:Bool}{m:Nat}{c0 c1 c2 c3 c4:π}{x:fF H × List dZ}(h:dh enc ω w base spare held m 33 [c0,c1,c2,c3,c4]=A x):∃ v:Vc,[c0,c1,c2,c3,c4]=sV v/\v.ok:=by
 have c:Tryz.prog.cellsOf 22=1:=by kernel_rfl
 have hB:Tryz.prog.cellsOf 4=1:=by kernel_rfl
 have d:Tryz.prog.cellsOf 5=1:=by kernel_rfl
 obtain⟨xs,n,_,_,_,b,a⟩:=eh underlying33 h;have e:xs.length=5:=b;obtain⟨a0,rfl,w0⟩:=oo (ty:=22) (o:=0) (v:=c0) (a 0 _ D) (by omega) c underlying22 D;obtain⟨a1,rfl,w1⟩:=oo (ty:=22) (o:=1) (v:=c1) (a 1 _ D) (by omega) c underlying22 D;obtain⟨a2,rfl,w2⟩:=oo (ty:=5) (o:=2) (v:=c2) (a 2 _ D) (by omega) d underlying5 D;obtain⟨b3,rfl⟩:=sF (ty:=4) (o:=3) (v:=c3) (a 3 _ D) (by omega) hB underlying4 D;obtain⟨a4,rfl,w4⟩:=oo (ty:=22) (o:=4) (v:=c4) (a 4 _ D) (by omega) c underlying22 D;exact⟨⟨a0,a1,a2,b3,a4⟩,D,ee w0,ee w1,kV w2,ee w4⟩
section
variable (main aux : C.Cpu) (arom ram own video : List UInt8) (p0 p1 : Pd) (t : TM) (s : Sd) (b : Bem) (fr tt : Int) (granted held : Bool) (m0 m1 : Int) (rung : Bool) (clock mready aready : Int) (l : List Wt)
end
theorem zqh{σ:Type}{m:C.Mem σ}(c:C.Cpu)(s:σ)(r:Bool)(h1:c.Waits=ξ)(h2:c.May=ξ):C.step m c s r=C.order m c s:=by
 unfold C.step;rw[h2,nD,ae (by simp),h1,ae (by simp)]
theorem CG{s:List π}(h:s.length=2):∃ c0 c1,s=[c0,c1]:=by
 match s,h with
 | [c0,c1],_=>exact⟨c0,c1,D⟩
theorem xU{s:List π}(h:s.length=4):∃ c0 c1 c2 c3,s=[c0,c1,c2,c3]:=by
 match s,h with
 | [c0,c1,c2,c3],_=>exact⟨c0,c1,c2,c3,D⟩
theorem CH{s:List π}(h:s.length=6):∃ c0 c1 c2 c3 c4 c5,s=[c0,c1,c2,c3,c4,c5]:=by
 match s,h with
 | [c0,c1,c2,c3,c4,c5],_=>exact⟨c0,c1,c2,c3,c4,c5,D⟩
theorem yT{s:List π}(h:s.length=15):∃ c0 c1 c2 c3 c4 c5 f g i c9 a b c d e,s=[c0,c1,c2,c3,c4,c5,f,g,i,c9,a,b,c,d,e]:=by
 match s,h with
 | [c0,c1,c2,c3,c4,c5,f,g,i,c9,a,b,c,d,e],_=>exact⟨c0,c1,c2,c3,c4,c5,f,g,i,c9,a,b,c,d,e,D⟩
theorem yU{s:List π}(h:s.length=16):∃ c0 c1 c2 c3 c4 c5 g i j c9 a b c d e f,s=[c0,c1,c2,c3,c4,c5,g,i,j,c9,a,b,c,d,e,f]:=by
 match s,h with
 | [c0,c1,c2,c3,c4,c5,g,i,j,c9,a,b,c,d,e,f],_=>exact⟨c0,c1,c2,c3,c4,c5,g,i,j,c9,a,b,c,d,e,f,D⟩
section
variable {H : Type} {enc : aJ × π -> H} {w : u} {base : Nat} {spare : Nat -> Bool} {held : Bool} {n : Nat} {x : fF H × List dZ} {s : List π}
theorem zuI(h:dh enc ω w base spare held n 25 s=A x)(E:s.length=15):∃ c:C.Cpu,s=bY c/\c.ok:=by
 have a:Tryz.prog.cellsOf 22=1:=by kernel_rfl
 have hB:Tryz.prog.cellsOf 4=1:=by kernel_rfl
 have T:Tryz.prog.cellsOf 5=1:=by kernel_rfl
 have U:Tryz.prog.cellsOf 3=1:=by kernel_rfl
 have e:Tryz.prog.cellsOf 23=8:=by kernel_rfl
 obtain⟨c0,c1,c2,c3,c4,c5,r,t,y,c9,f,g,i,j,l,rfl⟩:=yT E;obtain⟨xs,m,_,_,_,p,b⟩:=eh underlying25 h;have F:xs.length=8:=p;have g0:dh enc ω w base spare held m 23 (([c0,c1,c2,c3,c4,c5,r,t,y,c9,f,g,i,j,l].drop 0).take (Tryz.prog.cellsOf 23))=xs[0]?:=b 0 _ D;rw[aq (by omega)] at g0;obtain⟨ys,k,_,_,_,H,d⟩:=ki underlying23 g0;obtain⟨a0,rfl,w0⟩:=oo (o:=0*Tryz.prog.cellsOf 22) (v:=c0) (d 0 (by omega)) (by omega) a underlying22 (by rw[a,e];rfl);obtain⟨a1,rfl,w1⟩:=oo (o:=1*Tryz.prog.cellsOf 22) (v:=c1) (d 1 (by omega)) (by omega) a underlying22 (by rw[a,e];rfl);obtain⟨a2,rfl,w2⟩:=oo (o:=2*Tryz.prog.cellsOf 22) (v:=c2) (d 2 (by omega)) (by omega) a underlying22 (by rw[a,e];rfl);obtain⟨a3,rfl,I⟩:=oo (o:=3*Tryz.prog.cellsOf 22) (v:=c3) (d 3 (by omega)) (by omega) a underlying22 (by rw[a,e];rfl);obtain⟨a4,rfl,w4⟩:=oo (o:=4*Tryz.prog.cellsOf 22) (v:=c4) (d 4 (by omega)) (by omega) a underlying22 (by rw[a,e];rfl)
 obtain⟨a5,rfl,L⟩:=oo (o:=5*Tryz.prog.cellsOf 22) (v:=c5) (d 5 (by omega)) (by omega) a underlying22 (by rw[a,e];rfl);obtain⟨M,rfl,N⟩:=oo (o:=6*Tryz.prog.cellsOf 22) (v:=r) (d 6 (by omega)) (by omega) a underlying22 (by rw[a,e];rfl);obtain⟨P,rfl,w7⟩:=oo (o:=7*Tryz.prog.cellsOf 22) (v:=t) (d 7 (by omega)) (by omega) a underlying22 (by rw[a,e];rfl);obtain⟨R,rfl,q⟩:=oo (ty:=22) (o:=8) (v:=y) (b 1 _ D) (by omega) a underlying22 D;obtain⟨b0,rfl⟩:=sF (ty:=4) (o:=9) (v:=c9) (b 2 _ D) (by omega) hB underlying4 D;obtain⟨b1,rfl⟩:=sF (ty:=4) (o:=10) (v:=f) (b 3 _ D) (by omega) hB underlying4 D;obtain⟨b2,rfl⟩:=sF (ty:=4) (o:=11) (v:=g) (b 4 _ D) (by omega) hB underlying4 D;obtain⟨b3,rfl⟩:=sF (ty:=4) (o:=12) (v:=i) (b 5 _ D) (by omega) hB underlying4 D;obtain⟨b4,rfl⟩:=sF (ty:=4) (o:=13) (v:=j) (b 6 _ D) (by omega) hB underlying4 D;obtain⟨b5,rfl⟩:=sF (ty:=4) (o:=14) (v:=l) (b 7 _ D) (by omega) hB underlying4 D
 refine⟨⟨[a0,a1,a2,a3,a4,a5,M,P],R,b0,b1,b2,b3,b4,b5⟩,D,D,λz B=>?_,(ee q).1,(ee q).2⟩;simp only[bp,cz,gC] at B;rcases B with rfl|rfl|rfl|rfl|rfl|rfl|rfl|rfl
 ·exact ee w0
 ·exact ee w1
 ·exact ee w2
 ·exact ee I
 ·exact ee w4
 ·exact ee L
 ·exact ee N
 ·exact ee w7
theorem zuJ(h:dh enc ω w base spare held n 28 s=A x)(g:s.length=3):∃ p:Pd,s=[.int au p.d,.bool p.l,.int au p.s]/\p.ok:=by
 have i:Tryz.prog.cellsOf 22=1:=by kernel_rfl
 have hB:Tryz.prog.cellsOf 4=1:=by kernel_rfl
 have f:Tryz.prog.cellsOf 5=1:=by kernel_rfl
 have j:Tryz.prog.cellsOf 3=1:=by kernel_rfl
 obtain⟨c0,c1,c2,rfl⟩:=xT g;obtain⟨xs,m,_,_,_,b,a⟩:=eh underlying28 h;have k:xs.length=3:=b;obtain⟨a0,rfl,c⟩:=oo (ty:=5) (o:=0) (v:=c0) (a 0 _ D) (by omega) f underlying5 D;obtain⟨b1,rfl⟩:=sF (ty:=4) (o:=1) (v:=c1) (a 1 _ D) (by omega) hB underlying4 D;obtain⟨a2,rfl,e⟩:=oo (ty:=5) (o:=2) (v:=c2) (a 2 _ D) (by omega) f underlying5 D;exact⟨⟨a0,b1,a2⟩,D,kV c,kV e⟩
theorem zxc(h:dh enc ω w base spare held n 29 s=A x)(e:s.length=6):∃ p q:Pd,s=[.int au p.d,.bool p.l,.int au p.s,.int au q.d,.bool q.l,.int au q.s]/\p.ok/\q.ok:=by
 have f:Tryz.prog.cellsOf 28=3:=by kernel_rfl
 obtain⟨c0,c1,c2,c3,c4,c5,rfl⟩:=CH e;obtain⟨ys,m,_,_,_,g,a⟩:=ki underlying29 h;have b:=a 0 (by omega);have c:=a 1 (by omega);rw[f,aq (by omega)] at b c;obtain⟨p,ep,hp⟩:=zuJ (s:=[c0,c1,c2]) b D;obtain⟨q,eq,i⟩:=zuJ (s:=[c3,c4,c5]) c D;simp only[eF,and_true] at ep eq;obtain⟨rfl,rfl,rfl⟩:=ep;obtain⟨rfl,rfl,rfl⟩:=eq;exact⟨p,q,D,hp,i⟩
theorem zuK(h:dh enc ω w base spare held n 31 s=A x)(i:s.length=4):∃ t:TM,s=[.int Y t.r,.int Y t.c,.bool t.on,.bool t.g]/\je t.r/\je t.c:=by
 have f:Tryz.prog.cellsOf 22=1:=by kernel_rfl
 have hB:Tryz.prog.cellsOf 4=1:=by kernel_rfl
 have j:Tryz.prog.cellsOf 5=1:=by kernel_rfl
 have k:Tryz.prog.cellsOf 3=1:=by kernel_rfl
 obtain⟨c0,c1,c2,c3,rfl⟩:=xU i;obtain⟨xs,m,_,_,_,b,a⟩:=eh underlying31 h;have l:xs.length=4:=b;obtain⟨a0,rfl,d⟩:=oo (ty:=22) (o:=0) (v:=c0) (a 0 _ D) (by omega) f underlying22 D;obtain⟨a1,rfl,e⟩:=oo (ty:=22) (o:=1) (v:=c1) (a 1 _ D) (by omega) f underlying22 D;obtain⟨b2,rfl⟩:=sF (ty:=4) (o:=2) (v:=c2) (a 2 _ D) (by omega) hB underlying4 D;obtain⟨b3,rfl⟩:=sF (ty:=4) (o:=3) (v:=c3) (a 3 _ D) (by omega) hB underlying4 D;exact⟨⟨a0,a1,b2,b3⟩,D,ee d,ee e⟩
theorem zxd(h:dh enc ω w base spare held n 38 s=A x)(i:s.length=4):∃ b:Bem,s=[.int Q b.l,.int Q b.a,.bool b.g,.int Q b.f]:=by
 have q:Tryz.prog.cellsOf 22=1:=by kernel_rfl
 have hB:Tryz.prog.cellsOf 4=1:=by kernel_rfl
 have r:Tryz.prog.cellsOf 5=1:=by kernel_rfl
 have e:Tryz.prog.cellsOf 3=1:=by kernel_rfl
 obtain⟨c0,c1,c2,c3,rfl⟩:=xU i;obtain⟨xs,m,_,_,_,d,c⟩:=eh underlying38 h;have t:xs.length=4:=d;obtain⟨a0,rfl,j⟩:=oo (ty:=3) (o:=0) (v:=c0) (c 0 _ D) (by omega) e underlying3 D;obtain⟨a1,rfl,k⟩:=oo (ty:=3) (o:=1) (v:=c1) (c 1 _ D) (by omega) e underlying3 D;obtain⟨b2,rfl⟩:=sF (ty:=4) (o:=2) (v:=c2) (c 2 _ D) (by omega) hB underlying4 D;obtain⟨a3,rfl,p⟩:=oo (ty:=3) (o:=3) (v:=c3) (c 3 _ D) (by omega) e underlying3 D;exact⟨⟨a0,a1,b2,a3⟩,D⟩
theorem zxe(h:dh enc ω w base spare held n 39 s=A x)(e:s.length=2):∃ a b:Int,s=[.int au a,.int au b]/\bd8 a/\bd8 b:=by
 have g:Tryz.prog.cellsOf 22=1:=by kernel_rfl
 have hB:Tryz.prog.cellsOf 4=1:=by kernel_rfl
 have d:Tryz.prog.cellsOf 5=1:=by kernel_rfl
 have i:Tryz.prog.cellsOf 3=1:=by kernel_rfl
 obtain⟨c0,c1,rfl⟩:=CG e;obtain⟨ys,k,_,_,_,f,c⟩:=ki underlying39 h;obtain⟨a0,rfl,w0⟩:=oo (o:=0*Tryz.prog.cellsOf 5) (v:=c0) (c 0 (by omega)) (by omega) d underlying5 (by rw[d];rfl);obtain⟨a1,rfl,w1⟩:=oo (o:=1*Tryz.prog.cellsOf 5) (v:=c1) (c 1 (by omega)) (by omega) d underlying5 (by rw[d];rfl);exact⟨a0,a1,D,kV w0,kV w1⟩
theorem zuL(h:dh enc ω w base spare held n 36 s=A x)(H:s.length=16):∃ d:Sd,s=dq d/\d.ok:=by
 have X:Tryz.prog.cellsOf 22=1:=by kernel_rfl
 have hB:Tryz.prog.cellsOf 4=1:=by kernel_rfl
 have Z:Tryz.prog.cellsOf 5=1:=by kernel_rfl
 have I:Tryz.prog.cellsOf 3=1:=by kernel_rfl
 have L:Tryz.prog.cellsOf 33=5:=by kernel_rfl
 have M:Tryz.prog.cellsOf 34=15:=by kernel_rfl
 obtain⟨c0,c1,c2,c3,c4,c5,q,r,t,c9,b,c,e,f,g,i,rfl⟩:=yU H;obtain⟨xs,k,_,_,_,j,l⟩:=eh underlying36 h;have N:xs.length=2:=j;have g0:dh enc ω w base spare held k 34 (([c0,c1,c2,c3,c4,c5,q,r,t,c9,b,c,e,f,g,i].drop 0).take (Tryz.prog.cellsOf 34))=xs[0]?:=l 0 _ D;rw[aq (by omega),M] at g0;obtain⟨ys,m,_,_,_,P,a⟩:=ki zd0 g0;have y:=a 0 (by omega);have z:=a 1 (by omega);have B:=a 2 (by omega);rw[L,aq (by omega)] at y z B;obtain⟨R,E,T⟩:=zff (c0:=c0) (c1:=c1) (c2:=c2) (c3:=c3) (c4:=c4) y;obtain⟨U,eb,hb⟩:=zff (c0:=c5) (c1:=q) (c2:=r) (c3:=t) (c4:=c9) z;obtain⟨V,F,hc⟩:=zff (c0:=b) (c1:=c) (c2:=e) (c3:=f) (c4:=g) B;obtain⟨p,rfl,W⟩:=oo (ty:=3) (o:=15) (v:=i) (l 1 _ D) (by omega) I underlying3 D;simp only[eF,and_true] at E eb F;obtain⟨rfl,rfl,rfl,rfl,rfl⟩:=E;obtain⟨rfl,rfl,rfl,rfl,rfl⟩:=eb;obtain⟨rfl,rfl,rfl,rfl,rfl⟩:=F;exact⟨⟨R,U,V,p⟩,D,⟨T,hb,hc⟩⟩
end
theorem tQ{H:Type}{enc:aJ × π->H}{P:bX}{w:u}{base:Nat}{spare:Nat->Bool}{held:Bool}{n i o k:Nat}{ty:aJ}{cs:List π}{xs:List (fF H × List dZ)}
 (h:dh enc P w base spare held n ty ((cs.drop o).take (P.cellsOf ty))=xs[i]?) (hi:i<xs.length:=by omega) (hc:P.cellsOf ty=k:=by kernel_rfl):∃ y,dh enc P w base spare held n ty ((cs.drop o).take k)=A y:=by
 rw[hc,aq hi] at h;exact⟨_,h⟩
theorem qQ{l R:List π}{n k m:Nat}(a:n+k=m)(h:l.drop m=R):l.drop n=(l.drop n).take k++R:=by
 subst a;rw[<- h,<- fJ];exact(mY k _).symm
theorem zuM{l:List π}{n k:Nat}(h:l.length<=n+k):l.drop n=(l.drop n).take k:=(dY (by rw[cW];omega)).symm
theorem s7{cs:List π}(o:Nat)(h:o<cs.length:=by omega):∃ v,cs[o]?=A v/\(cs.drop o).take 1=[v]:=⟨cs[o],aq h,by rw[og,mV,aq h];rfl⟩
theorem zeP{H:Type}{enc:aJ × π->H}{W:u}{base:Nat}{v:π}{d:fF H}{p:List dZ}(hv:Value.okWide ω W .any base 41 v)(h:DataW.Trod enc ω W 0 (λ_=>Γ) Γ 41 v d p):∃(M:Mach) (S:Sl),v=ac (υ M S).toArray/\M.ok/\cf W S M /\ ∀ j,j<5->(M.byt j).length<=dI:=by
 have hU:Tryz.prog.cellsOf 22=1:=by kernel_rfl
 have hB:Tryz.prog.cellsOf 4=1:=by kernel_rfl
 have hE:Tryz.prog.cellsOf 5=1:=by kernel_rfl
 have e:Tryz.prog.cellsOf 3=1:=by kernel_rfl
 have hM:Tryz.prog.cellsOf 41=75:=by kernel_rfl
 obtain⟨cs,rfl,f⟩:=okWide_struct underlying41 hv;obtain⟨l⟩:=cs;have b:l.length=75:=f.trans hM;obtain⟨fuel,g⟩:=h;have hf:dh enc ω W 0 (λ_=>Γ) Γ fuel 41 l=A (d,p):=g;obtain⟨xs,m,_,_,_,c,a⟩:=eh underlying41 hf;have hx:xs.length=20:=c;obtain⟨y0,g0⟩:=tQ (ty:=25) (o:=0) (k:=15) (a 0 _ D);obtain⟨m0,e0,k0⟩:=zuI g0 (by simp[b]);obtain⟨y1,g1⟩:=tQ (ty:=25) (o:=15) (k:=15) (a 1 _ D);obtain⟨m1,e1,k1⟩:=zuI g1 (by simp[b]);obtain⟨u2,r2,e2⟩:=s7 (cs:=l) 30;obtain⟨y2,g2⟩:=tQ (ty:=26) (o:=30) (k:=1) (a 2 _ D);rw[e2] at g2;obtain⟨m2,k2,q2⟩:=yu g2;obtain⟨u3,r3,e3⟩:=s7 (cs:=l) 31;obtain⟨y3,g3⟩:=tQ (ty:=26) (o:=31) (k:=1) (a 3 _ D);rw[e3] at g3;obtain⟨m3,k3,q3⟩:=yu g3;obtain⟨u4,r4,e4⟩:=s7 (cs:=l) 32;obtain⟨y4,g4⟩:=tQ (ty:=26) (o:=32) (k:=1) (a 4 _ D);rw[e4] at g4;obtain⟨m4,k4,q4⟩:=yu g4;obtain⟨u5,r5,e5⟩:=s7 (cs:=l) 33;obtain⟨y5,g5⟩:=tQ (ty:=26) (o:=33) (k:=1) (a 5 _ D);rw[e5] at g5;obtain⟨m5,k5,q5⟩:=yu g5;obtain⟨u6,r6,e6⟩:=s7 (cs:=l) 34
 obtain⟨y6,g6⟩:=tQ (ty:=26) (o:=34) (k:=1) (a 6 _ D);rw[e6] at g6;obtain⟨m6,k6,q6⟩:=yu g6;obtain⟨y7,g7⟩:=tQ (ty:=29) (o:=35) (k:=6) (a 7 _ D);obtain⟨m7,n7,e7,k7,q7⟩:=zxc g7 (by simp[b]);obtain⟨y8,g8⟩:=tQ (ty:=31) (o:=41) (k:=4) (a 8 _ D);obtain⟨m8,e8,k8,q8⟩:=zuK g8 (by simp[b]);obtain⟨y9,g9⟩:=tQ (ty:=36) (o:=45) (k:=16) (a 9 _ D);obtain⟨m9,e9,k9⟩:=zuL g9 (by simp[b]);obtain⟨y10,i⟩:=tQ (ty:=38) (o:=61) (k:=4) (a 10 _ D);obtain⟨q,r⟩:=zxd i (by simp[b]);obtain⟨u11,s,t⟩:=s7 (cs:=l) 65;obtain⟨w,rfl,x⟩:=oo (ty:=22) (o:=65) (a 11 _ D) (by omega) hU underlying22 s;obtain⟨u12,y,z⟩:=s7 (cs:=l) 66;obtain⟨B,rfl,E⟩:=oo (ty:=22) (o:=66) (a 12 _ D) (by omega) hU underlying22 y;obtain⟨u13,F,I⟩:=s7 (cs:=l) 67;obtain⟨L,rfl⟩:=sF (ty:=4) (o:=67) (a 13 _ D) (by omega) hB underlying4 F;obtain⟨u14,N,P⟩:=s7 (cs:=l) 68;obtain⟨R,rfl⟩:=sF (ty:=4) (o:=68) (a 14 _ D) (by omega) hB underlying4 N;obtain⟨y15,g15⟩:=tQ (ty:=39) (o:=69) (k:=2) (a 15 _ D)
 obtain⟨m15,T,U,V,X⟩:=zxe g15 (by simp[b]);obtain⟨u16,Z,e16⟩:=s7 (cs:=l) 71;obtain⟨m16,rfl⟩:=sF (ty:=4) (o:=71) (a 16 _ D) (by omega) hB underlying4 Z;obtain⟨u17,r17,e17⟩:=s7 (cs:=l) 72;obtain⟨m17,rfl,w17⟩:=oo (ty:=3) (o:=72) (a 17 _ D) (by omega) e underlying3 r17;obtain⟨u18,r18,e18⟩:=s7 (cs:=l) 73;obtain⟨m18,rfl,w18⟩:=oo (ty:=3) (o:=73) (a 18 _ D) (by omega) e underlying3 r18;obtain⟨u19,r19,e19⟩:=s7 (cs:=l) 74;obtain⟨m19,rfl,w19⟩:=oo (ty:=3) (o:=74) (a 19 _ D) (by omega) e underlying3 r19;have hL:l=(l.drop 0).take 15++((l.drop 15).take 15++((l.drop 30).take 1++((l.drop 31).take 1++((l.drop 32).take 1++((l.drop 33).take 1++((l.drop 34).take 1++((l.drop 35).take 6++((l.drop 41).take 4++((l.drop 45).take 16++((l.drop 61).take 4++((l.drop 65).take 1++((l.drop 66).take 1++((l.drop 67).take 1++((l.drop 68).take 1++((l.drop 69).take 2++((l.drop 71).take 1++((l.drop 72).take 1++((l.drop 73).take 1++((l.drop 74).take 1))))))))))))))))))) :=
  List.drop_zero.symm.trans (qQ (n:=0) (m:=15) D (qQ (n:=15) (m:=30) D (qQ (n:=30) (m:=31) D (qQ (n:=31) (m:=32) D (qQ (n:=32) (m:=33) D (qQ (n:=33) (m:=34) D (qQ (n:=34) (m:=35) D (qQ (n:=35) (m:=41) D (qQ (n:=41) (m:=45) D (qQ (n:=45) (m:=61) D (qQ (n:=61) (m:=65) D (qQ (n:=65) (m:=66) D (qQ (n:=66) (m:=67) D (qQ (n:=67) (m:=68) D (qQ (n:=68) (m:=69) D (qQ (n:=69) (m:=71) D (qQ (n:=71) (m:=72) D (qQ (n:=72) (m:=73) D (qQ (n:=73) (m:=74) D (zuM (by omega)))))))))))))))))))))
 rw[e0,e1,e2,e3,e4,e5,e6,e7,e8,e9,r,t,z,I,P,U,e16,e17,e18,e19] at hL;refine⟨⟨m0,m1,m2,m3,m4,m5,m6,m7,n7,m8,m9,q,w,B,L,R,m15,T,m16,m17,m18,m19⟩,⟨u2,u3,u4,u5,u6⟩,by rw[hL];rfl,⟨k0,k1,k7,q7,k8,q8,k9,ee x,ee E,V,X⟩,λj hj=>?_,λj hj=>?_⟩
 ·rcases five hj with rfl|rfl|rfl|rfl|rfl
  ·exact k2
  ·exact k3
  ·exact k4
  ·exact k5
  ·exact k6
 ·rcases five hj with rfl|rfl|rfl|rfl|rfl
  ·exact q2
  ·exact q3
  ·exact q4
  ·exact q5
  ·exact q6
structure LBx (w : u) (b : Nat) (M : Mach) (S : Sl) (ι : u) : Prop where
 low:Below w.heap.size w ι
 ge:w.heap.size<=b
 bx:Bx ι b (υ M S)
 sl:cf ι S M
theorem LBx.mk0{w w2:u}{M:Mach}{S:Sl}(hb:Below w.heap.size w w2)(d:cf w2 S M):LBx w w2.heap.size M S ((w2.alloc (χ (υ aD aP).toArray 41)).setCells w2.heap.size 0 (υ M S)):=by
 have a:=(Bx.new w2 (υ aD aP) 41 (b:=w2.heap.size) D).puts 0 (υ M S) (by rw[dG,dG];omega);rw[mK _ _ (by rw[dG,dG])] at a;have c:Below w2.heap.size w2 ((w2.alloc (χ (υ aD aP).toArray 41)).setCells w2.heap.size 0 (υ M S)):=Bl.puts (stA (aR w2) _) (ψ _) _;exact⟨bw hb c,hb.size,a,d.kept c⟩
theorem AW(B:Nat)(w:u):bP B w (κ G 0 0) []:=aj ⟨D,_,_,D⟩
theorem zuB(w:u):sliceAt w (κ G 0 0) []:=aj ⟨_,_,D,D⟩
def comes(c:Int):List Inp->List Inp
 | []=>[]
 | x::l=>if x.c<c then comes c l else x::l
theorem zds(c:Int):∀ l:List Inp,sn l->comes c l=l.filter (λx=>decide (c<=x.c))
 | [],_=>rfl
 | x::l,h=>by
  have b:=fC.1 h;unfold comes;split
  ·rename_i d
   rw[mj (by simp;omega)];exact zds c l b.2
  ·rename_i d
   rw[kL.2 (λy a=>by
    rcases bp.1 a with rfl|a
    ·simp;omega
    ·have:=b.1 y a;simp;omega)]
theorem zqv{c:Int}{x:Inp}{l:List Inp}(h:x.c<c):comes c (x::l)=comes c l:=am h
theorem zxz{c:Int}{x:Inp}{l:List Inp}(h:¬ x.c<c):x::l=comes c (x::l):=(ae h).symm
theorem bP.tail1{B:Nat}{w:u}{g o k:Nat}{x:Inp}{t:List Inp}(h:bP B w (κ (A ⟨g,o,G⟩) (x::t).length k) (x::t)):bP B w (κ (A ⟨g,o+3,G⟩) t.length (k-1)) t:=by
 rcases h with⟨e,_⟩|⟨g',o',k',e1,e2,e3,e4,e5⟩
 ·cases e
 ·cases e1
  refine ao ⟨g,o+3,k-1,D,by simp at e2;omega,e3,e4,λj y a=>?_⟩;have:=e5 (j+1) y a;rw[show o+3*(j+1)=o+3+3*j by omega] at this;exact this
def vD:π->Nat
 | κ _ n _=>n
 | _=>0
theorem Wc.coming(l:List Inp)(v:π)(B:Nat)(c:Int)(w:u)(h:bP B w v l):Δ ω 96 #[v,J Q c] w λe w'=>(∃ v',e=μ v'/\bP B w v' (comes c l))/\w'=w:=by
 have H:=hid h;clear h;go_enter func96,ntmps96;go_wp2;go_loopw [0] (λs wr=>∃ d:List Inp,bP B w s d/\comes c d=comes c l/\wr=w) (λs _=>vD s)
 case atStart=>exact⟨l,H.out,D,D⟩
 case round =>
  obtain⟨d,b,n,rfl⟩:=hrel;have f:=hid n;cases d with
  | nil =>
   obtain⟨a,k,ev⟩:=b.len;cases ev;have i:=hid b;clear b n;go_wp2;go_ret;exact⟨⟨_,D,by rw[<- f.out];exact i.out⟩,D⟩
  | cons x t =>
   obtain⟨g,o,k,ev,gz,p,x1,x2⟩:=b.at' (j:=0) (x:=x) D;cases ev;have E:t.length+1<=k:=by
    rcases b with⟨e,_⟩|⟨g',o',k',e1,e2,_⟩
    ·cases e
    ·cases e1;exact e2
   have i:=hid b;have r:1<=k:=by omega
   have F:wr.cell? ⟨g,o,G⟩=A (J Q x.c):=by rw[<- p];simp
   clear b n x1 x2 p;by_cases q:x.c<c
   ·have m:=hid q
    by_cases y:k=1
    ·go_wp2
     have z:t=[]:=fM (by omega);subst z;exact⟨⟨[],aj ⟨D,_,_,D⟩,by rw[<- f.out,zqv m.out],trivial⟩,by simp[vD]⟩
    ·go_wp2
     exact⟨⟨t,i.out.tail1,by rw[<- f.out,zqv m.out],trivial⟩,by simp[vD]⟩
   ·have m:=hid q
    go_wp2;go_ret;exact⟨⟨_,D,by rw[<- f.out,<- zxz (Int.not_lt.2 m.out)];exact i.out⟩,D⟩
def cZ(rom:List UInt8)(pc:Nat):List UInt8 :=
 if rom.length-pc<2 then [63] else (bA (S.list ((rom.drop pc).take (min ((rom.length-pc)/2*2) 4))) [10]).1
theorem Wc.cut(l:List UInt8)(f:l.length<=10000)(w:u)(a:AF w):Δ ω 53 #[Ω (aT l),Ω ⟨#[10]⟩] w λe w'=>e=μ (Ψ #[Ω (aT (bA l [10]).1),Ω (aT (bA l [10]).2.1),ν (bA l [10]).2.2])/\Below w.heap.size w w':=by
 obtain⟨m,b⟩:=a.len;refine(Tryz.strings_Cut (aT l) (aT [10]) m w (by rw[sU];omega) b).mono λe w' ⟨c,n,d⟩=>⟨c,?_⟩
 subst d;exact rq (aR w) n
theorem zfn:∀(f:Nat) (l:List UInt8),(S.listN f l).length<=61*f
 | 0,l=>by simp[S.listN]
 | f+1,l=>by
  by_cases h:l=[]
  ·subst h;simp[S.listN]
  ·rw[zdw f l h]
   have:=zic l;have:=zfn f (l.drop (S.firstLine l).2);simp;omega
theorem Wc.few(a:Option cK)(n b:Nat)(pc:Nat)(hp:pc<=65535)(hc:n<=b)(f:n<=9223372036854775807)(c:n-pc<2)(w:u):Δ ω 99 #[κ a n b,J Y pc] w λe w'=>e=μ (Ω (aT [63]))/\w'=w:=by
 obtain⟨k,d⟩:∃ k,k=min pc n:=⟨_,D⟩
 have g:min (pc:Int) (n:Int)=(k:Int):=by omega
 have h1:k<=n:=by omega
 have h2:k<=b:=by omega
 have h3:(((n-k:Nat):Int)<2):=by omega
 have h:IntKind.i64.wrap (pc:Int)=pc:=by rw[aH];omega
 clear d c;go_enter func99,ntmps99;go_wp2;all_goals go_ret
 all_goals exact⟨D,D⟩
theorem zqw(c:C.Cpu)(r:Bool)(w:u):Δ ω 98 #[ac (bY c).toArray,ν r] w λe w'=>e=μ (ν (!c.Waits && !(c.May && r)))/\Below w.heap.size w w':=by
 have hB:=Bx.new w (bY c) 25 (b:=w.heap.size) D;have f:=hB.at 14 _ D;have g:=hB.at 13 _ D;have h:Below w.heap.size w (w.alloc (χ (bY c).toArray 25)):=stA (aR w) _;obtain⟨i,a⟩:∃ b,b=c.Waits:=⟨_,D⟩
 obtain⟨j,d⟩:∃ b,b=c.May:=⟨_,D⟩
 rw[<- a] at f ⊢;rw[<- d] at g ⊢;clear hB a d;cases i <;> cases j
 all_goals
  go_enter func98,ntmps98;go_wp2
 all_goals go_ret
 all_goals exact⟨D,h⟩
def Mach.next(M:Mach):Int:=max (if M.held then M.mready else min M.mready M.aready) (M.clock+1)
theorem Wc.next(M:Mach)(S:Sl)(hc:0<=M.clock/\M.clock<=200000)(w:u):Δ ω 97 #[ac (υ M S).toArray] w λe w'=>e=μ (J Q M.next)/\Below w.heap.size w w':=by
 have hB:=Bx.new w (υ M S) 41 (b:=w.heap.size) D;have a:=hB.at 68 _ D;have d:=hB.at 72 _ D;have f:=hB.at 73 _ D;have g:=hB.at 74 _ D;have i:Below w.heap.size w (w.alloc (χ (υ M S).toArray 41)):=stA (aR w) _;obtain⟨h,c⟩:∃ b,b=M.held:=⟨_,D⟩
 unfold Mach.next;rw[<- c] at a ⊢;obtain⟨c0,c1⟩:=hc;clear hB c;cases h;all_goals
  go_enter func97,ntmps97;go_wp2
 all_goals go_ret
 all_goals exact⟨D,i⟩
structure Dd where
 c:Int
 a:Bool
 pc:Int
 t:List UInt8
def ib(x:Dd):List π:=[J Q x.c,ν x.a,J Y x.pc,Ω (aT x.t)]
def lE(l:List Dd):List π:=(l.map ib).flatten
end Go.Proofs.YthghjlinhokimaaGreatDoor
