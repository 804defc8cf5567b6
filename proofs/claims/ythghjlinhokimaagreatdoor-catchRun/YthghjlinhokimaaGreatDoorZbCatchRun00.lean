/-
  Parts of a proof, joined.
-/
import Derived.Test.YthghjlinhokimaaGreatDoorZbA
import Derived.Test.YthghjlinhokimaaGreatDoorZb30
import Derived.Test.YthghjlinhokimaaGreatDoorZb31
import Derived.Test.YthghjlinhokimaaGreatDoorZb32
set_option linter.all false
set_option maxRecDepth 100000
set_option maxHeartbeats 6400000
open Option renaming none->G,some->A
open Go renaming World->u,Value->π,Calls->Δ,TypeId->aJ,bits->bW,Program->bX,Oper->cG,Addr->cK,wpList->dg,undef->dF,maxLen->dI,MemPlace->dZ,DataW->fF
open Bool renaming false->ξ,true->Γ
open Go.Proofs.Tryz renaming prog->ω
open Go.Act renaming put->ag,eval->rM
open Or renaming inl->aj,inr->ao
open Go.Result renaming andThen->aE
open Go.Instr renaming index->aK,lookup->dV,findNow->eB,mapUpdate->fV,checkKey->gD,sameNow->jm
open Go.RowKit renaming intOf->aU,Hid->bG
open Go.Lib renaming byteCells->aV,itoa->ba,cut->bA,TabIs->fm,countB->fT,atoiAll->gU,hasSuffix->ic,split->il,pow10Tab->iZ,splitK->jA,splitB->lj,trimSuffix->lq
open Go.Value renaming oneCell'->bi,slice->κ,okWide->bU,int->J,string->Ω,ownBlock->im,bool->ν,tuple->Ψ,agg->ac,pointer->aB
open UInt8 renaming ofNat->bF
open Go.OpenSpec renaming ofChange->bQ
open List renaming range->cM
open Go.IntKind renaming signed->cP,wrap->dB,bits->dC,i64->Q,u16->Y,u8->au
open Go.DataW renaming trod->dh
open Go.MapKept renaming IsKey->ie
open Go.World renaming setCell->jn
open Go.Exit renaming thenS->p8
open Go.Ending renaming returned->μ
open Go.Obj renaming cells->χ
namespace Go.Proofs.YthghjlinhokimaaGreatDoor
open Go.ChangeShapes Go.WideShapes Go.ChangeAt Go.RowKit Go.Proofs.Tryz
def zbe{H:Type}{enc:aJ × π->H}{a:Assume}{C:Checked}{os:Os}{f:FuncId}{k:Func}{s:ChangeSpec}{g:List PathCond}{b fresh d l:Bool}{X:u->Array π->Prop}
 (P:∀(w w':u) (args:Array π),w.heap=w'.heap->X w args->X w' args)
 (q:ownKnob C.prog.godebug=G) (m:os.Started) (o:C.prog.inits.idxOf? f=G) (E:C.prog.funcs[f]?=A k)
 (n:∃(w:u) (tape:Tape) (i:Input),w.os=os/\(w.forCall tape i).Shaped C.prog/\i.vars=[]/\Input.okWide C.prog (w.forCall tape i) .any w.heap.size f i /\
   ((s.pre enc C.prog k g b (w.forCall tape i).memory i.args/\X (w.forCall tape i).memory i.args)/\sizedMet enc C.prog k (bQ s) b (w.forCall tape i).memory i.args)/\a.holds C.prog (lone (Frame.enter C.prog f i.args .normal) [] (w.forCall tape i)))
 (h:∀(W:u) (base:Nat) (args:Array π) (r x:List (fF H)) (c:List dZ),
   (∀(j:Nat) t v,k.params[j]?=A t->args[j]?=A v->bU C.prog W .any base t v) ->
   DataW.Whole enc C.prog k.params.toList s.vars b W args.toList r x c ->
   g.all (PathCond.test C.prog ⟨k.params.toList,r,s.plain.varTypes C.prog,x⟩)=Γ ->
   (DataW.weightsEach C.prog (k.params.toList++s.plain.varTypes C.prog) (r++x)).all (· <= reachBytes)=Γ->X W args->W.ShapedOpen C.prog ->
   a.holds C.prog (lone (Frame.enter C.prog f args .normal) [] W) ->
   Δ C.prog f args W λe M=>∃ v,e=μ v/\s.post enc C.prog k b fresh d l W args v M) :
 ReturnsInHanded a C os f .any (λw args=>(s.pre enc C.prog k g b w args/\X w args)/\sizedMet enc C.prog k (bQ s) b w args) (s.post enc C.prog k b fresh d l):=by
 refine l6 q m o n ?_;intro w tape i _ F _ I y p;obtain⟨_,_,_,L,z,_,_,_,_,B⟩:=I;obtain rfl:L=k:=aL (z.symm.trans E);obtain⟨⟨⟨r,x,c,N,hc⟩,R⟩,T⟩:=y;refine(h (w.forCall tape i) w.heap.size i.args r x c B (nO (w':=w.forCall tape i) (by rfl) N) hc (T.weights N) (P _ _ _ (by rfl) R) F p).mono λe M ⟨v,U,hp⟩=>?_
 subst U;exact mX hp
end Go.Proofs.YthghjlinhokimaaGreatDoor
namespace Go.Proofs.YthghjlinhokimaaGreatDoor.O
def lowN(k:Nat):Int:=if k=12 \/ k=13 then 0 else -16
def part(b:Bool)(x lo hi:Int):Bool:=if b then decide (lo<=x/\x<=hi) else decide (x=0)
def okB(k:Nat)(d s n w:Int):Bool:=part (hasC k 100) d 0 7 && part (hasC k 115) s 0 7 && part (hasC k 110) n (lowN k) 15 && part (hasC k 119) w 0 65535
def ck(op d s n w:Int):Int:=if isOp op then (if okB op.toNat d s n w then 0 else 3) else 5
def words(op d s n w:Int):List Int:=if hasC op.toNat 119 then [first op d s n,w] else [first op d s n]
def mask_w:∀ k,k<32->hasC k 119=decide (mask k/8%2=1):=by decide +kernel
def lo(h:Int)(i:Nat):Int:=if i=2/\(h/4%2=1) /\ ¬ h/16%2=1 then -16 else 0
def hi(h:Int)(i:Nat):Int :=
 if i=0 then (if h%2=1 then 7 else 0) else if i=1 then (if h/2%2=1 then 7 else 0) else
 if i=2 then (if h/4%2=1 \/ h/16%2=1 then 15 else 0) else (if h/8%2=1 then 65535 else 0)
def inR(l θ x:Int):Bool:=decide (l<=x) && decide (x<=θ)
def inB(h:Int)(i:Nat)(x:Int):Bool:=inR (lo h i) (hi h i) x
def inB_all(k:Nat)(b:k<32)(d s n w:Int):(inB (mask k) 0 d && inB (mask k) 1 s && inB (mask k) 2 n && inB (mask k) 3 w)=okB k d s n w:=by
 have h:∀ k,k<32->(lo (mask k) 0=0/\hi (mask k) 0=(if hasC k 100 then 7 else 0))/\(lo (mask k) 1=0/\hi (mask k) 1=(if hasC k 115 then 7 else 0)) /\
  (lo (mask k) 2=(if hasC k 110 then lowN k else 0)/\hi (mask k) 2=(if hasC k 110 then 15 else 0))/\(lo (mask k) 3=0/\hi (mask k) 3=(if hasC k 119 then 65535 else 0)):=by decide +kernel
 obtain⟨⟨a1,a2⟩,⟨b1,b2⟩,⟨c1,c2⟩,⟨d1,d2⟩⟩:=h k b;unfold inB inR okB part;rw[a1,a2,b1,b2,c1,c2,d1,d2];have e:∀(c:Bool) (l θ x:Int),(decide ((if c then l else 0)<=x) && decide (x<=if c then θ else 0))=if c then decide (l<=x/\x<=θ) else decide (x=0):=by
  intro c l θ x;cases c
  ·simp only[cD,fj]
   rw[<- mR,dW];omega
  ·simp
 have a:∀(c:Bool) (θ x:Int),(decide (0<=x) && decide (x<=if c then θ else 0))=if c then decide (0<=x/\x<=θ) else decide (x=0):=by
  intro c θ x;have:=e c 0 θ x
  rwa [show (if c then (0:Int) else 0)=0 by cases c <;> rfl] at this
 rw[e,a,a,a]
def part_bd{b:Bool}{x l θ:Int}(h:part b x l θ=Γ)(a:l<=0)(c:0<=θ):l<=x/\x<=θ:=by
 unfold part at h;cases b
 ·have:=du (by simpa using h:decide (x=0)=Γ);omega
 ·exact du (by simpa using h:decide (l<=x/\x<=θ)=Γ)
def ok_bd{k:Nat}{d s n w:Int}(h:okB k d s n w=Γ):(0<=d/\d<=7)/\(0<=s/\s<=7)/\(-16<=n/\n<=15)/\(0<=w/\w<=65535):=by
 unfold okB at h;simp only[io] at h;obtain⟨⟨⟨h1,h2⟩,h3⟩,h4⟩:=h;have f:lowN k<=0 /\ -16<=lowN k:=by unfold lowN;split <;> omega
 have a:=part_bd h1 (by omega) (by omega);have b:=part_bd h2 (by omega) (by omega);have c:=part_bd h3 (by omega) (by omega);have e:=part_bd h4 (by omega) (by omega);exact⟨a,b,⟨by omega,by omega⟩,e⟩
def first_bd{op d s n:Int}(h1:0<=op/\op<=31)(h2:0<=d/\d<=7)(h3:0<=s/\s<=7):0<=first op d s n/\first op d s n<=65535:=by unfold first;omega
/-! ### the first word, laid in bit by bit -/
def or_add(a b:Int)(i:Nat)(c:0<=a)(hb:0<=b)(d:b<2 ^ i)(f:a*2 ^ i+b<=65535):bW .or Y (a*2 ^ i) b=a*2 ^ i+b:=by
 obtain⟨ζ,rfl⟩:=aA c;obtain⟨B,rfl⟩:=aA hb;have e:(ζ:Int)*2 ^ i=((ζ*2 ^ i:Nat):Int):=by simp
 rw[e] at f ⊢;have hB:B<2 ^ i:=by
  have:((2 ^ i:Nat):Int)=(2:Int) ^ i:=by simp
  omega
 rw[p7 _ _ (by omega) (by omega)];have h:ζ*2 ^ i ||| B=ζ*2 ^ i+B:=by
  have:=kT hB ζ;rw[iw ζ];exact this.symm
 rw[h];omega
def first_of(op d s m:Int)(h1:0<=op/\op<=31)(h2:0<=d/\d<=7)(h3:0<=s/\s<=7)(h4:0<=m/\m<=31):bW .or Y (bW .or Y (bW .or Y (op*2048) (d*256)) (s*32)) m=op*2048+d*256+s*32+m:=by
 have a:=or_add op (d*256) 11 (by omega) (by omega) (by simp only[Int.reducePow];omega) (by simp only[Int.reducePow];omega);have b:=or_add (op*8+d) (s*32) 8 (by omega) (by omega) (by simp only[Int.reducePow];omega) (by simp only[Int.reducePow];omega);have c:=or_add (op*64+d*8+s) m 5 (by omega) (by omega) (by simp only[Int.reducePow];omega) (by simp only[Int.reducePow];omega);simp only[Int.reducePow] at a b c;rw[a,show op*2048+d*256=(op*8+d)*256 by omega,b,show (op*8+d)*256+s*32=(op*64+d*8+s)*32 by omega,c]
def low5(n:Int)(h:-16<=n/\n<=15):bW .and Y (IntKind.u16.wrap n) 31=(n+32)%32:=by
 have e:IntKind.u16.wrap n=n%65536:=bj n;rw[e];have:=M.and_low (n%65536) 5 (by omega) (by omega) (by omega);rw[show (((2 ^ 5-1:Nat):Nat):Int)=31 by rfl] at this;rw[this];simp only[Int.reducePow];omega
/-! ### what was written is read -/
end Go.Proofs.YthghjlinhokimaaGreatDoor.O
namespace Go.Proofs.YthghjlinhokimaaGreatDoor
open Go.ChangeShapes Go.WideShapes Go.ChangeAt Go.RowKit Go.Proofs.Tryz
def t6(b:Nat):π:=.func (.func 380) #[] #[aB (A ⟨b,0,G⟩),aB (A ⟨b+1,0,G⟩)]
def zqF(l θ:Int)(w:u):Δ ω 370 #[J Q l,J Q θ] w λe w'=>e=μ (.func (.func 380) #[] #[aB (A ⟨w.heap.size,0,G⟩),aB (A ⟨w.heap.size+1,0,G⟩)])/\w'=(w.alloc (χ #[J Q l] 3)).alloc (χ #[J Q θ] 3):=by
 go_enter func370,ntmps370;go_wp2;go_ret;exact⟨D,D⟩
def wR(l θ x:Int)(b c:Nat)(w:u)(a:w.cell? ⟨b,0,G⟩=A (J Q l))(d:w.cell? ⟨c,0,G⟩=A (J Q θ)):Δ ω 380 #[J Q x,aB (A ⟨b,0,G⟩),aB (A ⟨c,0,G⟩)] w λe w'=>e=μ (ν (O.inR l θ x))/\w'=w:=by
 have e:∀ b,(decide (l<=x) && decide (x<=θ))=b->bG (O.inR l θ x=b):=λ_ h=>h
 by_cases h1:l<=x <;> by_cases h2:x<=θ
 ·have e:=e Γ (by simp[h1,h2])
  go_enter func380,ntmps380;go_wp2;go_ret;rw[e.out];exact⟨D,D⟩
 all_goals
  have e:=e ξ (by simp;omega);go_enter func380,ntmps380;go_wp2;go_ret;rw[e.out];exact⟨D,D⟩
structure Lims (h : Int) (b0 b1 b2 b3 : Nat) (w : u) : Prop where
 l0:w.cell? ⟨b0,0,G⟩=A (J Q (O.lo h 0))
 u0:w.cell? ⟨b0+1,0,G⟩=A (J Q (O.hi h 0))
 l1:w.cell? ⟨b1,0,G⟩=A (J Q (O.lo h 1))
 u1:w.cell? ⟨b1+1,0,G⟩=A (J Q (O.hi h 1))
 l2:w.cell? ⟨b2,0,G⟩=A (J Q (O.lo h 2))
 u2:w.cell? ⟨b2+1,0,G⟩=A (J Q (O.hi h 2))
 l3:w.cell? ⟨b3,0,G⟩=A (J Q (O.lo h 3))
 u3:w.cell? ⟨b3+1,0,G⟩=A (J Q (O.hi h 3))
def zqG(a b:π)(k:Nat)(c:k<32)(w:u):Δ ω 365 #[ac #[a,b,J Q (O.mask k)]] w λe w'=>∃ b0 b1 b2 b3,e=μ (ac #[t6 b0,t6 b1,t6 b2,t6 b3])/\Lims (O.mask k) b0 b1 b2 b3 w'/\Below w.heap.size w w':=by
 rcases O.mask_or k c with h|h|h|h|h|h|h|h|h <;> rw[h]
 all_goals
  clear h;go_enter func365,ntmps365;go_wp2_with (go_at_call 370;refine(zqF _ _ _).mono ?_;rintro e w' ⟨rfl,rfl⟩)
  refine Ξ (v:=?_) ?_ D ?_;rotate_left
  ·simp[results,results365,go_sem]
   first|done|exact D
  refine⟨_,_,_,_,D,⟨?_,?_,?_,?_,?_,?_,?_,?_⟩,?_⟩
  rotate_right 1
  ·repeat (first|exact bq _ _|refine Below.alloc ?_ (by simp <;> omega) _)
  all_goals repeat (first|(refine(ly _ _ _ _ ?_).trans ?_;(focus (simp;done));rfl)|(refine(aN _ _ _ ?_).trans ?_;(focus (simp <;> omega))))
def zvB(op d s n ww:Int)(h:O.isOp op=ξ)(w:u)(b:br w):Δ ω 338 #[ac #[J Q op,J Q d,J Q s,J Q n,J Q ww]] w λe w'=>e=μ (J Q 5)/\Below w.heap.size w w':=by
 have c:=hid b;clear b;have H:=hid h;clear h;go_enter func338,ntmps338;go_wp2_with (go_at_call 256;refine(zi7 op H.out _ (pJ c.out _)).mono ?_;rintro e w1 ⟨rfl,a⟩)
 go_ret;exact⟨D,stA (bw (stA (aR _) _) a) _⟩
def wH(h:Int)(v:Nat->Int)(j:Nat):Prop:=∀ i,i<j->O.inB h i (v i)=Γ
def yD(d s n w:Int)(i:Nat):Int:=if i=0 then d else if i=1 then s else if i=2 then n else w
def zz8(k:Nat)(a:k<32)(d s n w:Int)(h:wH (O.mask k) (yD d s n w) 4):O.okB k d s n w=Γ:=by
 have b:O.inB (O.mask k) 0 d=Γ:=h 0 (by omega);have h1:O.inB (O.mask k) 1 s=Γ:=h 1 (by omega);have h2:O.inB (O.mask k) 2 n=Γ:=h 2 (by omega);have h3:O.inB (O.mask k) 3 w=Γ:=h 3 (by omega);rw[<- O.inB_all k a,b,h1,h2,h3];rfl
def zfL(k:Nat)(b:k<32)(d s n w:Int)(i:Nat)(hi:i<4)(h:O.inB (O.mask k) i (yD d s n w i)=ξ):O.okB k d s n w=ξ:=by
 rw[<- O.inB_all k b];have hc:i=0 \/ i=1 \/ i=2 \/ i=3:=by omega
 rcases hc with rfl|rfl|rfl|rfl
 ·have a:O.inB (O.mask k) 0 d=ξ:=h
  rw[a];simp
 ·have a:O.inB (O.mask k) 1 s=ξ:=h
  rw[a];simp
 ·have a:O.inB (O.mask k) 2 n=ξ:=h
  rw[a];simp
 ·have a:O.inB (O.mask k) 3 w=ξ:=h
  rw[a];simp
def Aj{k:Nat}(b:k<32)(a:k≠30)(d s n w:Int):O.ck k d s n w=if O.okB k d s n w then 0 else 3:=by
 unfold O.ck;rw[am ((O.isOp_iff _).2 (by omega))];rfl
def zek{h:Int}{v:Nat->Int}{j:Nat}(a:wH h v j)(b:O.inB h j (v j)=Γ):wH h v (j+1):=λi hi=>by
 by_cases e:i<j
 ·exact a i e
 ·have:i=j:=by omega
  subst this;exact b
def zyn(a x1 x2 x3:π)(w:u):(aK 423 (ac #[a,x1,x2,x3]) (J Q 0)).run ω w=.ok a w:=by kernel_rfl
def zyo(a x1 x2 x3:π)(w:u):(aK 423 (ac #[a,x1,x2,x3]) (J Q 1)).run ω w=.ok x1 w:=by kernel_rfl
def zyp(a x1 x2 x3:π)(w:u):(aK 423 (ac #[a,x1,x2,x3]) (J Q 2)).run ω w=.ok x2 w:=by kernel_rfl
def zyq(a x1 x2 x3:π)(w:u):(aK 423 (ac #[a,x1,x2,x3]) (J Q 3)).run ω w=.ok x3 w:=by kernel_rfl
def zsv(k:Nat)(f:k<32)(c:k≠30)(d s n ww:Int)(w:u)(L:br w):Δ ω 338 #[ac #[J Q k,J Q d,J Q s,J Q n,J Q ww]] w λe w'=>e=μ (J Q (O.ck k d s n ww))/\Below w.heap.size w w':=by
 have M:=hid L;clear L;go_enter func338,ntmps338;go_wp2_with (first
  | (go_at_call 256;refine(tH k f c _ (pJ M.out _)).mono ?_;rintro e w1 ⟨rfl,h⟩;obtain⟨E,F⟩:=cj h;have N:w.heap.size<w1.heap.size:=by have:=h.size;simp at this;omega)
  | (go_at_call 365;refine(zqG _ _ k f _).mono ?_;rintro e w2 ⟨b0,b1,b2,b3,rfl,P,m⟩;unfold t6;obtain⟨g,H⟩:=cj m))
 have hB:Below w.heap.size w w2:=bw (stA (stA (bw (stA (aR _) _) h) _) _) m;have v0:w2.cell? ⟨w1.heap.size+1,0,G⟩=A (J Q d):=by rw[g _ _ (by simp)];exact ly _ _ _ _ (by simp)
 have R:w2.cell? ⟨w1.heap.size+1,1,G⟩=A (J Q s):=by rw[g _ _ (by simp)];exact ly _ _ _ _ (by simp)
 have v2:w2.cell? ⟨w1.heap.size+1,2,G⟩=A (J Q n):=by rw[g _ _ (by simp)];exact ly _ _ _ _ (by simp)
 have v3:w2.cell? ⟨w1.heap.size+1,3,G⟩=A (J Q ww):=by rw[g _ _ (by simp)];exact ly _ _ _ _ (by simp)
 clear E F g H h m M;obtain⟨o,p,q,r,t,v,x,y⟩:=P
 go_loop [28] (λi=>∃ j:Nat,j<=4/\i=J Q j/\wH (O.mask k) (yD d s n ww) j) (λi=>4-(aU i).toNat)
 case atStart=>exact⟨0,by omega,D,λi hi=>by omega⟩
 case round =>
  obtain⟨j,T,rfl,z⟩:=hrel;have B:=hid z;clear z;have I:j=0 \/ j=1 \/ j=2 \/ j=3 \/ j=4:=by omega
  rcases I with rfl|rfl|rfl|rfl|rfl
  ·have i0:=zyn
   by_cases a:O.inR (O.lo (O.mask k) 0) (O.hi (O.mask k) 0) d=Γ
   ·go_wp2_with (go_at_call 380;refine(wR _ _ _ _ _ _ o p).mono ?_;rintro e w' ⟨rfl,rfl⟩)
    go_round
    case rel=>exact⟨1,by omega,by go_num,zek B.out a⟩
    case measure=>simp[aU]
   ·have b:O.inR (O.lo (O.mask k) 0) (O.hi (O.mask k) 0) d=ξ:=by simpa using a
    have l:=hid (zfL k f d s n ww 0 (by omega) b);clear a;go_wp2_with (go_at_call 380;refine(wR _ _ _ _ _ _ o p).mono ?_;rintro e w' ⟨rfl,rfl⟩)
    go_ret;rw[Aj f c,l.out];exact⟨D,hB⟩
  ·have i0:=zyo
   by_cases a:O.inR (O.lo (O.mask k) 1) (O.hi (O.mask k) 1) s=Γ
   ·go_wp2_with (go_at_call 380;refine(wR _ _ _ _ _ _ q r).mono ?_;rintro e w' ⟨rfl,rfl⟩)
    go_round
    case rel=>exact⟨2,by omega,by go_num,zek B.out a⟩
    case measure=>simp[aU]
   ·have b:O.inR (O.lo (O.mask k) 1) (O.hi (O.mask k) 1) s=ξ:=by simpa using a
    have l:=hid (zfL k f d s n ww 1 (by omega) b);clear a;go_wp2_with (go_at_call 380;refine(wR _ _ _ _ _ _ q r).mono ?_;rintro e w' ⟨rfl,rfl⟩)
    go_ret;rw[Aj f c,l.out];exact⟨D,hB⟩
  ·have i0:=zyp
   by_cases a:O.inR (O.lo (O.mask k) 2) (O.hi (O.mask k) 2) n=Γ
   ·go_wp2_with (go_at_call 380;refine(wR _ _ _ _ _ _ t v).mono ?_;rintro e w' ⟨rfl,rfl⟩)
    go_round
    case rel=>exact⟨3,by omega,by go_num,zek B.out a⟩
    case measure=>simp[aU]
   ·have b:O.inR (O.lo (O.mask k) 2) (O.hi (O.mask k) 2) n=ξ:=by simpa using a
    have l:=hid (zfL k f d s n ww 2 (by omega) b);clear a;go_wp2_with (go_at_call 380;refine(wR _ _ _ _ _ _ t v).mono ?_;rintro e w' ⟨rfl,rfl⟩)
    go_ret;rw[Aj f c,l.out];exact⟨D,hB⟩
  ·have i0:=zyq
   by_cases a:O.inR (O.lo (O.mask k) 3) (O.hi (O.mask k) 3) ww=Γ
   ·go_wp2_with (go_at_call 380;refine(wR _ _ _ _ _ _ x y).mono ?_;rintro e w' ⟨rfl,rfl⟩)
    go_round
    case rel=>exact⟨4,by omega,by go_num,zek B.out a⟩
    case measure=>simp[aU]
   ·have b:O.inR (O.lo (O.mask k) 3) (O.hi (O.mask k) 3) ww=ξ:=by simpa using a
    have l:=hid (zfL k f d s n ww 3 (by omega) b);clear a;go_wp2_with (go_at_call 380;refine(wR _ _ _ _ _ _ x y).mono ?_;rintro e w' ⟨rfl,rfl⟩)
    go_ret;rw[Aj f c,l.out];exact⟨D,hB⟩
  ·have l:=hid (zz8 k f d s n ww B.out)
   go_wp2;go_ret;rw[Aj f c,l.out];exact⟨D,hB⟩
def Ak(op d s n ww:Int)(w:u)(a:br w):Δ ω 338 #[ac #[J Q op,J Q d,J Q s,J Q n,J Q ww]] w λe w'=>e=μ (J Q (O.ck op d s n ww))/\Below w.heap.size w w':=by
 cases h:O.isOp op
 ·refine(zvB op d s n ww h w a).mono λe w' b=>⟨b.1.trans ?_,b.2⟩
  unfold O.ck;rw[h];rfl
 ·obtain⟨h1,h2,h3⟩:=(O.isOp_iff op).1 h
  obtain⟨k,rfl⟩:=aA h1;exact zsv k (by omega) (by omega) d s n ww w a
end Go.Proofs.YthghjlinhokimaaGreatDoor
namespace Go.Proofs.YthghjlinhokimaaGreatDoor.S
def isDigit(c:UInt8):Bool:=decide (48<=c.toNat) && decide (c.toNat<=57)
def nameCh(c:UInt8):Bool:=isDigit c || c == 95 || (decide (97<=c.toNat) && decide (c.toNat<=122))
def reg(s:By):Option Int:=match s with
 | [a,c]=>if a=114/\48<=c.toNat/\c.toNat<=55 then A ((c.toNat:Int)-48) else G
 | _=>G
def nameOk(s:By):Bool:=match s with
 | []=>ξ
 | c::r=>decide (s.length<=12) && !isDigit c && s.all nameCh && (reg s).isNone
def num(s:By):Option Int:=match gU s with
 | .ok v=>if ba v=s then A v else G
 | _=>G
def opOf(s:By):Option Nat:=(cM 32).find? (λk=>k != 30 && (K.row k).1 == s)
structure Ord where
 d:Int
 s:Int
 n:Int
 w:Int
def Ord.set(o:Ord)(p:Nat)(v:Int):Ord:=if p=0 then { o with d:=v } else if p=1 then { o with s:=v } else if p=2 then { o with w:=v } else { o with n:=v }
def Ord.zero:Ord:=⟨0,0,0,0⟩
/-! ### a program's listing -/
def comma:By:=[44,32]
def plain:By:=[46,119,111,114,100]
/-! ### what is built of a text -/
def wordOrName(s:By):Option (Int × By):=if nameOk s then A (0,s) else (num s).map (λv=>(v,[]))
def bytesOf:List Int->By
 | []=>[]
 | a::r=>bF (a/256).toNat::bF (a%256).toNat::bytesOf r
def put(ws:List Int)(name:By)(ln:Nat)(st:St):Except Int St :=
 if 1024<st.rom.length+2*ws.length then .error 2 else
 .ok ⟨st.rom++bytesOf ws,st.places,if name=[] then st.uses else st.uses++[(name,st.rom.length+2*ws.length-2,ln)]⟩
def readPlace(name:By)(st:St):Except Int St :=
 if nameOk name then (match st.places.find? (λp=>p.1 == name) with
  | some _=>.error 6
  | none=>.ok { st with places:=st.places++[(name,st.rom.length)] }) else .error 1
def readWord(ps:List By)(ln:Nat)(st:St):Except Int St:=match ps with
 | [p]=>(match wordOrName p with
  | some (v,name)=>if v<0 \/ 65535<v then .error 3 else put [v] name ln st
  | none=>.error 1)
 | _=>.error 4
def readPart(p:Nat)(s:By)(o:Ord)(name:By):Option (Ord × By) :=
 if p=2 then (wordOrName s).map (λx=>(o.set 2 x.1,x.2)) else if p=3 then (num s).map (λv=>(o.set 3 v,name)) else (reg s).map (λv=>(o.set p v,name))
def readParts:List Nat->List By->Ord->By->Option (Ord × By)
 | p::ks,s::a,o,name=>(readPart p s o name).bind (λx=>readParts ks a x.1 x.2)
 | _,_,o,name=>A (o,name)
def readOrder(a:By)(ps:List By)(ln:Nat)(st:St):Except Int St:=match opOf a with
 | none=>.error 5
 | some k=>if ps.length=(parts k).length then (match readParts (parts k) ps Ord.zero [] with
  | none=>.error 1
  | some (o,name)=>if O.ck k o.d o.s o.n o.w=0 then put (O.words k o.d o.s o.n o.w) name ln st else .error (O.ck k o.d o.s o.n o.w)) else .error 4
def partsOf(rest:By):List By:=if rest=[] then [] else il rest comma
def readLine(l:By)(ln:Nat)(st:St):Except Int St :=
 if ic l [58] then readPlace (lq l [58]) st else
 if (bA l [32]).1=plain then readWord (partsOf (bA l [32]).2.1) ln st else readOrder (bA l [32]).1 (partsOf (bA l [32]).2.1) ln st
def readLines:Nat->By->Nat->St->Except (Nat × Int) St
 | 0,_,_,st=>.ok st
 | f+1,s,ln,st=>if s=[] then .ok st else
  if (bA s [10]).2.2 then (match readLine (bA s [10]).1 ln st with
   | .ok a=>readLines f (bA s [10]).2.1 (ln+1) a
   | .error e=>.error (ln,e)) else .error (ln,1)
def lay(places:List (By × Nat)):List (By × Nat × Nat)->By->Except (Nat × Int) By
 | [],rom=>.ok rom
 | θ::a,rom=>match places.find? (λp=>p.1 == θ.1) with
  | none=>.error (θ.2.2,5)
  | some p=>lay places a ((rom.set θ.2.1 (bF (p.2/256))).set (θ.2.1+1) (bF (p.2%256)))
def St.zero:St:=⟨[],[],[]⟩
def readText(s:By):Except (Nat × Int) By:=match readLines s.length s 0 St.zero with
 | .ok st=>lay st.places st.uses st.rom
 | .error e=>.error e
end Go.Proofs.YthghjlinhokimaaGreatDoor.S
namespace Go.Proofs.YthghjlinhokimaaGreatDoor.S
def readLines_nil(g ln:Nat)(st:St):readLines g [] ln st=.ok st:=by
 cases g with
 | zero=>rfl
 | succ g=>simp[readLines]
end Go.Proofs.YthghjlinhokimaaGreatDoor.S
namespace Go.Proofs.YthghjlinhokimaaGreatDoor
open Go.ChangeShapes Go.WideShapes Go.ChangeAt Go.RowKit Go.Proofs.Tryz
def xZ(c:UInt8)(w:u):Δ ω 359 #[J au c.toNat] w λe w'=>e=μ (ν (S.isDigit c))/\w'=w:=by
 by_cases h1:48<=c.toNat
 ·have a:(48:Int)<=c.toNat:=by omega
  by_cases h2:c.toNat<=57
  ·have b:(c.toNat:Int)<=57:=by omega
   have e:S.isDigit c=Γ:=by unfold S.isDigit;rw[aO h1,aO h2];rfl
   rw[e];clear e h1 h2;go_enter func359,ntmps359;go_wp2;go_ret;exact⟨D,D⟩
  ·have b:¬ (c.toNat:Int)<=57:=by omega
   have e:S.isDigit c=ξ:=by unfold S.isDigit;rw[aG h2];simp
   rw[e];clear e h1 h2;go_enter func359,ntmps359;go_wp2;go_ret;exact⟨D,D⟩
 ·have a:¬ (48:Int)<=c.toNat:=by omega
  have e:S.isDigit c=ξ:=by unfold S.isDigit;rw[aG h1];simp
  rw[e];clear e h1;go_enter func359,ntmps359;go_wp2;go_ret;exact⟨D,D⟩
def zyl(s:ByteArray)(c:UInt8)(b:s.size=2)(d:∀ h,s[0]'h=114)(h1:∀ h,s[1]'h=c)(hc:48<=c.toNat)(a:c.toNat<=55)(w:u):Δ ω 331 #[Ω s] w λe w'=>e=μ (Ψ #[J Q ((c.toNat:Int)-48),ν Γ])/\w'=w:=by
 have g1:¬ (c.toNat:Int)<48:=by omega
 have f:¬ (55:Int)<c.toNat:=by omega
 go_enter func331,ntmps331;go_wp2
 go_ret2
 exact⟨D,D⟩
def zym(s:ByteArray)(a:¬ (s.size:Int)=2)(w:u):Δ ω 331 #[Ω s] w λe w'=>e=μ (Ψ #[J Q 0,ν ξ])/\w'=w:=by
 have b:((s.size:Int) == 2)=ξ:=by simpa using a
 go_enter func331,ntmps331;go_wp2
 go_ret2
 exact⟨D,D⟩
def BG(s:ByteArray)(a:UInt8)(b:s.size=2)(c:∀ h,s[0]'h=a)(d:¬ (a.toNat:Int)=114)(w:u):Δ ω 331 #[Ω s] w λe w'=>e=μ (Ψ #[J Q 0,ν ξ])/\w'=w:=by
 go_enter func331,ntmps331;go_wp2
 go_ret2
 exact⟨D,D⟩
def zz5(s:ByteArray)(c:UInt8)(a:s.size=2)(b:∀ h,s[0]'h=114)(h1:∀ h,s[1]'h=c)(hc:(c.toNat:Int)<48)(w:u):Δ ω 331 #[Ω s] w λe w'=>e=μ (Ψ #[J Q 0,ν ξ])/\w'=w:=by
 go_enter func331,ntmps331;go_wp2
 go_ret2
 exact⟨D,D⟩
def zz6(s:ByteArray)(c:UInt8)(b:s.size=2)(d:∀ h,s[0]'h=114)(h1:∀ h,s[1]'h=c)(hc:¬ (c.toNat:Int)<48)(a:(55:Int)<c.toNat)(w:u):Δ ω 331 #[Ω s] w λe w'=>e=μ (Ψ #[J Q 0,ν ξ])/\w'=w:=by
 go_enter func331,ntmps331;go_wp2
 go_ret2
 exact⟨D,D⟩
theorem zpz(s:ByteArray):(bs s).length=s.size:=rfl
def Ah(s:ByteArray)(i:Nat)(c:UInt8)(h:(bs s)[i]?=A c):∀ a,s[i]'a=c:=by
 intro a;obtain⟨⟨l⟩⟩:=s;have b:i<l.length:=a;have:l[i]?=A c:=h;rw[aq b] at this;exact aL this
def zfr(s:ByteArray)(w:u):Δ ω 331 #[Ω s] w λe w'=>e=μ (Ψ #[J Q ((S.reg (bs s)).getD 0),ν (S.reg (bs s)).isSome])/\w'=w:=by
 by_cases b:s.size=2
 ·have d:=zpz s
  rw[b] at d
  match hb:bs s,d with
  | [a,c],_ =>
   have g:=Ah s 0 a (by rw[hb];rfl);have h1:=Ah s 1 c (by rw[hb];rfl);by_cases i:a=114
   ·subst i
    by_cases hc:48<=c.toNat
    ·by_cases f:c.toNat<=55
     ·have e:S.reg [114,c]=A ((c.toNat:Int)-48):=by simp[S.reg,hc,f]
      rw[e];exact zyl s c b g h1 hc f w
     ·have e:S.reg [114,c]=G:=by simp[S.reg];omega
      rw[e];exact zz6 s c b g h1 (by omega) (by omega) w
    ·have e:S.reg [114,c]=G:=by simp[S.reg];omega
     rw[e];exact zz5 s c b g h1 (by omega) w
   ·have e:S.reg [a,c]=G:=by simp[S.reg,i]
    have j:¬ (a.toNat:Int)=114:=by
     intro h;exact i (mS.1 (by rw[show (114:UInt8).toNat=114 from D];omega))
    rw[e];exact BG s a b g j w
 ·have d:=zpz s
  have e:S.reg (bs s)=G:=by
   unfold S.reg;split
   ·rename_i h;rw[h] at d;exact absurd d.symm b
   ·rfl
  rw[e];exact zym s (by omega) w
def zz7(s:ByteArray)(a:s.size=0)(w:u):Δ ω 324 #[Ω s] w λe w'=>e=μ (ν ξ)/\w'=w:=by
 go_enter func324,ntmps324;go_wp2;go_ret;exact⟨D,D⟩
def zss(s:ByteArray)(b:¬ (s.size:Int)<1)(a:12<(s.size:Int))(w:u):Δ ω 324 #[Ω s] w λe w'=>e=μ (ν ξ)/\w'=w:=by
 go_enter func324,ntmps324;go_wp2;go_ret;exact⟨D,D⟩
def zqH(s:ByteArray)(c:UInt8)(d:¬ (s.size:Int)<1)(a:¬ 12<(s.size:Int))(f:∀ h,s[0]'h=c)(g:S.isDigit c=Γ)(w:u):Δ ω 324 #[Ω s] w λe w'=>e=μ (ν ξ)/\w'=w:=by
 have b:0<s.size:=by omega
 go_enter func324,ntmps324;go_wp2_with (go_at_call 359;refine(xZ c _).mono ?_;rintro e w' ⟨rfl,rfl⟩)
 go_ret;exact⟨D,D⟩
def Ai(l:List UInt8)(k:Nat):Prop:=(l.take k).all S.nameCh=Γ
def zi8{l:List UInt8}{k:Nat}{c:UInt8}(h:Ai l k)(hc:l[k]?=A c)(a:S.nameCh c=Γ):Ai l (k+1):=by
 unfold Ai at h ⊢;rw[ek,hc];simp[h,a]
def zst{l:List UInt8}{k:Nat}{c:UInt8}(hc:l[k]?=A c)(a:S.nameCh c=ξ):l.all S.nameCh=ξ:=by
 cases h:l.all S.nameCh
 ·rfl
 ·have:=cx.1 h c (bu hc)
  rw[a] at this;cases this
def zsu(s:ByteArray)(c:UInt8)(v:¬ (s.size:Int)<1)(o:¬ 12<(s.size:Int))(y:∀ h,s[0]'h=c)(z:S.isDigit c=ξ)(w:u):Δ ω 324 #[Ω s] w λe w'=>e=μ (ν ((bs s).all S.nameCh && (S.reg (bs s)).isNone))/\w'=w:=by
 have p:0<s.size:=by omega
 have B:=zpz s;go_enter func324,ntmps324;go_wp2_with (go_at_call 359;refine(xZ c _).mono ?_;rintro e w' ⟨rfl,rfl⟩)
 go_loop [21] (λi=>∃ k:Nat,k<=s.size/\i=J Q k/\Ai (bs s) k) (λi=>s.size-(aU i).toNat)
 case atStart=>exact⟨0,by omega,D,D⟩
 case round =>
  obtain⟨k,E,rfl,a⟩:=hrel;by_cases q:k<s.size
  ·have m:(k:Int)<s.size:=by omega
   obtain⟨x,j⟩:∃ x,(bs s)[k]?=A x:=⟨_,aq (by omega)⟩
   have r:=Ah s k x j;cases d:S.isDigit x
   ·by_cases f:x=95
    ·subst f
     go_wp2_with (go_at_call 359;refine(xZ 95 _).mono ?_;rintro e w' ⟨rfl,rfl⟩)
     go_round
     case rel=>exact⟨k+1,by omega,by go_num,zi8 a j D⟩
     case measure=>simp[aU];omega
    ·have n:¬ (x.toNat:Int)=95:=by
      intro h;exact f (mS.1 (by rw[show (95:UInt8).toNat=95 from D];omega))
     have b:(x == 95)=ξ:=by simpa using f
     by_cases h1:(x.toNat:Int)<97
     ·have g:S.nameCh x=ξ:=by unfold S.nameCh;rw[d,b,aG (by omega)];rfl
      go_wp2_with (go_at_call 359;refine(xZ x _).mono ?_;rintro e w' ⟨rfl,rfl⟩)
      go_ret;rw[zst j g];exact⟨D,D⟩
     ·by_cases h2:122<(x.toNat:Int)
      ·have g:S.nameCh x=ξ:=by unfold S.nameCh;rw[d,b,aG (by omega:¬ x.toNat<=122)];simp
       go_wp2_with (go_at_call 359;refine(xZ x _).mono ?_;rintro e w' ⟨rfl,rfl⟩)
       go_ret;rw[zst j g];exact⟨D,D⟩
      ·have g:S.nameCh x=Γ:=by unfold S.nameCh;rw[aO (by omega:97<=x.toNat),aO (by omega:x.toNat<=122)];simp
       go_wp2_with (go_at_call 359;refine(xZ x _).mono ?_;rintro e w' ⟨rfl,rfl⟩)
       go_round
       case rel=>exact⟨k+1,by omega,by go_num,zi8 a j g⟩
       case measure=>simp[aU];omega
   ·have g:S.nameCh x=Γ:=by unfold S.nameCh;rw[d];rfl
    go_wp2_with (go_at_call 359;refine(xZ x _).mono ?_;rintro e w' ⟨rfl,rfl⟩)
    go_round
    case rel=>exact⟨k+1,by omega,by go_num,zi8 a j g⟩
    case measure=>simp[aU];omega
  ·have l:k=s.size:=by omega
   subst l;have t:(bs s).all S.nameCh=Γ:=by
    unfold Ai at a
    rwa [dY (by omega)] at a
   go_wp2_with (go_at_call 331;refine(zfr s _).mono ?_;rintro e w' ⟨rfl,rfl⟩)
   go_ret;rw[t];cases S.reg (bs s) <;> exact⟨D,D⟩
def zdX(s:ByteArray)(w:u):Δ ω 324 #[Ω s] w λe w'=>e=μ (ν (S.nameOk (bs s)))/\w'=w:=by
 have a:=zpz s;cases hb:bs s with
 | nil=>exact zz7 s (by rw[<- a,hb];rfl) w
 | cons c r =>
  have f:0<s.size:=by rw[<- a,hb];simp
  have b:=Ah s 0 c (by rw[hb];rfl);unfold S.nameOk;simp only;rw[<- hb,a];by_cases h12:s.size<=12
  ·rw[aO h12]
   cases d:S.isDigit c
   ·have:=zsu s c (by omega) (by omega) b d w
    simpa using this
   ·have:=zqH s c (by omega) (by omega) b d w
    simpa using this
  ·rw[aG h12]
   exact zss s (by omega) (by omega) w
def wI(g:Nat)(w:u):Δ ω 328 #[J Q 0,aB (A ⟨g,0,G⟩)] w λe w'=>e=μ (aB (A ⟨g,1,G⟩))/\w'=w:=by
 go_enter func328,ntmps328;go_wp2;go_ret;exact⟨D,D⟩
def wJ(g:Nat)(w:u):Δ ω 328 #[J Q 1,aB (A ⟨g,0,G⟩)] w λe w'=>e=μ (aB (A ⟨g,2,G⟩))/\w'=w:=by
 go_enter func328,ntmps328;go_wp2;go_ret;exact⟨D,D⟩
def wK(g:Nat)(w:u):Δ ω 328 #[J Q 2,aB (A ⟨g,0,G⟩)] w λe w'=>e=μ (aB (A ⟨g,4,G⟩))/\w'=w:=by
 go_enter func328,ntmps328;go_wp2;go_ret;exact⟨D,D⟩
def wL(g:Nat)(w:u):Δ ω 328 #[J Q 3,aB (A ⟨g,0,G⟩)] w λe w'=>e=μ (aB (A ⟨g,3,G⟩))/\w'=w:=by
 go_enter func328,ntmps328;go_wp2;go_ret;exact⟨D,D⟩
def zsw:(Tryz.prog.info? 374).map (λi=>(i.zero,i.size,i.bytes))=A (A (J Q 0),1,8):=by kernel_rfl
def zi9:∀ k:Nat,k<32->k≠30->O.ck k 1 0 0 0=(if O.hasC k 100 then 0 else 3)/\O.ck k 0 1 0 0=(if O.hasC k 115 then 0 else 3)/\O.ck k 0 0 0 1=(if O.hasC k 119 then 0 else 3)/\O.ck k 0 0 1 0=(if O.hasC k 110 then 0 else 3):=by decide +kernel
def qA(k j:Nat):List π:=((cM j).filter (λp=>O.hasC k (S.sgn p))).map (λp:Nat=>J Q p)
def zpA{k j:Nat}(h:O.hasC k (S.sgn j)=ξ):qA k (j+1)=qA k j:=by unfold qA;rw[gP,gE];simp[h]
def zja{k j:Nat}(h:O.hasC k (S.sgn j)=Γ):qA k (j+1)=qA k j++[J Q j]:=by unfold qA;rw[gP,gE];simp[h]
def wS(k j:Nat):(qA k j).length<=j:=by
 unfold qA;rw[bf];exact ax (iL _ _) (by simp)
def zpB(k:Nat)(c:k<32)(a:k≠30)(w:u)(d:br w):Δ ω 338 #[ac #[J Q k,J Q 1,J Q 0,J Q 0,J Q 0]] w λe w'=>e=μ (J Q (if O.hasC k 100 then 0 else 3))/\Below w.heap.size w w' :=
 (Ak k 1 0 0 0 w d).mono λe w' b=>⟨by rw[b.1,(zi9 k c a).1],b.2⟩
def zpC(k:Nat)(c:k<32)(a:k≠30)(w:u)(d:br w):Δ ω 338 #[ac #[J Q k,J Q 0,J Q 1,J Q 0,J Q 0]] w λe w'=>e=μ (J Q (if O.hasC k 115 then 0 else 3))/\Below w.heap.size w w' :=
 (Ak k 0 1 0 0 w d).mono λe w' b=>⟨by rw[b.1,(zi9 k c a).2.1],b.2⟩
def zpD(k:Nat)(c:k<32)(a:k≠30)(w:u)(d:br w):Δ ω 338 #[ac #[J Q k,J Q 0,J Q 0,J Q 0,J Q 1]] w λe w'=>e=μ (J Q (if O.hasC k 119 then 0 else 3))/\Below w.heap.size w w' :=
 (Ak k 0 0 0 1 w d).mono λe w' b=>⟨by rw[b.1,(zi9 k c a).2.2.1],b.2⟩
def zpE(k:Nat)(c:k<32)(a:k≠30)(w:u)(d:br w):Δ ω 338 #[ac #[J Q k,J Q 0,J Q 0,J Q 1,J Q 0]] w λe w'=>e=μ (J Q (if O.hasC k 110 then 0 else 3))/\Below w.heap.size w w' :=
 (Ak k 0 0 1 0 w d).mono λe w' b=>⟨by rw[b.1,(zi9 k c a).2.2.2],b.2⟩
def rX(v:π):v.ownBlock=G \/ v.ownBlock≠G:=by cases v.ownBlock with
 | none=>exact aj D
 | some g=>exact ao (by simp)
def zf0(k:Nat)(x:k<32)(n:k≠30)(w:u)(H:br w):Δ ω 327 #[J Q k] w λe w'=>∃ v,e=μ v/\w'.ownsRow w.heap.size 374 1 v (qA k 4).length (qA k 4)/\Below w.heap.size w w':=by
 obtain⟨i0,p,q,r,s⟩:=info_parts zsw;have y:=hid H;clear H;go_enter func327,ntmps327;go_wp2;go_loopw [3,4] (λl i wr=>∃ j:Nat,j<=4/\i=J Q j/\wr.ownsRow w.heap.size 374 1 l (qA k j).length (qA k j)/\Below w.heap.size w wr) (λ_ i _=>4-(aU i).toNat)
 case atStart=>exact⟨0,by omega,D,⟨D,aj ⟨D,D⟩⟩,bq _ _⟩
 case round =>
  obtain⟨j,z,rfl,b,c⟩:=hrel;have hc:j=0 \/ j=1 \/ j=2 \/ j=3 \/ j=4:=by omega
  have I:=c.size;rcases hc with rfl|rfl|rfl|rfl|rfl
  ·cases m:O.hasC k 100
   ·go_wp2_with (first
     | (go_at_call 328;refine(wI _ _).mono ?_;rintro e w' ⟨rfl,rfl⟩)
     | (go_at_call 338;refine(zpB k x n _ (pJ (y.out.kept c) _)).mono ?_;rw[m];rintro e w1 ⟨rfl,a⟩))
    go_roundw
    case rel=>exact⟨1,by omega,by go_num,by rw[zpA (j:=0) m];exact(b.alloc _).kept (rx a) (rX _),bw (stA c _) a⟩
    case measure=>simp[aU]
   ·go_wp2_with (first
     | (go_at_call 328;refine(wI _ _).mono ?_;rintro e w' ⟨rfl,rfl⟩)
     | (go_at_call 338;refine(zpB k x n _ (pJ (y.out.kept c) _)).mono ?_;rw[m];rintro e w1 ⟨rfl,a⟩;have d:=(b.alloc (χ #[J Q k,J Q 1,J Q 0,J Q 0,J Q 0] 191)).kept (rx a) (rX _);have f:=bw (stA c (χ #[J Q k,J Q 1,J Q 0,J Q 0,J Q 0] 191)) a)
     | (at_builtin;refine wpList_append_lies _ (by rfl) _ _ _ (by rfl) w.heap.size 374 i0 _ 1 8 underlying372 p q r s D (by omega) _ (qA k 0).length _ (by rfl) (d.alloc _) ⟨w1.heap.size,0,G⟩ 1 1 [J Q 0] (by rfl) (by rfl) (World.news_of_block (cs:=#[J Q 0]) (t:=374) (fr:=(0,0)) (aM w1 _)) (by simp[bi]) (by omega) (by have:=wS k 0;unfold dI;omega) (by have:=wS k 0;omega) (by have:=f.size;simp;omega) (w1.heap.size+1) (by simp) ?_;intro E cp F g h B o))
    go_roundw
    case rel=>exact⟨1,by omega,by go_num,by rw[zja (j:=0) m,az];exact g,(stA f _).grown h (stA f _).size (λj z=>(b.lt j z).1)⟩
    case measure=>simp[aU]
  ·cases m:O.hasC k 115
   ·go_wp2_with (first
     | (go_at_call 328;refine(wJ _ _).mono ?_;rintro e w' ⟨rfl,rfl⟩)
     | (go_at_call 338;refine(zpC k x n _ (pJ (y.out.kept c) _)).mono ?_;rw[m];rintro e w1 ⟨rfl,a⟩))
    go_roundw
    case rel=>exact⟨2,by omega,by go_num,by rw[zpA (j:=1) m];exact(b.alloc _).kept (rx a) (rX _),bw (stA c _) a⟩
    case measure=>simp[aU]
   ·go_wp2_with (first
     | (go_at_call 328;refine(wJ _ _).mono ?_;rintro e w' ⟨rfl,rfl⟩)
     | (go_at_call 338;refine(zpC k x n _ (pJ (y.out.kept c) _)).mono ?_;rw[m];rintro e w1 ⟨rfl,a⟩;have d:=(b.alloc (χ #[J Q k,J Q 0,J Q 1,J Q 0,J Q 0] 191)).kept (rx a) (rX _);have f:=bw (stA c (χ #[J Q k,J Q 0,J Q 1,J Q 0,J Q 0] 191)) a)
     | (at_builtin;refine wpList_append_lies _ (by rfl) _ _ _ (by rfl) w.heap.size 374 i0 _ 1 8 underlying372 p q r s D (by omega) _ (qA k 1).length _ (by rfl) (d.alloc _) ⟨w1.heap.size,0,G⟩ 1 1 [J Q 1] (by rfl) (by rfl) (World.news_of_block (cs:=#[J Q 1]) (t:=374) (fr:=(0,0)) (aM w1 _)) (by simp[bi]) (by omega) (by have:=wS k 1;unfold dI;omega) (by have:=wS k 1;omega) (by have:=f.size;simp;omega) (w1.heap.size+1) (by simp) ?_;intro E cp F g h B o))
    go_roundw
    case rel=>exact⟨2,by omega,by go_num,by rw[zja (j:=1) m,az];exact g,(stA f _).grown h (stA f _).size (λj z=>(b.lt j z).1)⟩
    case measure=>simp[aU]
  ·cases m:O.hasC k 119
   ·go_wp2_with (first
     | (go_at_call 328;refine(wK _ _).mono ?_;rintro e w' ⟨rfl,rfl⟩)
     | (go_at_call 338;refine(zpD k x n _ (pJ (y.out.kept c) _)).mono ?_;rw[m];rintro e w1 ⟨rfl,a⟩))
    go_roundw
    case rel=>exact⟨3,by omega,by go_num,by rw[zpA (j:=2) m];exact(b.alloc _).kept (rx a) (rX _),bw (stA c _) a⟩
    case measure=>simp[aU]
   ·go_wp2_with (first
     | (go_at_call 328;refine(wK _ _).mono ?_;rintro e w' ⟨rfl,rfl⟩)
     | (go_at_call 338;refine(zpD k x n _ (pJ (y.out.kept c) _)).mono ?_;rw[m];rintro e w1 ⟨rfl,a⟩;have d:=(b.alloc (χ #[J Q k,J Q 0,J Q 0,J Q 0,J Q 1] 191)).kept (rx a) (rX _);have f:=bw (stA c (χ #[J Q k,J Q 0,J Q 0,J Q 0,J Q 1] 191)) a)
     | (at_builtin;refine wpList_append_lies _ (by rfl) _ _ _ (by rfl) w.heap.size 374 i0 _ 1 8 underlying372 p q r s D (by omega) _ (qA k 2).length _ (by rfl) (d.alloc _) ⟨w1.heap.size,0,G⟩ 1 1 [J Q 2] (by rfl) (by rfl) (World.news_of_block (cs:=#[J Q 2]) (t:=374) (fr:=(0,0)) (aM w1 _)) (by simp[bi]) (by omega) (by have:=wS k 2;unfold dI;omega) (by have:=wS k 2;omega) (by have:=f.size;simp;omega) (w1.heap.size+1) (by simp) ?_;intro E cp F g h B o))
    go_roundw
    case rel=>exact⟨3,by omega,by go_num,by rw[zja (j:=2) m,az];exact g,(stA f _).grown h (stA f _).size (λj z=>(b.lt j z).1)⟩
    case measure=>simp[aU]
  ·cases m:O.hasC k 110
   ·go_wp2_with (first
     | (go_at_call 328;refine(wL _ _).mono ?_;rintro e w' ⟨rfl,rfl⟩)
     | (go_at_call 338;refine(zpE k x n _ (pJ (y.out.kept c) _)).mono ?_;rw[m];rintro e w1 ⟨rfl,a⟩))
    go_roundw
    case rel=>exact⟨4,by omega,by go_num,by rw[zpA (j:=3) m];exact(b.alloc _).kept (rx a) (rX _),bw (stA c _) a⟩
    case measure=>simp[aU]
   ·go_wp2_with (first
     | (go_at_call 328;refine(wL _ _).mono ?_;rintro e w' ⟨rfl,rfl⟩)
     | (go_at_call 338;refine(zpE k x n _ (pJ (y.out.kept c) _)).mono ?_;rw[m];rintro e w1 ⟨rfl,a⟩;have d:=(b.alloc (χ #[J Q k,J Q 0,J Q 0,J Q 1,J Q 0] 191)).kept (rx a) (rX _);have f:=bw (stA c (χ #[J Q k,J Q 0,J Q 0,J Q 1,J Q 0] 191)) a)
     | (at_builtin;refine wpList_append_lies _ (by rfl) _ _ _ (by rfl) w.heap.size 374 i0 _ 1 8 underlying372 p q r s D (by omega) _ (qA k 3).length _ (by rfl) (d.alloc _) ⟨w1.heap.size,0,G⟩ 1 1 [J Q 3] (by rfl) (by rfl) (World.news_of_block (cs:=#[J Q 3]) (t:=374) (fr:=(0,0)) (aM w1 _)) (by simp[bi]) (by omega) (by have:=wS k 3;unfold dI;omega) (by have:=wS k 3;omega) (by have:=f.size;simp;omega) (w1.heap.size+1) (by simp) ?_;intro E cp F g h B o))
    go_roundw
    case rel=>exact⟨4,by omega,by go_num,by rw[zja (j:=3) m,az];exact g,(stA f _).grown h (stA f _).size (λj z=>(b.lt j z).1)⟩
    case measure=>simp[aU]
  ·go_wp2
   go_ret;exact⟨_,D,b,c⟩
def zpF(op d s n ww:Int)(h1:O.isOp op=Γ)(h2:O.okB op.toNat d s n ww=Γ)(w:u)(b:br w):Δ ω 338 #[ac #[J Q op,J Q d,J Q s,J Q n,J Q ww]] w λe w'=>e=μ (J Q 0)/\Below w.heap.size w w':=by
 refine(Ak op d s n ww w b).mono λe w' a=>⟨a.1.trans ?_,a.2⟩
 unfold O.ck;rw[h1,h2];rfl
def wordsAt(w:u)(g:Nat)(l:List Int):Prop:=∀ i,i<l.length->w.cell? ⟨g,i,G⟩=A (J Y (l.getD i 0))
def zib(k d s n:Int)(h1:0<=k/\k<=31)(h2:0<=d/\d<=7)(h3:0<=s/\s<=7)(h4:-16<=n/\n<=15):bW .or Y (bW .or Y (bW .or Y (k*2048) (d*256)) (s*32)) (bW .and Y (IntKind.u16.wrap n) 31)=O.first k d s n:=by
 rw[O.low5 n h4,O.first_of k d s _ h1 h2 h3 (by omega)];rfl
def zsx(k:Nat)(d s n ww:Int)(h:k<32)(q:k≠30)(a:O.okB k d s n ww=Γ)(m:O.hasC k 119=ξ)(w:u)(f:br w):Δ ω 272 #[ac #[J Q k,J Q d,J Q s,J Q n,J Q ww]] w λe w'=>∃ g,e=μ (Ψ #[κ (A ⟨g,0,G⟩) 1 1,J Q 0])/\wordsAt w' g [O.first k d s n]/\w.heap.size<=g/\g<w'.heap.size/\Below w.heap.size w w':=by
 obtain⟨⟨r,d1⟩,⟨s0,s1⟩,⟨t,v⟩,⟨w0,x⟩⟩:=O.ok_bd a;have h1:=(O.isOp_iff k).2 (by omega);have o:lenOf (O.mask k)=1:=by have:=O.mask_w k h;rw[m] at this;unfold lenOf;rw[ae (by simpa using this.symm)]
 have y:=hid o;have z:=hid a;have B:=hid h1;have E:=hid f;have j:=f.lt;have p:0<w.heap.size:=iC (bh _) j;obtain⟨c0,c1,c2⟩:=f k h;clear f a h1 m o;go_enter func272,ntmps272;go_wp2_with (first
  | (go_at_call 338;refine(zpF _ _ _ _ _ B.out z.out _ (pJ E.out _)).mono ?_;rintro e w1 ⟨rfl,b⟩;obtain⟨F,H⟩:=cj b;have l:w.heap.size<w1.heap.size:=by have:=b.size;simp at this;omega)
  | (go_at_call 288;refine(sT _ _ k h _).mono ?_;rw[y.out];rintro e w2 ⟨rfl,c⟩))
 go_ret2
 refine⟨w2.heap.size,D,λi hi=>?_,iy (Θ l c.size),by simp,stA (bw (bw (stA (aR _) _) b) c) _⟩;obtain rfl:i=0:=by simpa using hi
 rw[zib k d s n (by omega) ⟨r,d1⟩ ⟨s0,s1⟩ ⟨t,v⟩];exact ly _ _ _ _ D
def zsy(k:Nat)(d s n ww:Int)(h:k<32)(r:k≠30)(a:O.okB k d s n ww=Γ)(o:O.hasC k 119=Γ)(w:u)(f:br w):Δ ω 272 #[ac #[J Q k,J Q d,J Q s,J Q n,J Q ww]] w λe w'=>∃ g,e=μ (Ψ #[κ (A ⟨g,0,G⟩) 2 2,J Q 0])/\wordsAt w' g [O.first k d s n,ww]/\w.heap.size<=g/\g<w'.heap.size/\Below w.heap.size w w':=by
 obtain⟨⟨t,d1⟩,⟨s0,s1⟩,⟨v,x⟩,⟨w0,y⟩⟩:=O.ok_bd a;have h1:=(O.isOp_iff k).2 (by omega);have p:lenOf (O.mask k)=2:=by have:=O.mask_w k h;rw[o] at this;unfold lenOf;rw[am (by simpa using this.symm)]
 have z:=hid p;have B:=hid a;have E:=hid h1;have F:=hid f;have j:=f.lt;have q:0<w.heap.size:=iC (bh _) j;obtain⟨c0,c1,c2⟩:=f k h;clear f a h1 o p;go_enter func272,ntmps272;go_wp2_with (first
  | (go_at_call 338;refine(zpF _ _ _ _ _ E.out B.out _ (pJ F.out _)).mono ?_;rintro e w1 ⟨rfl,b⟩;obtain⟨H,I⟩:=cj b;have l:w.heap.size<w1.heap.size:=by have:=b.size;simp at this;omega)
  | (go_at_call 288;refine(sT _ _ k h _).mono ?_;rw[z.out];rintro e w2 ⟨rfl,c⟩;obtain⟨L,M⟩:=cj c))
 go_ret2
 refine⟨w2.heap.size,D,λi hi=>?_,iy (Θ l c.size),by simp,stA (bw (bw (stA (aR _) _) b) c) _⟩;rw[zib k d s n (by omega) ⟨t,d1⟩ ⟨s0,s1⟩ ⟨v,x⟩];have m:i=0 \/ i=1:=by simp at hi;omega
 rcases m with rfl|rfl <;> exact ly _ _ _ _ D
def zkY(op d s n ww:Int)(h1:O.isOp op=Γ)(a:O.okB op.toNat d s n ww=Γ)(w:u)(b:br w):Δ ω 272 #[ac #[J Q op,J Q d,J Q s,J Q n,J Q ww]] w λe w' =>
  ∃ g,e=μ (Ψ #[κ (A ⟨g,0,G⟩) (O.words op d s n ww).length (O.words op d s n ww).length,J Q 0])/\wordsAt w' g (O.words op d s n ww)/\w.heap.size<=g/\g<w'.heap.size/\Below w.heap.size w w':=by
 obtain⟨a1,a2,a3⟩:=(O.isOp_iff op).1 h1;obtain⟨k,rfl⟩:=aA a1;rw[bR] at a;unfold O.words;rw[bR];cases hc:O.hasC k 119
 ·exact zsx k d s n ww (by omega) (by omega) a hc w b
 ·exact zsy k d s n ww (by omega) (by omega) a hc w b
def ze1(k:Nat)(d:k<32)(a:k≠30)(w:u)(c:br w):Δ ω 206 #[J Q k] w λe w'=>e=μ (Ψ #[Ω (O.nameS k),J Q 0])/\Below w.heap.size w w':=by
 have f:=hid c;clear c;go_enter func206,ntmps206;go_wp2_with (go_at_call 256;refine(tH k d a _ f.out).mono ?_;rintro e w1 ⟨rfl,b⟩)
 go_ret2
 exact⟨D,stA b _⟩
def zsA(op:Int)(h:O.isOp op=ξ)(w:u)(b:br w):Δ ω 206 #[J Q op] w λe w'=>e=μ (Ψ #[Ω ⟨#[]⟩,J Q 5])/\Below w.heap.size w w':=by
 have c:=hid b;clear b;have H:=hid h;clear h;go_enter func206,ntmps206;go_wp2_with (go_at_call 256;refine(zi7 op H.out _ c.out).mono ?_;rintro e w1 ⟨rfl,a⟩)
 go_ret2
 exact⟨D,stA a _⟩
end Go.Proofs.YthghjlinhokimaaGreatDoor
namespace Go.Proofs
open Go.Shelf
def Tryz.lays104_ren:Go.Shelf.Ren:=⟨fun|104=>257|211=>323|207=>358|n=>n,fun|9=>9|4=>4|24=>331|3=>3|n=>n,fun|n=>n⟩
def Tryz.lays104:Go.Proofs.Lays.n104 ω Tryz.lays104_ren:={
 mixed:=by kernel_rfl
 f104:=Tryz.func257.trans (congrArg A (by kernel_rfl))
 f207:=Tryz.func358.trans (congrArg A (by kernel_rfl))
 f211:=Tryz.func323.trans (congrArg A (by kernel_rfl))
 t3:=underlying3
 a3:=isAgg3
 z3:=sizeOf3
 v3:=zeroValue3
 t4:=underlying4
 a4:=isAgg4
 z4:=sizeOf4
 v4:=zeroValue4
 t9:=underlying9
 a9:=isAgg9
 z9:=sizeOf9
 v9:=zeroValue9
 t24:=underlying331
 a24:=isAgg331
 z24:=sizeOf331
 v24:=zeroValue331 }
open Go.RowKit in
def Tryz.strings_CutSuffix(s p:ByteArray)(w:u)(a:s.size<=9223372036854775807):Δ ω 257 #[Ω s,Ω p] w λe w'=>e=μ (Ψ #[Ω ⟨(lq s.data.toList p.data.toList).toArray⟩,ν (ic s.data.toList p.data.toList)])/\w'=w:=Any.strings_CutSuffix Tryz.lays104 s p w a
def Tryz.laysC172_ren:Go.Shelf.Ren:=⟨fun|172=>170|244=>229|245=>230|247=>263|279=>267|280=>268|281=>269|282=>270|287=>333|316=>335|171=>104|205=>336|321=>362|322=>363|243=>177|246=>238|283=>276|284=>277|285=>278|286=>279|129=>341|317=>340|318=>342|319=>343|320=>344|337=>367|338=>368|n=>n,fun|9=>9|3=>3|75=>175|76=>176|4=>4|5=>5|167=>340|37=>26|0=>0|85=>287|2=>2|168=>341|53=>350|175=>385|46=>304|210=>391|127=>256|145=>419|143=>417|21=>21|171=>349|173=>353|212=>397|51=>346|20=>20|213=>398|232=>436|233=>437|80=>180|n=>n,fun|15=>4|16=>5|17=>6|18=>9|19=>10|n=>n⟩
def Tryz.laysC172:Go.Proofs.LaysC.n172 ω Tryz.laysC172_ren:={
 mixed:=by kernel_rfl
 f129:=Tryz.func341.trans (congrArg A (by kernel_rfl))
 f171:=Tryz.func104.trans (congrArg A (by kernel_rfl))
 f172:=Tryz.func170.trans (congrArg A (by kernel_rfl))
 f205:=Tryz.func336.trans (congrArg A (by kernel_rfl))
 f243:=Tryz.func177.trans (congrArg A (by kernel_rfl))
 f244:=Tryz.func229.trans (congrArg A (by kernel_rfl))
 f245:=Tryz.func230.trans (congrArg A (by kernel_rfl))
 f246:=Tryz.func238.trans (congrArg A (by kernel_rfl))
 f247:=Tryz.func263.trans (congrArg A (by kernel_rfl))
 f279:=Tryz.func267.trans (congrArg A (by kernel_rfl))
 f280:=Tryz.func268.trans (congrArg A (by kernel_rfl))
 f281:=Tryz.func269.trans (congrArg A (by kernel_rfl))
 f282:=Tryz.func270.trans (congrArg A (by kernel_rfl))
 f283:=Tryz.func276.trans (congrArg A (by kernel_rfl))
 f284:=Tryz.func277.trans (congrArg A (by kernel_rfl))
 f285:=Tryz.func278.trans (congrArg A (by kernel_rfl))
 f286:=Tryz.func279.trans (congrArg A (by kernel_rfl))
 f287:=Tryz.func333.trans (congrArg A (by kernel_rfl))
 f316:=Tryz.func335.trans (congrArg A (by kernel_rfl))
 f317:=Tryz.func340.trans (congrArg A (by kernel_rfl))
 f318:=Tryz.func342.trans (congrArg A (by kernel_rfl))
 f319:=Tryz.func343.trans (congrArg A (by kernel_rfl))
 f320:=Tryz.func344.trans (congrArg A (by kernel_rfl))
 f321:=Tryz.func362.trans (congrArg A (by kernel_rfl))
 f322:=Tryz.func363.trans (congrArg A (by kernel_rfl))
 f337:=Tryz.func367.trans (congrArg A (by kernel_rfl))
 f338:=Tryz.func368.trans (congrArg A (by kernel_rfl))
 t0:=underlying0
 a0:=isAgg0
 z0:=sizeOf0
 v0:=zeroValue0
 t2:=underlying2
 a2:=isAgg2
 z2:=sizeOf2
 v2:=zeroValue2
 t3:=underlying3
 a3:=isAgg3
 z3:=sizeOf3
 v3:=zeroValue3
 t4:=underlying4
 a4:=isAgg4
 z4:=sizeOf4
 v4:=zeroValue4
 t5:=underlying5
 a5:=isAgg5
 z5:=sizeOf5
 v5:=zeroValue5
 t9:=underlying9
 a9:=isAgg9
 z9:=sizeOf9
 v9:=zeroValue9
 t20:=underlying20
 a20:=isAgg20
 z20:=sizeOf20
 v20:=zeroValue20
 t21:=underlying21
 a21:=isAgg21
 z21:=sizeOf21
 v21:=zeroValue21
 t37:=underlying26
 a37:=isAgg26
 z37:=sizeOf26
 v37:=zeroValue26
 t46:=underlying304
 a46:=isAgg304
 z46:=sizeOf304
 v46:=zeroValue304
 t51:=underlying346
 a51:=isAgg346
 z51:=sizeOf346
 v51:=zeroValue346
 t53:=underlying350
 a53:=isAgg350
 z53:=sizeOf350
 v53:=zeroValue350
 t75:=underlying175
 a75:=isAgg175
 z75:=sizeOf175
 v75:=zeroValue175
 t76:=underlying176
 a76:=isAgg176
 z76:=sizeOf176
 v76:=zeroValue176
 t85:=underlying287
 a85:=isAgg287
 z85:=sizeOf287
 v85:=zeroValue287
 t127:=underlying256
 a127:=isAgg256
 z127:=sizeOf256
 v127:=zeroValue256
 t143:=underlying417
 a143:=isAgg417
 z143:=sizeOf417
 v143:=zeroValue417
 t145:=underlying419
 a145:=isAgg419
 z145:=sizeOf419
 v145:=zeroValue419
 t167:=underlying340
 a167:=isAgg340
 z167:=sizeOf340
 v167:=zeroValue340
 t168:=underlying341
 a168:=isAgg341
 z168:=sizeOf341
 v168:=zeroValue341
 t171:=underlying349
 a171:=isAgg349
 z171:=sizeOf349
 v171:=zeroValue349
 t173:=underlying353
 a173:=isAgg353
 z173:=sizeOf353
 v173:=zeroValue353
 t175:=underlying385
 a175:=isAgg385
 z175:=sizeOf385
 v175:=zeroValue385
 t210:=underlying391
 a210:=isAgg391
 z210:=sizeOf391
 v210:=zeroValue391
 t212:=underlying397
 a212:=isAgg397
 z212:=sizeOf397
 v212:=zeroValue397
 t213:=underlying398
 a213:=isAgg398
 z213:=sizeOf398
 t232:=underlying436
 a232:=isAgg436
 z232:=sizeOf436
 v232:=zeroValue436
 t233:=underlying437
 a233:=isAgg437
 z233:=sizeOf437
 v233:=zeroValue437
 g15:=by kernel_rfl
 g16:=by kernel_rfl
 g17:=by kernel_rfl
 g18:=by kernel_rfl
 g19:=by kernel_rfl
 t80:=underlying180
 a80:=isAgg180
 z80:=sizeOf180
 v80:=zeroValue180
 i0:=by kernel_rfl
 i2:=by kernel_rfl
 i3:=by kernel_rfl
 i4:=by kernel_rfl
 i5:=by kernel_rfl
 i9:=by kernel_rfl
 i20:=by kernel_rfl
 i21:=by kernel_rfl
 i37:=by kernel_rfl
 i46:=by kernel_rfl
 i51:=by kernel_rfl
 i53:=by kernel_rfl
 i75:=by kernel_rfl
 i76:=by kernel_rfl
 i80:=by kernel_rfl
 i85:=by kernel_rfl
 i127:=by kernel_rfl
 i143:=by kernel_rfl
 i145:=by kernel_rfl
 i167:=by kernel_rfl
 i168:=by kernel_rfl
 i171:=by kernel_rfl
 i173:=by kernel_rfl
 i175:=by kernel_rfl
 i210:=by kernel_rfl
 i212:=by kernel_rfl
 i232:=by kernel_rfl
 i233:=by kernel_rfl
 m15:=by kernel_rfl
 m16:=by kernel_rfl
 m17:=by kernel_rfl
 m18:=by kernel_rfl
 m19:=by kernel_rfl
 c0:=by kernel_rfl
 c2:=by kernel_rfl
 c3:=by kernel_rfl
 c4:=by kernel_rfl
 c5:=by kernel_rfl
 c9:=by kernel_rfl
 c20:=by kernel_rfl
 c21:=by kernel_rfl
 c37:=by kernel_rfl
 c46:=by kernel_rfl
 c51:=by kernel_rfl
 c53:=by kernel_rfl
 c75:=by kernel_rfl
 c76:=by kernel_rfl
 c80:=by kernel_rfl
 c85:=by kernel_rfl
 c127:=by kernel_rfl
 c143:=by kernel_rfl
 c145:=by kernel_rfl
 c167:=by kernel_rfl
 c168:=by kernel_rfl
 c171:=by kernel_rfl
 c173:=by kernel_rfl
 c175:=by kernel_rfl
 c210:=by kernel_rfl
 c212:=by kernel_rfl
 c213:=by kernel_rfl
 c232:=by kernel_rfl
 c233:=by kernel_rfl }
open Go.RowKit in
def Tryz.strconv_Atoi_ok(s:ByteArray)(a:s.size<=9223372036854775806)(v:Int)(h:gU s.data.toList=.ok v)(w:u):Δ ω 170 #[Ω s] w λe w'=>e=μ (Ψ #[J Q v,.nilIface])/\(w'=w \/ ∃ t,w'=Lib.bytesWorld w 5 t):=Any.strconv_Atoi_ok Tryz.laysC172 s a v h w
def Tryz.lays138_ren:Go.Shelf.Ren:=⟨fun|138=>66|195=>124|218=>125|143=>126|219=>175|217=>234|225=>235|224=>236|267=>237|266=>274|314=>275|n=>n,fun|9=>9|3=>3|4=>4|5=>5|0=>0|46=>304|146=>347|51=>346|n=>n,fun|1=>0|n=>n⟩
def Tryz.lays138:Go.Proofs.Lays.n138 ω Tryz.lays138_ren:={
 mixed:=by kernel_rfl
 f138:=Tryz.func66.trans (congrArg A (by kernel_rfl))
 f143:=Tryz.func126.trans (congrArg A (by kernel_rfl))
 f195:=Tryz.func124.trans (congrArg A (by kernel_rfl))
 f217:=Tryz.func234.trans (congrArg A (by kernel_rfl))
 f218:=Tryz.func125.trans (congrArg A (by kernel_rfl))
 f219:=Tryz.func175.trans (congrArg A (by kernel_rfl))
 f224:=Tryz.func236.trans (congrArg A (by kernel_rfl))
 f225:=Tryz.func235.trans (congrArg A (by kernel_rfl))
 f266:=Tryz.func274.trans (congrArg A (by kernel_rfl))
 f267:=Tryz.func237.trans (congrArg A (by kernel_rfl))
 f314:=Tryz.func275.trans (congrArg A (by kernel_rfl))
 t0:=underlying0
 a0:=isAgg0
 z0:=sizeOf0
 v0:=zeroValue0
 t3:=underlying3
 a3:=isAgg3
 z3:=sizeOf3
 v3:=zeroValue3
 t4:=underlying4
 a4:=isAgg4
 z4:=sizeOf4
 v4:=zeroValue4
 t5:=underlying5
 a5:=isAgg5
 z5:=sizeOf5
 v5:=zeroValue5
 t9:=underlying9
 a9:=isAgg9
 z9:=sizeOf9
 v9:=zeroValue9
 t46:=underlying304
 a46:=isAgg304
 z46:=sizeOf304
 v46:=zeroValue304
 t51:=underlying346
 a51:=isAgg346
 z51:=sizeOf346
 v51:=zeroValue346
 t146:=underlying347
 a146:=isAgg347
 z146:=sizeOf347
 v146:=zeroValue347
 g1:=by kernel_rfl }
open Go.RowKit Go.Lib in
def Tryz.strings_Count_one(s:ByteArray)(c:UInt8)(w:u):Δ ω 66 #[Ω s,Ω ⟨#[c]⟩] w λe w'=>e=μ (J Q (Lib.countByte s.data.toList c))/\w'=w:=Any.strings_Count_one Tryz.lays138 s c w
end Go.Proofs
namespace Go.Proofs.YthghjlinhokimaaGreatDoor
open Go.ChangeShapes Go.WideShapes Go.ChangeAt Go.RowKit Go.Proofs.Tryz
structure AF (w : u) : Prop where
 pow:fm ω w "internal/strconv.uint64pow10" .u64 iZ
 len:∃ m,w.cell? ⟨0,0,G⟩=A (J Q m)
 shapes:br w
def g_pow:Tryz.prog.globalNamed "internal/strconv.uint64pow10" = A 6:=by kernel_rfl
def AF.kept{w w':u}(h:AF w)(hb:Below w.heap.size w w'):AF w':=by
 obtain⟨t,⟨m,a⟩,s⟩:=h;exact⟨Joins.tab_stays g_pow t hb (ψ _),⟨m,(hb.cell (aC w _ a)).trans a⟩,s.kept hb⟩
def rZ{w:u}(h:AF w)(o:Obj):AF (w.alloc o):=h.kept (stA (aR _) _)
def aT(l:List UInt8):ByteArray:=⟨l.toArray⟩
def mk_bs(s:ByteArray):aT (bs s)=s:=by obtain⟨⟨l⟩⟩:=s;rfl
theorem sK(l:List UInt8):bs (aT l)=l:=rfl
theorem sU(l:List UInt8):(aT l).size=l.length:=rfl
def zm7(w:u)(k:Nat)(os:Array Obj):Below w.heap.size w (Sort.grow (w.drewN k) os):=by
 have h:∀ k,Below w.heap.size w (w.drewN k):=λk=>by
  induction k with
  | zero=>exact aR w
  | succ k a=>exact a.drew
 refine(h k).trans ⟨D,D,D,by simp[Sort.grow],λi hi=>?_⟩;have:(w.drewN k).heap.size=w.heap.size:=by simp
 show ((w.drewN k).heap++os)[i]?=_;rw[lx (by omega)]
def rp(n:Int)(a:-9223372036854775808<=n)(h1:n<=9223372036854775807)(w:u)(h:AF w):Δ ω 104 #[J Q n] w λe w'=>e=μ (Ω (aT (ba n)))/\Below w.heap.size w w':=by
 refine(Tryz.strconv_Itoa n a h1 w h.pow).mono λe w' ⟨b,k,os,c⟩=>⟨b,?_⟩
 subst c;exact zm7 w k os
def t7(p:Nat):Nat:=if p=0 then 1 else if p=1 then 2 else if p=2 then 4 else 3
def ny(k:Nat)(o:S.Ord):Array π:=#[J Q k,J Q o.d,J Q o.s,J Q o.n,J Q o.w]
def zAi{k j:Nat}{p:Nat}(h:(S.parts k)[j]?=A p):(qA k 4)[j]?=A (J Q p):=by
 unfold qA;rw[bn];have:((cM 4).filter (λp=>O.hasC k (S.sgn p)))[j]?=A p:=h;rw[this];rfl
def zm8(k:Nat):(qA k 4).length=(S.parts k).length:=by unfold qA S.parts;rw[bf]
def zjc{k j p:Nat}(h:(S.parts k)[j]?=A p):p<4:=by
 have:=bu h;unfold S.parts at this;have:=(ju.1 this).1
 simpa using this
def yW(k:Nat):(S.parts k).length<=4:=by
 unfold S.parts;exact ax (iL _ _) (by simp)
def zdY{w:u}{B:Nat}{t:aJ}{v:π}{n:Nat}{xs:List π}(h:w.ownsRow B t 1 v n xs)(f:0<n):∃ g a,v=κ (A ⟨g,0,G⟩) n a/\B<=g/\g<w.heap.size/\n<=a /\ ∀ j,j<n->w.cell? ⟨g,j,G⟩=xs[j]?:=by
 obtain⟨i,h⟩:=h;rcases h with⟨_,k⟩|⟨g,a,b,rfl,hB,hb,hc,_,d,e⟩
 ·omega
 ·refine⟨g,a,D,hB,(aa.1 hb).1,hc,λj l=>?_⟩
  simp only[World.cell?,hb];have c:j<b.size:=by rw[d];omega
  rw[<- e,dN (by omega)];simp[c]
def zsC{w:u}{B:Nat}{t:aJ}{v:π}{n:Nat}{xs:List π}(h:w.ownsRow B t 1 v n xs)(c:n=0):∃ a b,v=κ a 0 b:=by
 subst c;rcases h.2 with⟨h,_⟩|⟨g,b,d,h,_⟩
 ·exact⟨_,_,h⟩
 ·exact⟨_,_,h⟩
def zkZ(k:Nat)(f:k<32)(d:k≠30)(hp:S.parts k=[])(w:u)(g:br w):Δ ω 327 #[J Q k] w λe w'=>∃ a b,e=μ (κ a 0 b)/\Below w.heap.size w w':=by
 refine(zf0 k f d w g).mono λe w' ⟨v,h,c,hb⟩=>?_
 obtain⟨a,b,rfl⟩:=zsC c (by rw[zm8,hp];rfl);exact⟨a,b,h,hb⟩
def qZ(w:u)(g k:Nat):Prop:=∀ j p:Nat,(S.parts k)[j]?=A p->w.cell? ⟨g,j,G⟩=A (J Q p)
def zk0(k:Nat)(h:k<32)(c:k≠30)(hp:0<(S.parts k).length)(w:u)(i:br w):Δ ω 327 #[J Q k] w λe w'=>∃ g a,e=μ (κ (A ⟨g,0,G⟩) (S.parts k).length a)/\qZ w' g k/\w.heap.size<=g/\g<w'.heap.size/\(S.parts k).length<=a/\Below w.heap.size w w':=by
 refine(zf0 k h c w i).mono λe w' ⟨v,d,b,hb⟩=>?_
 obtain⟨g,a,rfl,h1,h2,h3,h4⟩:=zdY b (by rw[zm8];exact hp);rw[zm8] at d h3 h4;refine⟨g,a,d,λj p f=>?_,h1,h2,h3,hb⟩;rw[h4 j (ay.1 f).1,zAi f]
def qZ.kept{w w':u}{g k B:Nat}(h:qZ w g k)(hb:Below B w w')(hB:g<B):qZ w' g k:=λj p a=>(hb.cell hB).trans (h j p a)
def zna(k:Nat)(a:k≠30):O.nameS k=aT (K.row k).1:=by unfold O.nameS;rw[ae a];rfl
def iJ(w:u)(g o:Nat)(l:List UInt8):Prop:=∀(j:Nat) (c:UInt8),l[j]?=A c->w.cell? ⟨g,o+j,G⟩=A (J au c.toNat)
def rq{w a:u}(h:Below w.heap.size w a)(k:Nat):Below w.heap.size w (a.drewN k):=by
 induction k with
 | zero=>exact h
 | succ k b=>exact b.drew
def byteCells_append(a b:List UInt8):aV a++aV b=aV (a++b):=by
 first|rfl|simp[aV]
def zcS(a:List UInt8):(aV a).length=a.length:=by
 first|rfl|simp[aV]
def jF(w:u)(v:π)(l:List UInt8):Prop:=(∃ a b,v=κ a 0 b/\l=[]) \/ ∃ g o b,v=κ (A ⟨g,o,G⟩) l.length b/\l.length<=b/\g<w.heap.size/\iJ w g o l
def kM(w:u)(b:Nat)(l:List (ByteArray × Int)):Prop :=
 ∃ es clock,w.heap[b]?=A (.map es clock)/\es.toList.map (λe=>(e.key,e.val))=l.map (λp=>(Ω p.1,J Q p.2))
def qD(a b:ByteArray):(a == b)=decide (a=b):=by
 cases h:(a == b)
 ·rw[qV,eO];intro e;rw[(jP a b).2 e] at h;cases h
 ·rw[qV,cu];exact(jP a b).1 h
def zsE(op:ByteArray):∀(es:List MapEntry) (l:List (ByteArray × Int)),es.map (λe=>(e.key,e.val))=l.map (λp=>(Ω p.1,J Q p.2))->∀ i:Nat,
 ∃ r,eB .string (Ω op) es i=A r/\r.map (·.2)=(l.find? (λp=>p.1 == op)).map (λp=>J Q p.2)
 | [],[],_,i=>⟨G,D,D⟩
 | [],_::_,h,_=>by cases h
 | _::_,[],h,_=>by cases h
 | e::es,p::l,h,i=>by
  simp only[cI,eF,gv] at h;obtain⟨⟨b,d⟩,h⟩:=h;by_cases c:p.1=op
  ·refine⟨A (i,e.val),?_,?_⟩
   ·simp[eB,b,jm,c,qD]
   ·simp[c,d,qD]
  ·obtain⟨r,h1,h2⟩:=zsE op es l h (i+1)
   refine⟨r,?_,?_⟩
   ·have a:(op == p.1)=ξ:=by rw[qD,eO];exact λe=>c e.symm
    simp[eB,b,jm,a,h1]
   ·have a:(p.1 == op)=ξ:=by rw[qD,eO];exact c
    rw[h2,mT,a]
def zk4(w:u):kM (w.alloc (.map #[] 0)) w.heap.size []:=⟨#[],0,(jD w _).1,D⟩
def kM.lt{w:u}{b:Nat}{l:List (ByteArray × Int)}(h:kM w b l):b<w.heap.size:=by
 obtain⟨es,c,hb,_⟩:=h;exact(aa.1 hb).1
def kM.of_block{w w':u}{b:Nat}{l:List (ByteArray × Int)}(h:kM w b l)(e:w'.heap[b]?=w.heap[b]?):kM w' b l:=by
 obtain⟨es,c,hb,a⟩:=h;exact⟨es,c,e.trans hb,a⟩
def kM.below{w w':u}{b B:Nat}{l:List (ByteArray × Int)}(h:kM w b l)(hb:Below B w w')(hB:b<B):kM w' b l:=h.of_block (hb.block b hB)
def zpL{P:bX}{t k e:aJ}(g:P.underlying t=A (.map k e))(d:P.underlying k=A .string){w:u}{b:Nat}{l:List (ByteArray × Int)}(h:kM w b l)(x:ByteArray)(v:Int)
 (j:l.find? (λp=>p.1 == x)=G):∃ w',(fV t (.map (A b)) (Ω x) (J Q v)).run P w=.ok () w'/\kM w' b (l++[(x,v)])/\w.grownBy w' (A b):=by
 obtain⟨es,c,hb,f⟩:=h;obtain⟨r,h1,h2⟩:=zsE x es.toList l f 0;have m:r=G:=by
  cases r with
  | none=>rfl
  | some q=>simp[j] at h2
 subst m;have hc:(gD ξ 10000 k (Ω x)).run P w=.ok () w:=dR (k:=Ω x) d (by simp[ie]) ξ 9999;refine⟨{ w with heap:=w.heap.setIfInBounds b (.map (es.push { key:=Ω x,val:=J Q v,born:=c }) (c+1)) },?_,?_,?_⟩
 ·simp[fV,cQ g,cJ hb,hc,cU d h1,iD _ hb,aE]
 ·exact⟨_,_,(eK hb).1,by simp[f]⟩
 ·exact⟨D,D,D,by simp,λi hi a=>(eK hb).2 i (λe=>a (by rw[e]))⟩
def zjh{P:bX}{t k e:aJ}(f:P.underlying t=A (.map k e))(a:P.underlying k=A .string){w:u}{b:Nat}{l:List (ByteArray × Int)}(h:kM w b l)(x:ByteArray)
 (j:(zeroValue e).run P w=.ok (J Q 0) w):(dV t (.map (A b)) (Ω x) Γ).run P w =
  .ok (Ψ #[J Q (((l.find? (λp=>p.1 == x)).map (·.2)).getD 0),ν (l.find? (λp=>p.1 == x)).isSome]) w:=by
 obtain⟨es,c,hb,m⟩:=h;obtain⟨r,h1,h2⟩:=zsE x es.toList l m 0;have hc:∀ d,(gD d 10000 k (Ω x)).run P w=.ok () w:=λd=>dR (k:=Ω x) a (by simp[ie]) d 9999
 cases r with
 | none =>
  have n:l.find? (λp=>p.1 == x)=G:=by simpa using h2.symm
  rw[n];simp[dV,cQ f,cJ hb,hc,cU a h1,j,aE]
 | some q =>
  obtain⟨i,v⟩:=q;cases g:l.find? (λp=>p.1 == x) with
  | none=>simp[g] at h2
  | some y =>
   simp[g] at h2;simp[dV,cQ f,cJ hb,hc,cU a h1,aE,h2]
def zg7{P:bX}(w:u){ops:Array cG}{rest:List cG}{o:cG}{a:Act}{η:Exit->Act->u->Prop}
 (g:o.guard=G) (m x v:Operand) (t:aJ) (d:o.op=Op.mapUpdate t m x v) (k e:aJ) (i:P.underlying t=A (.map k e)) (j:P.underlying k=A .string)
 (b:Nat) (l:List (ByteArray × Int)) (n:a.eval m=.map (A b)) (h:kM w b l) (key:ByteArray) (val:Int) (q:a.eval x=Ω key) (r:a.eval v=J Q val) (s:l.find? (λp=>p.1 == key)=G)
 (y:∀ w',kM w' b (l++[(key,val)])->w.grownBy w' (A b)->dg P ops η rest (a.put o.dst dF) w'):dg P ops η (o::rest) a w:=by
 refine gj g λz f=>?_
 obtain⟨w',c,r1,r2⟩:=zpL i j h key val s;unfold Oper.wp;simp[execOp,d,n,q,r,c,aE];exact f _ _ (y w' r1 r2)
/-! ### the orders by their names -/
def j0(j:Nat):List (ByteArray × Int):=((cM j).filter (λk=>k != 30)).map (λk=>(O.nameS k,(k:Int)))
def zvK:∀ j,j<32->j≠30->(j0 j).find? (λp=>p.1 == O.nameS j)=G:=by decide +kernel
def zqJ{j:Nat}(h:j≠30):j0 (j+1)=j0 j++[(O.nameS j,(j:Int))]:=by
 unfold j0;rw[gP,gE];simp[h]
def zvL:j0 31=j0 30:=by
 unfold j0;rw[show (31:Nat)=30+1 from D,gP,gE];simp
def zsF{α β:Type}(f:α->β)(p:α->Bool)(q:β->Bool):∀ l:List α,((l.filter p).map f).find? q=(l.find? (λx=>p x && q (f x))).map f
 | []=>rfl
 | a::l=>by
  have b:=zsF f p q l;cases hp:p a
  ·simp[hp,b]
  ·cases c:q (f a)
   ·simp[hp,c,b]
   ·simp[hp,c]
def xE(l:List UInt8)(c:ByteArray):(aT l == c)=(l == bs c):=by
 rw[qD];by_cases h:l=bs c
 ·subst h;rw[mk_bs];simp
 ·have:¬ aT l=c:=λe=>h (by rw[<- e];rfl)
  rw[aG this];simp[h]
def zvM(c:ByteArray):(j0 32).find? (λp=>p.1 == c)=(S.opOf (bs c)).map (λk=>(O.nameS k,(k:Int))):=by
 unfold j0 S.opOf;rw[zsF];congr 1;congr 1;funext k
 by_cases h:k=30
 ·subst h;rfl
 ·have e:O.nameS k=aT (K.row k).1:=zna k h
  rw[e,xE]
/-! ### the reader -/
def pl(l:List (S.By × Nat)):List (ByteArray × Int):=l.map (λp=>(aT p.1,(p.2:Int)))
def zsG(l:List (S.By × Nat))(c:ByteArray):(pl l).find? (λp=>p.1 == c)=(l.find? (λp=>p.1 == bs c)).map (λp=>(aT p.1,(p.2:Int))):=by
 unfold pl;rw[List.find?_map];congr 2;funext p
 exact xE p.1 c
def iF:List (S.By × Nat × Nat)->List π
 | []=>[]
 | θ::a=>[Ω (aT θ.1),J Q θ.2.1,J Q θ.2.2]++iF a
def zem:∀ l (θ:S.By × Nat × Nat),iF (l++[θ])=iF l++[Ω (aT θ.1),J Q θ.2.1,J Q θ.2.2]
 | [],θ=>rfl
 | v::a,θ=>by simp[iF,zem a θ]
structure Rd (w : u) (B b mo mp : Nat) (ua : Option cK) (uc : Nat) (ra : Option cK) (rc : Nat) (st : S.St) (ln : Nat) : Prop where
 hB:B<=b
 blk:w.heap[b]?=A (χ #[.map (A mo),.map (A mp),κ ua st.uses.length uc,κ ra st.rom.length rc,J Q ln] 220 (0,0))
 ops:kM w mo (j0 32)
 places:kM w mp (pl st.places)
 hmp:B<=mp
 ne:mo≠mp
 uses:w.ownsRow B 277 3 (κ ua st.uses.length uc) st.uses.length (iF st.uses)
 rom:w.ownsRow B 5 1 (κ ra st.rom.length rc) st.rom.length (aV st.rom)
section
variable {w w' : u} {B b mo mp : Nat} {ua ra : Option cK} {uc rc : Nat} {st : S.St} {ln : Nat}
def Rd.lt(h:Rd w B b mo mp ua uc ra rc st ln):b<w.heap.size:=(aa.1 h.blk).1
def Rd.cell(h:Rd w B b mo mp ua uc ra rc st ln)(i:Nat):w.cell? ⟨b,i,G⟩=(#[.map (A mo),.map (A mp),κ ua st.uses.length uc,κ ra st.rom.length rc,J Q ln]:Array π)[i]?:=Lib.cell_of_heap h.blk i
def Rd.frozen(h:Rd w B b mo mp ua uc ra rc st ln)(i:Nat):w.frozen? ⟨b,i,G⟩=ξ:=Lib.frozen_of_heap h.blk i
def Rd.kept(h:Rd w B b mo mp ua uc ra rc st ln)(hb:Below w.heap.size w w'):Rd w' B b mo mp ua uc ra rc st ln :=
 ⟨h.hB,(hb.block b h.lt).trans h.blk,h.ops.below hb h.ops.lt,h.places.below hb h.places.lt,h.hmp,h.ne,h.uses.kept (rx hb) (rX _),h.rom.kept (rx hb) (rX _)⟩
def wg{w:u}{B:Nat}{e:aJ}{s:Nat}{v:π}{n:Nat}{xs:List π}{x:Nat}{o:Obj}(b:w.ownsRow B e s v n xs)(hb:w.heap[x]?=A o)(c:∀ a,o ≠ χ a e (0,0)):v.ownBlock≠A x:=by
 rcases b.2 with⟨rfl,_⟩|⟨g,d,a,rfl,_,f,_⟩
 ·simp[im]
 ·intro h
  simp only[im,aZ] at h;subst h;rw[f] at hb;exact c a (aL hb).symm
def Rd.rom_b(h:Rd w B b mo mp ua uc ra rc st ln):(κ ra st.rom.length rc).ownBlock≠A b:=wg h.rom h.blk (λa e=>by simp at e)
def Rd.uses_b(h:Rd w B b mo mp ua uc ra rc st ln):(κ ua st.uses.length uc).ownBlock≠A b:=wg h.uses h.blk (λa e=>by simp at e)
def Rd.rom_mp(h:Rd w B b mo mp ua uc ra rc st ln):(κ ra st.rom.length rc).ownBlock≠A mp:=by
 obtain⟨es,c,hb,_⟩:=h.places;exact wg h.rom hb (λa e=>by simp at e)
def Rd.uses_mp(h:Rd w B b mo mp ua uc ra rc st ln):(κ ua st.uses.length uc).ownBlock≠A mp:=by
 obtain⟨es,c,hb,_⟩:=h.places;exact wg h.uses hb (λa e=>by simp at e)
def Rd.rom_mo(h:Rd w B b mo mp ua uc ra rc st ln):(κ ra st.rom.length rc).ownBlock≠A mo:=by
 obtain⟨es,c,hb,_⟩:=h.ops;exact wg h.rom hb (λa e=>by simp at e)
def Rd.uses_mo(h:Rd w B b mo mp ua uc ra rc st ln):(κ ua st.uses.length uc).ownBlock≠A mo:=by
 obtain⟨es,c,hb,_⟩:=h.ops;exact wg h.uses hb (λa e=>by simp at e)
def Rd.mp_b(h:Rd w B b mo mp ua uc ra rc st ln):b≠mp:=λe=>by
 obtain⟨es,c,hb,_⟩:=h.places;rw[<- e,h.blk] at hb;simp at hb
def Rd.mo_b(h:Rd w B b mo mp ua uc ra rc st ln):b≠mo:=λe=>by
 obtain⟨es,c,hb,_⟩:=h.ops;rw[<- e,h.blk] at hb;simp at hb
def Rd.rows(h:Rd w B b mo mp ua uc ra rc st ln):(κ ua st.uses.length uc).ownBlock=G \/ (κ ua st.uses.length uc).ownBlock≠(κ ra st.rom.length rc).ownBlock:=by
 cases a:(κ ua st.uses.length uc).ownBlock with
 | none=>exact aj D
 | some x =>
  refine ao (λe=>?_);rcases h.uses.2 with⟨c,_⟩|⟨g,f,i,c,_,j,_⟩
  ·rw[c] at a;simp[im] at a
  ·rw[c] at a
   simp only[im,aZ] at a;subst a;exact wg h.rom j (λd k=>by simp at k) e.symm
def zb2{w:u}{b i:Nat}{cs:Array π}{t:aJ}{fr:Nat × Nat}(h:w.heap[b]?=A (χ cs t fr))(v:π):(w.setCell ⟨b,i,G⟩ v).heap[b]?=A (χ (cs.setIfInBounds i v) t fr):=by
 simp[jn,j4,h]
def za(w:u)(b i:Nat)(v:π):w.grownBy (w.setCell ⟨b,i,G⟩ v) (A b) :=
 ⟨D,D,D,by simp[jn],λk _ a=>cF _ _ _ _ (λe=>a (by rw[e]))⟩
def qB{w w':u}{x:Option Nat}(b:w.grownBy w' x){k:Nat}(c:k<w.heap.size)(a:A k≠x):w'.heap[k]?=w.heap[k]?:=b.block k c a
def Rd.put_rom(h:Rd w B b mo mp ua uc ra rc st ln){w1:u}(i:w.grownBy w1 (κ ra st.rom.length rc).ownBlock){ra':Option cK}{rc':Nat}{rom':S.By}(c:w1.ownsRow B 5 1 (.slice ra' rom'.length rc') rom'.length (aV rom')):Rd (w1.setCell ⟨b,3,G⟩ (.slice ra' rom'.length rc')) B b mo mp ua uc ra' rc' { st with rom:=rom' } ln:=by
 have d:w1.heap[b]?=_:=(qB i h.lt (bZ h.rom_b)).trans h.blk;have a:=za w1 b 3 (.slice ra' rom'.length rc');have f:kM w1 mo (j0 32):=h.ops.of_block (qB i h.ops.lt (bZ h.rom_mo));have g:kM w1 mp (pl st.places):=h.places.of_block (qB i h.places.lt (bZ h.rom_mp));have j:=h.uses.kept i h.rows;refine⟨h.hB,(zb2 d _).trans (by simp),f.of_block (qB a f.lt (λe=>h.mo_b (aL e).symm)),g.of_block (qB a g.lt (λe=>h.mp_b (aL e).symm)),h.hmp,h.ne,j.kept a (ao h.uses_b),c.kept a (ao (wg c d (λk e=>by simp at e)))⟩
def Rd.put_uses(h:Rd w B b mo mp ua uc ra rc st ln){w1:u}(i:w.grownBy w1 (κ ua st.uses.length uc).ownBlock){ua':Option cK}{uc':Nat}{us':List (S.By × Nat × Nat)}(c:w1.ownsRow B 277 3 (.slice ua' us'.length uc') us'.length (iF us')):Rd (w1.setCell ⟨b,2,G⟩ (.slice ua' us'.length uc')) B b mo mp ua' uc' ra rc { st with uses:=us' } ln:=by
 have d:w1.heap[b]?=_:=(qB i h.lt (bZ h.uses_b)).trans h.blk;have a:=za w1 b 2 (.slice ua' us'.length uc');have f:kM w1 mo (j0 32):=h.ops.of_block (qB i h.ops.lt (bZ h.uses_mo));have g:kM w1 mp (pl st.places):=h.places.of_block (qB i h.places.lt (bZ h.uses_mp))
 have j:=h.rom.kept i (by rcases h.rows with k|k
                          ·rw[k];exact rX _
                          ·exact ao (λe=>k e.symm))
 refine⟨h.hB,(zb2 d _).trans (by simp),f.of_block (qB a f.lt (λe=>h.mo_b (aL e).symm)),g.of_block (qB a g.lt (λe=>h.mp_b (aL e).symm)),h.hmp,h.ne,c.kept a (ao (wg c d (λl e=>by simp at e))),j.kept a (ao h.rom_b)⟩
def Rd.put_line(h:Rd w B b mo mp ua uc ra rc st ln)(ln':Nat):Rd (w.setCell ⟨b,4,G⟩ (J Q ln')) B b mo mp ua uc ra rc st ln':=by
 have a:=za w b 4 (J Q ln');exact⟨h.hB,(zb2 h.blk _).trans (by simp),h.ops.of_block (qB a h.ops.lt (λe=>h.mo_b (aL e).symm)),h.places.of_block (qB a h.places.lt (λe=>h.mp_b (aL e).symm)),h.hmp,h.ne,h.uses.kept a (ao h.uses_b),h.rom.kept a (ao h.rom_b)⟩
def Rd.put_place(h:Rd w B b mo mp ua uc ra rc st ln){w1:u}(a:w.grownBy w1 (A mp)){ps:List (S.By × Nat)}(c:kM w1 mp (pl ps)):Rd w1 B b mo mp ua uc ra rc { st with places:=ps } ln :=
 ⟨h.hB,(qB a h.lt (λe=>h.mp_b (aL e))).trans h.blk,h.ops.of_block (qB a h.ops.lt (λe=>h.ne (aL e))),c,h.hmp,h.ne,h.uses.kept a (ao h.uses_mp),h.rom.kept a (ao h.rom_mp)⟩
end
def zpM(p:Option cK)(v:Int)(w:u):Δ ω 329 #[.pointer p,J Q v,ν Γ] w λe w'=>e=μ (J Q v)/\w'=w:=by
 go_enter func329,ntmps329;go_wp2;go_ret;exact⟨D,D⟩
def zsH{l:S.By}{n:Int}(h:S.num l=A n):gU l=.ok n/\ba n=l:=by
 unfold S.num at h;split at h
 ·rename_i v a
  split at h
  ·rename_i hi
   cases h;exact⟨a,hi⟩
  ·cases h
 ·cases h
def zys(s:ByteArray)(n:Int)(b:s.size<=10000)(h:gU (bs s)=.ok n)(w:u):Δ ω 170 #[Ω s] w λe w'=>e=μ (Ψ #[J Q n,.nilIface])/\Below w.heap.size w w':=by
 refine(Tryz.strconv_Atoi_ok s (by omega) n h w).mono λe w' a=>⟨a.1,?_⟩
 rcases a.2 with rfl|⟨t,rfl⟩
 ·exact aR _
 ·exact Joins.below_bytesWorld _ _ _ _ (ψ _)
def zk5(s:ByteArray)(n:Int)(d:s.size<=10000)(h:S.num (bs s)=A n)(w:u)(b:AF w):Δ ω 330 #[Ω s] w λe w'=>e=μ (Ψ #[J Q n,ν Γ])/\Below w.heap.size w w':=by
 obtain⟨h1,h2⟩:=zsH h;obtain⟨b0,b1⟩:=Lib.atoiAll_bounds h1;have f:=hid (zys s n d h1 w);have g:bG (∀ w,AF w->Δ ω 104 #[J Q n] w λe w'=>e=μ (Ω s)/\Below w.heap.size w w'):=λw b=>by
  have:=rp n b0 b1 w b;rw[h2,mk_bs] at this;exact this
 have i:=hid b;have j:(s == s)=Γ:=by rw[qD];simp
 clear h h1 h2 b;go_enter func330,ntmps330;go_wp2_with (first
  | (go_at_call 170;refine f.out.mono ?_;rintro e w1 ⟨rfl,a⟩)
  | (go_at_call 104;refine(g.out _ (i.out.kept a)).mono ?_;rintro e w2 ⟨rfl,c⟩))
 go_ret2
 exact⟨D,bw a c⟩
def zf3(p:Option cK)(s:ByteArray)(h:S.nameOk (bs s)=Γ)(w:u):Δ ω 325 #[.pointer p,Ω s] w λe w'=>e=μ (Ψ #[J Q 0,Ω s])/\w'=w:=by
 have a:=hid (zdX s w);rw[h] at a;clear h;go_enter func325,ntmps325;go_wp2_with (go_at_call 324;refine a.out.mono ?_;rintro e w' ⟨rfl,rfl⟩)
 go_ret2
 exact⟨D,D⟩
def zg8(p:Option cK)(s:ByteArray)(n:Int)(d:s.size<=10000)(h:S.nameOk (bs s)=ξ)(h2:S.num (bs s)=A n)(w:u)(b:AF w):Δ ω 325 #[.pointer p,Ω s] w λe w'=>e=μ (Ψ #[J Q n,Ω (aT [])])/\Below w.heap.size w w':=by
 have c:=hid (zdX s w);rw[h] at c;have f:=hid (zk5 s n d h2 w b);clear h h2 b;go_enter func325,ntmps325;go_wp2_with (first
  | (go_at_call 324;refine c.out.mono ?_;rintro e w' ⟨rfl,rfl⟩)
  | (go_at_call 330;refine f.out.mono ?_;rintro e w1 ⟨rfl,a⟩)
  | (go_at_call 329;refine(zpM p n _).mono ?_;rintro e w' ⟨rfl,rfl⟩))
 go_ret2
 exact⟨D,a⟩
def zen(p:Option cK)(s:ByteArray)(x:Int × S.By)(d:s.size<=10000)(h:S.wordOrName (bs s)=A x)(w:u)(f:AF w):Δ ω 325 #[.pointer p,Ω s] w λe w'=>e=μ (Ψ #[J Q x.1,Ω (aT x.2)])/\Below w.heap.size w w':=by
 unfold S.wordOrName at h;cases a:S.nameOk (bs s) with
 | true =>
  rw[a] at h;cases h;refine(zf3 p s a w).mono λe w' c=>⟨c.1.trans ?_,c.2 ▸ aR _⟩
  rw[mk_bs]
 | false =>
  rw[a] at h;cases b:S.num (bs s) with
  | none=>rw[b] at h;cases h
  | some n =>
   rw[b] at h;cases h;exact zg8 p s n d a b w f
def zji(w:u)(o:br w):Δ ω 128 #[] w λe w'=>e=μ (.map (A w.heap.size))/\kM w' w.heap.size (j0 32)/\Below w.heap.size w w':=by
 have p:=hid o;have r:=@lL ω;clear o;go_enter func128,ntmps128;go_wp2;go_loopw [2] (λi wr=>∃ j:Nat,j<=32/\i=J Q j/\kM wr w.heap.size (j0 j)/\Below w.heap.size w wr) (λi _=>32-(aU i).toNat)
 case atStart=>exact⟨0,by omega,D,zk4 w,(aR w).alloc (ψ _) _⟩
 case round =>
  obtain⟨j,v,rfl,d,a⟩:=hrel;by_cases f:j<32
  ·have q:(j:Int)<=31:=by omega
   by_cases c:j=30
   ·subst c
    have h:=hid (zsA 30 (by decide) wr (p.out.kept a));go_wp2_with (go_at_call 206;refine h.out.mono ?_;rintro e w1 ⟨rfl,b⟩)
    go_roundw
    case rel=>exact⟨31,by omega,by go_num,by rw[zvL];exact d.below b d.lt,bw a b⟩
    case measure=>simp[aU]
   ·have h:=hid (ze1 j f c wr (p.out.kept a))
    have s:=hid (zvK j f c);go_wp2_with (first
     | (go_at_call 206;refine h.out.mono ?_;rintro e w1 ⟨rfl,b⟩;have l:=d.below b d.lt)
     | (at_mapUpdate;refine zg7 _ (by rfl) _ _ _ _ (by rfl) 9 3 underlying216 underlying9 w.heap.size (j0 j) (by rfl) l (O.nameS j) j (by rfl) (by rfl) s.out ?_;intro w2 m n))
    go_roundw
    case rel=>exact⟨j+1,by omega,by go_num,by rw[zqJ c];exact m,(bw a b).grown n (ax a.size b.size) (λk t=>by cases t;exact ψ _)⟩
    case measure=>simp[aU];omega
  ·have g:j=32:=by omega
   subst g;go_wp2;go_ret;exact⟨D,d,a⟩
def zif(a:Int)(w:u)(c:0<=a)(b:a<=65535):Δ ω 209 #[J Y a] w λe w'=>e=μ (Ψ #[J au (a/256),J au (a%256)])/\w=w':=by
 go_enter func209,ntmps209;go_wp2
 go_ret2
 exact⟨D,D⟩
def zyt:(Tryz.prog.info? 5).map (λi=>(i.zero,i.size,i.bytes))=A (A (J au 0),1,1):=by kernel_rfl
def zvN:(Tryz.prog.info? 277).map (λi=>(i.zero,i.size,i.bytes))=A (A (ac #[Ω ⟨#[]⟩,J Q 0,J Q 0]),3,32):=by kernel_rfl
def zk7{ws:List Int}{j:Nat}{x:Int}(h:ws[j]?=A x):S.bytesOf (ws.take (j+1))=S.bytesOf (ws.take j)++[bF (x/256).toNat,bF (x%256).toNat]:=by
 have c:∀ a b:List Int,S.bytesOf (a++b)=S.bytesOf a++S.bytesOf b:=λa b=>by
  induction a with
  | nil=>rfl
  | cons y a d=>simp[S.bytesOf,d]
 rw[ek,h,c];rfl
def zc:∀ ws:List Int,(S.bytesOf ws).length=2*ws.length
 | []=>rfl
 | x::ws=>by simp[S.bytesOf,zc ws];omega
def zqK(x:Int)(a:0<=x)(h1:x<=65535):aV [bF (x/256).toNat,bF (x%256).toNat]=[J au (x/256),J au (x%256)]:=by
 have e1:(bF (x/256).toNat).toNat=(x/256).toNat:=by simp;omega
 have e2:(bF (x%256).toNat).toNat=(x%256).toNat:=by simp;omega
 simp only[aV,cI,dQ,e1,e2];rw[show (((x/256).toNat:Nat):Int)=x/256 by omega,show (((x%256).toNat:Nat):Int)=x%256 by omega]
def yb(l:S.By):(aT l).toList.isEmpty=l.isEmpty:=by rw[Lib.toList_data];rfl
def wordsAt.block{w w':u}{g:Nat}{l:List Int}(h:wordsAt w g l)(e:w'.heap[g]?=w.heap[g]?):wordsAt w' g l:=λi hi=>(Φ (w:=w) e).trans (h i hi)
section
variable {w w1 : u} {B b mo mp : Nat} {ua ra : Option cK} {uc rc : Nat} {st : S.St} {ln : Nat}
end
def zAk(w:u)(B b mo mp:Nat)(ua ra:Option cK)(uc rc:Nat)(st:S.St)(ln:Nat)(N:Rd w B b mo mp ua uc ra rc st ln)(g c:Nat)(ws:List Int)(nm:S.By)(hw:wordsAt w g ws)(hg:g<w.heap.size)
 (hgr:(κ ra st.rom.length rc).ownBlock≠A g) (hgb:g≠b) (P:∀ x∈ws,0<=x/\x<=65535) (hw0:0<ws.length) (hm:st.rom.length+2*ws.length<=1024) (hc:ws.length<=c) (hBw:B<=w.heap.size) (R:st.uses.length+1<=1000000) :
 Δ ω 326 #[aB (A ⟨b,0,G⟩),κ (A ⟨g,0,G⟩) ws.length c,Ω (aT nm)] w λe w' =>
  e=μ (Ψ #[])/\(∃ ua' uc' ra' rc',Rd w' B b mo mp ua' uc' ra' rc' ⟨st.rom++S.bytesOf ws,st.places,if nm=[] then st.uses else st.uses++[(nm,st.rom.length+2*ws.length-2,ln)]⟩ ln)/\Below B w w':=by
 obtain⟨i0,hi0,hz0,hz1,hz2⟩:=info_parts zyt;have hlt:=N.lt;have T:=N.hB;have c3:w.cell? ⟨b,3,G⟩=A (κ ra st.rom.length rc):=N.cell 3;have HR:=hid N;have HW:=hid P;have HWA:=hid hw;have hm1:¬ (1024:Int)<st.rom.length+2*ws.length:=by omega
 clear N P hw;go_enter func326,ntmps326;go_wp2;go_loopw [24] (λi wr=>∃(j:Nat) (ra':Option cK) (rc':Nat),j<=ws.length/\i=J Q j/\Rd wr B b mo mp ua uc ra' rc' { st with rom:=st.rom++S.bytesOf (ws.take j) } ln/\Below B w wr/\wordsAt wr g ws/\g<wr.heap.size/\(κ ra' (st.rom++S.bytesOf (ws.take j)).length rc').ownBlock≠A g) (λi _=>ws.length-(aU i).toNat)
 case atStart=>exact⟨0,ra,rc,by omega,D,by simpa [S.bytesOf] using HR.out,bq _ _,HWA.out,hg,by simpa [S.bytesOf] using hgr⟩
 case round =>
  obtain⟨j,ra',rc',hj,rfl,f,q,U,hg1,V⟩:=hrel;have s:=ax hBw q.size;by_cases v:j<ws.length
  ·have hlt':(j:Int)<ws.length:=by omega
   obtain⟨x,hx⟩:∃ x,ws[j]?=A x:=⟨_,aq v⟩
   obtain⟨x0,x1⟩:=HW.out x (bu hx);have cw:wr.cell? ⟨g,j,G⟩=A (J Y x):=by
    have:=U j v;rw[show ws.getD j 0=x by simp[List.getD,hx]] at this;exact this
   obtain⟨L,I⟩:∃ L:Nat,L=(st.rom++S.bytesOf (ws.take j)).length:=⟨_,D⟩
   have W:L=st.rom.length+2*j:=by rw[I,az,zc,bD];omega
   have c3r:wr.cell? ⟨b,3,G⟩=A (.slice ra' L rc'):=by rw[I];exact f.cell 3
   have hbr:=f.lt;have d:=hid (f.kept (stA (aR wr) (χ #[J au (x/256),J au (x%256)] 5)));have y:(wr.alloc (χ #[J au (x/256),J au (x%256)] 5)).ownsRow B 5 1 (.slice ra' L rc') L (aV (st.rom++S.bytesOf (ws.take j))):=by rw[I];exact d.out.rom
   have HX:=hid hx;have HROW:=hid y;have HL:=hid I;have HLB:=hid W;have hLm:L+2<=1024:=by omega
   have F:bG (∀ l,(wr.alloc (χ #[J au (x/256),J au (x%256)] 5)).grownBy l (κ ra' L rc').ownBlock->l.frozen? ⟨b,3,G⟩=ξ/\b<l.heap.size/\l.cell? ⟨b,3,G⟩=A (.slice ra' L rc')):=λl m=>by
    rw[I] at m ⊢;have o:=(qB m d.out.lt (bZ d.out.rom_b)).trans d.out.blk;exact⟨Lib.frozen_of_heap o 3,Θ d.out.lt m.size,Lib.cell_of_heap o 3⟩
   clear hx c3 I W y f;go_wp2_with (first
    | (go_at_call 209;refine(zif x _ x0 x1).mono ?_;rintro e w' ⟨rfl,rfl⟩)
    | (at_builtin;refine wpList_append_lies _ (by rfl) _ _ _ (by rfl) B 5 i0 _ 1 1 underlying26 hi0 hz0 hz1 hz2 D (by omega) _ L _ (by rfl) HROW.out ⟨wr.heap.size,0,G⟩ 2 2 [J au (x/256),J au (x%256)] (by rfl) (by rfl) (World.news_of_block (cs:=#[J au (x/256),J au (x%256)]) (t:=5) (fr:=(0,0)) (aM wr _)) (by simp[bi]) (by omega) (by unfold dI;omega) (by omega) (by simp;omega) (wr.heap.size+1) (by simp) ?_;intro p cp l n a X Z;obtain⟨f3,z3,d3⟩:=F.out l a))
   have e2:st.rom++S.bytesOf (ws.take (j+1))=(st.rom++S.bytesOf (ws.take j))++[bF (x/256).toNat,bF (x%256).toNat]:=by rw[zk7 HX.out,bK]
   have hl2:(st.rom++S.bytesOf (ws.take (j+1))).length=L+2:=by rw[e2,az,<- HL.out];rfl
   have r:aV (st.rom++S.bytesOf (ws.take (j+1)))=aV (st.rom++S.bytesOf (ws.take j))++[J au (x/256),J au (x%256)]:=by rw[e2,<- byteCells_append,zqK x x0 x1]
   have z:=d.out.put_rom (ra':=A ⟨p,0,G⟩) (rc':=cp) (rom':=st.rom++S.bytesOf (ws.take (j+1))) (by rw[HL.out] at a;exact a) (by rw[hl2,r];exact n);rw[hl2] at z;have E:(κ ra' L rc').ownBlock≠A g:=by rw[HL.out];exact V
   refine⟨⟨j+1,A ⟨p,0,G⟩,cp,by omega,by simp,z,(((q.alloc s _).grown a (by simp;omega) (λk hk=>(HROW.out.lt k hk).1)).setCell T _),?_,?_,?_⟩,by simp[aU];omega⟩
   ·refine U.block ((cF _ _ _ _ hgb).trans ((qB a (by simp;omega) (bZ E)).trans (bJ _ _ hg1)))
   ·have:=a.size;simp at this ⊢;omega
   ·simp only[im,ne_eq,aZ]
    rcases X with h|h
    ·intro e;rw[e] at h;exact E h
    ·omega
  ·have hjn:j=ws.length:=by omega
   subst hjn;rw[ja] at f;by_cases hnm:nm=[]
   ·subst hnm
    have he:(aT []).toList.isEmpty=Γ:=yb [];go_wp2;go_end0;exact⟨D,⟨ua,uc,ra',rc',f⟩,q⟩
   ·have he:(aT nm).toList.isEmpty=ξ:=by rw[yb];cases nm <;> simp_all
    obtain⟨i1,hj0,hy0,hy1,hy2⟩:=info_parts zvN;obtain⟨M,hM⟩:∃ M:Nat,(st.rom++S.bytesOf ws).length=M+2:=⟨st.rom.length+2*ws.length-2,by rw[az,zc];omega⟩
    have H:M=st.rom.length+2*ws.length-2:=by rw[az,zc] at hM;omega
    have c2:wr.cell? ⟨b,2,G⟩=A (κ ua st.uses.length uc):=f.cell 2;have c3r:wr.cell? ⟨b,3,G⟩=A (.slice ra' (M+2) rc'):=by rw[<- hM];exact f.cell 3
    have c4:wr.cell? ⟨b,4,G⟩=A (J Q ln):=f.cell 4;have hbr:=f.lt;have hM1:M<=1022:=by omega
    have d:=hid (f.kept (stA (aR wr) (χ #[Ω (aT nm),J Q M,J Q ln] 277)).drew);have hU:bG (((wr.alloc (χ #[Ω (aT nm),J Q M,J Q ln] 277)).drew).ownsRow B 277 3 (κ ua st.uses.length uc) st.uses.length (iF st.uses)):=d.out.uses;have hN:bG (∀ j θ,([Ω (aT nm),J Q M,J Q ln]:List π)[j]?=A θ->((wr.alloc (χ #[Ω (aT nm),J Q M,J Q ln] 277)).drew).cell? ((⟨wr.heap.size,0,G⟩:cK).add j)=A θ):=World.news_of_block (cs:=#[Ω (aT nm),J Q M,J Q ln]) (t:=277) (fr:=(0,0)) (aM wr _);have hO:bG (∀ θ∈([Ω (aT nm),J Q M,J Q ln]:List π),θ.oneCell'=Γ):=by intro θ hu;simp at hu;rcases hu with rfl|rfl|rfl <;> rfl
    have hul:bG (st.uses.length+1<=1000000):=R;have F:bG (∀ l,((wr.alloc (χ #[Ω (aT nm),J Q M,J Q ln] 277)).drew).grownBy l (κ ua st.uses.length uc).ownBlock->l.frozen? ⟨b,2,G⟩=ξ/\b<l.heap.size/\l.cell? ⟨b,2,G⟩=A (κ ua st.uses.length uc)):=λl m=>by
     have o:=(qB m d.out.lt (bZ d.out.uses_b)).trans d.out.blk;exact⟨Lib.frozen_of_heap o 2,Θ d.out.lt m.size,Lib.cell_of_heap o 2⟩
    have hbs:bG (B<=((wr.alloc (χ #[Ω (aT nm),J Q M,J Q ln] 277)).drew).heap.size):=by show B<=_;simp;omega
    have h63:bG (st.uses.length+1<=dI):=by show _<=_;unfold dI;omega
    have hby:bG ((st.uses.length+1)*32<=140737488355328):=by show _<=_;omega
    have HK:bG (∀(p cp:Nat) (l:u),l.ownsRow B 277 3 (κ (A ⟨p,0,G⟩) (st.uses.length+1) cp) (st.uses.length+1) (iF st.uses++[Ω (aT nm),J Q M,J Q ln])->((wr.alloc (χ #[Ω (aT nm),J Q M,J Q ln] 277)).drew).grownBy l (κ ua st.uses.length uc).ownBlock ->
     Rd (l.setCell ⟨b,2,G⟩ (κ (A ⟨p,0,G⟩) (st.uses.length+1) cp)) B b mo mp (A ⟨p,0,G⟩) cp ra' rc' ⟨st.rom++S.bytesOf ws,st.places,st.uses++[(nm,st.rom.length+2*ws.length-2,ln)]⟩ ln/\Below B w (l.setCell ⟨b,2,G⟩ (κ (A ⟨p,0,G⟩) (st.uses.length+1) cp))):=λp cp l hown m=>by
     have hl:(st.uses++[(nm,M,ln)]).length=st.uses.length+1:=by simp
     have:=d.out.put_uses (us':=st.uses++[(nm,M,ln)]) (ua':=A ⟨p,0,G⟩) (uc':=cp) m (by rw[hl,zem];exact hown);rw[hl] at this;rw[<- H];exact⟨this,((((q.alloc s _).drew).grown m hbs.out (λk hk=>(d.out.uses.lt k hk).1)).setCell T _)⟩
    have hwr:IntKind.i64.wrap (M:Int)=M:=by rw[aH];omega
    have HM:=hid hM;have HMB:=hid H;clear f c3 hM H;go_wp2;go_region_law (refine step_append_lies _ (by rfl) (.tmp 51) (.tmp 64) 218 (by rfl) B 277 i1 _ 3 32 underlying218 hj0 hy0 hy1 hy2 D (by omega) (κ ua st.uses.length uc) st.uses.length (iF st.uses) (by simp[rM]) hU.out ⟨wr.heap.size,0,G⟩ 1 1 [Ω (aT nm),J Q M,J Q ln] (by simp[rM]) D hN.out hO.out (by omega) h63.out hby.out hbs.out (wr.heap.size+1) (by simp) ?_;intro p cp l n a X Z;obtain⟨f3,z3,d3⟩:=F.out l a)
    all_goals
     go_wp2;go_end0;obtain⟨k1,k2⟩:=HK.out p cp l n a;exact⟨D,⟨_,_,_,_,k1⟩,k2⟩
def zjj{ws:List Int}{nm:S.By}{ln:Nat}{st a:S.St}(h:S.put ws nm ln st=.ok a):st.rom.length+2*ws.length<=1024/\a=⟨st.rom++S.bytesOf ws,st.places,if nm=[] then st.uses else st.uses++[(nm,st.rom.length+2*ws.length-2,ln)]⟩:=by
 unfold S.put at h;split at h
 ·cases h
 ·cases h
  exact⟨by omega,D⟩
def zsI(w:u)(B b mo mp:Nat)(ua ra:Option cK)(uc rc:Nat)(st a:S.St)(ln:Nat)(l:Rd w B b mo mp ua uc ra rc st ln)(g c:Nat)(ws:List Int)(nm:S.By)(m:S.put ws nm ln st=.ok a)(n:wordsAt w g ws)(o:g<w.heap.size)
 (f:(κ ra st.rom.length rc).ownBlock≠A g) (h:g≠b) (i:∀ x∈ws,0<=x/\x<=65535) (j:0<ws.length) (hc:ws.length<=c) (k:B<=w.heap.size) (d:st.uses.length+1<=1000000) :
 Δ ω 326 #[aB (A ⟨b,0,G⟩),κ (A ⟨g,0,G⟩) ws.length c,Ω (aT nm)] w λe w' =>
  e=μ (Ψ #[])/\(∃ ua' uc' ra' rc',Rd w' B b mo mp ua' uc' ra' rc' a ln)/\Below B w w':=by
 obtain⟨h1,h2⟩:=zjj m;subst h2;exact zAk w B b mo mp ua ra uc rc st ln l g c ws nm n o f h i j h1 hc k d
def bB{B:Nat}{w w':u}(hB:B<=w.heap.size)(h:Below w.heap.size w w'):Below B w w':=h.mono hB
def zjk{p:S.By}{ln:Nat}{st a:S.St}(h:S.readWord [p] ln st=.ok a):∃ v nm,S.wordOrName p=A (v,nm)/\0<=v/\v<=65535/\S.put [v] nm ln st=.ok a:=by
 unfold S.readWord at h;simp only at h;split at h
 ·rename_i v nm b
  split at h
  ·cases h
  ·exact⟨v,nm,b,by omega,by omega,h⟩
 ·cases h
def yQ(w1:u)(B b mo mp:Nat)(ua ra:Option cK)(uc rc:Nat)(st a:S.St)(ln:Nat)(d:Rd w1 B b mo mp ua uc ra rc st ln)(v:Int)(nm:S.By)(g:S.put [v] nm ln st=.ok a)(v0:0<=v)(l:v<=65535)(f:B<=w1.heap.size)(c:st.uses.length+1<=1000000):Δ ω 326 #[aB (A ⟨b,0,G⟩),κ (A ⟨w1.heap.size,0,G⟩) 1 1,Ω (aT nm)] (w1.alloc (χ #[J Y v] 22)) λe w' =>
  e=μ (Ψ #[])/\(∃ ua' uc' ra' rc',Rd w' B b mo mp ua' uc' ra' rc' a ln)/\Below B w1 w':=by
 have j:=d.lt;refine(zsI _ B b mo mp ua ra uc rc st a ln (d.kept (stA (aR _) _)) w1.heap.size 1 [v] nm g ?_ (by simp) (λh=>?_) (by omega) (by simp;omega) (by simp) (by simp) (by simp;omega) c).mono λe w' ⟨k,h1,h2⟩=>⟨k,h1,((bq _ _).alloc f _).trans h2⟩
 ·intro i hi
  obtain rfl:i=0:=by simpa using hi
  exact ly _ _ _ _ D
 ·have:=(d.rom.lt _ h).2;omega
def znf(w:u)(B b mo mp:Nat)(ua ra:Option cK)(uc rc:Nat)(st f:S.St)(ln:Nat)(n:Rd w B b mo mp ua uc ra rc st ln)(g c:Nat)(p:S.By)(hp:p.length<=4000)(k:w.cell? ⟨g,0,G⟩=A (Ω (aT p)))(H:g<w.heap.size)(hc:1<=c)
 (o:S.readWord [p] ln st=.ok f) (h:B<=w.heap.size) (i:st.uses.length+1<=1000000) (q:AF w) :
 Δ ω 259 #[aB (A ⟨b,0,G⟩),κ (A ⟨g,0,G⟩) 1 c] w λe w' =>
  e=μ (Ψ #[])/\(∃ ua' uc' ra' rc',Rd w' B b mo mp ua' uc' ra' rc' f ln)/\Below B w w':=by
 obtain⟨v,nm,r,v0,t,d⟩:=zjk o;have x:=hid (zen (A ⟨b,0,G⟩) (aT p) (v,nm) (by rw[sU];omega) r w q);have s:=hid n;have y:=hid d;have z:¬ v<0:=by omega
 have E:¬ 65535<v:=by omega
 clear n d o r q;go_enter func259,ntmps259;go_wp2_with (first
  | (go_at_call 325;refine x.out.mono ?_;rintro e w1 ⟨rfl,a⟩;have F:=s.out.kept (stA a (χ #[J Y v] 22));have j:=ax h a.size)
  | (go_at_call 326;refine(yQ w1 B b mo mp ua ra uc rc st f ln (s.out.kept a) v nm y.out v0 t j i).mono ?_;rintro e w2 ⟨rfl,l,m⟩))
 go_end0;exact⟨D,l,(bB h a).trans m⟩
def zf4{name:S.By}{st a:S.St}(h:S.readPlace name st=.ok a):S.nameOk name=Γ/\st.places.find? (λp=>p.1 == name)=G/\a={ st with places:=st.places++[(name,st.rom.length)] }:=by
 unfold S.readPlace at h;split at h
 ·rename_i b
  split at h
  ·cases h
  ·rename_i c
   cases h;exact⟨b,c,D⟩
 ·cases h
def zqL(s:ByteArray)(w:u):Δ ω 324 #[Ω s] w λe w'=>e=μ (ν (S.nameOk (bs s)))/\w=w':=(zdX s w).mono λe w' a=>⟨a.1,a.2.symm⟩
def zjl(w:u):(zeroValue 3).run ω w=.ok (J Q 0) w:=by kernel_rfl
def zyu(l:List (S.By × Nat))(a:S.By)(n:Nat):pl (l++[(a,n)])=pl l++[(aT a,(n:Int))]:=by unfold pl;simp
def zk8(w:u)(B b mo mp:Nat)(ua ra:Option cK)(uc rc:Nat)(st d:S.St)(ln:Nat)(a:Rd w B b mo mp ua uc ra rc st ln)(name:S.By)(m:S.readPlace name st=.ok d)(j:B<=w.heap.size):Δ ω 258 #[aB (A ⟨b,0,G⟩),Ω (aT name)] w λe w' =>
  e=μ (Ψ #[])/\(∃ ua' uc' ra' rc',Rd w' B b mo mp ua' uc' ra' rc' d ln)/\Below B w w':=by
 obtain⟨n,o,f⟩:=zf4 m;have q:=hid (zqL (aT name) w);rw[sK,n] at q;have c:(pl st.places).find? (λp=>p.1 == aT name)=G:=by rw[zsG,sK,o];rfl
 have g:=zjh (P:=ω) underlying216 underlying9 a.places (aT name) (zjl w);rw[c] at g;simp only[Option.map_none,Option.getD_none,Option.isSome_none] at g;obtain⟨w1,r,h,i⟩:=zpL (P:=ω) (w:=w.drew) underlying216 underlying9 a.places (aT name) (st.rom.length:Int) c;have c1:w.cell? ⟨b,1,G⟩=A (.map (A mp)):=a.cell 1;have c3:w.cell? ⟨b,3,G⟩=A (κ ra st.rom.length rc):=a.cell 3;have v:=a.lt;have s:=hid a;have x:=hid h;have t:=hid i;have l:=hid f;clear a m n o f c h i;go_enter func258,ntmps258;go_wp2_with (go_at_call 324;refine q.out.mono ?_;rintro e w' ⟨rfl,rfl⟩)
 go_region
 go_wp2;all_goals
  go_end0;rw[l.out];refine⟨D,⟨ua,uc,ra,rc,?_⟩,?_⟩
  ·exact Rd.put_place (w:=w.drew) (s.out.kept (aR w).drew) t.out (by rw[zyu];exact x.out)
  ·exact((bq B w).drew).grown t.out j (λk y=>by cases y;exact s.out.hmp)
def strsAt(w:u)(g:Nat)(ps:List S.By):Prop:=∀(j:Nat) (s:S.By),ps[j]?=A s->w.cell? ⟨g,j,G⟩=A (Ω (aT s))
def strsAt.kept{w w':u}{g B:Nat}{ps:List S.By}(h:strsAt w g ps)(hb:Below B w w')(hB:g<B):strsAt w' g ps:=λj s a=>(hb.cell hB).trans (h j s a)
def zeo{a:S.By}{ps:List S.By}{ln:Nat}{st b:S.St}(h:S.readOrder a ps ln st=.ok b):∃ k o nm,S.opOf a=A k/\k<32/\k≠30/\ps.length=(S.parts k).length/\S.readParts (S.parts k) ps S.Ord.zero []=A (o,nm)/\O.okB k o.d o.s o.n o.w=Γ/\S.put (O.words k o.d o.s o.n o.w) nm ln st=.ok b:=by
 unfold S.readOrder at h;split at h
 ·cases h
 ·rename_i k f
  have g:=gN f;have hp:=mU f;have c:k<32:=by simpa using g
  have e:k≠30:=by simp at hp;exact hp.1
  split at h
  ·rename_i i
   split at h
   ·cases h
   ·rename_i o nm j
    split at h
    ·rename_i hc
     refine⟨k,o,nm,f,c,e,i,j,?_,h⟩;unfold O.ck at hc;rw[(O.isOp_iff _).2 ⟨by omega,by omega,by omega⟩,bR] at hc;cases hb:O.okB k o.d o.s o.n o.w
     ·rw[hb] at hc;simp at hc
     ·rfl
    ·cases h
  ·cases h
def drop_at{α:Type}{l:List α}{j:Nat}{x:α}(h:l[j]?=A x):l.drop j=x::l.drop (j+1):=by
 obtain⟨a,e⟩:=ay.1 h;rw[dx a,e]
def zg9{k j p:Nat}{ps:List S.By}{s:S.By}{o:S.Ord}{nm:S.By}{r:S.Ord × S.By}(hp:(S.parts k)[j]?=A p)(b:ps[j]?=A s)(h:S.readParts ((S.parts k).drop j) (ps.drop j) o nm=A r):∃ x,S.readPart p s o nm=A x/\S.readParts ((S.parts k).drop (j+1)) (ps.drop (j+1)) x.1 x.2=A r:=by
 rw[drop_at hp,drop_at b] at h;simp only[S.readParts] at h;cases a:S.readPart p s o nm with
 | none=>rw[a] at h;cases h
 | some x=>rw[a] at h;exact⟨x,D,h⟩
def zxT(s:ByteArray)(v:Int)(h:S.reg (bs s)=A v)(w:u):Δ ω 331 #[Ω s] w λe w'=>e=μ (Ψ #[J Q v,ν Γ])/\w=w':=by
 have:=zfr s w;rw[h] at this;exact this.mono λe w' a=>⟨a.1,a.2.symm⟩
def zjm(p:Option cK)(v:Int)(w:u):Δ ω 329 #[.pointer p,J Q v,ν Γ] w λe w'=>e=μ (J Q v)/\w=w':=(zpM p v w).mono λe w' a=>⟨a.1,a.2.symm⟩
def zAl(g:Nat)(w:u):Δ ω 328 #[J Q 0,aB (A ⟨g,0,G⟩)] w λe w'=>e=μ (aB (A ⟨g,1,G⟩))/\w=w':=(wI g w).mono λe w' a=>⟨a.1,a.2.symm⟩
def zAm(g:Nat)(w:u):Δ ω 328 #[J Q 1,aB (A ⟨g,0,G⟩)] w λe w'=>e=μ (aB (A ⟨g,2,G⟩))/\w=w':=(wJ g w).mono λe w' a=>⟨a.1,a.2.symm⟩
def zAn(g:Nat)(w:u):Δ ω 328 #[J Q 2,aB (A ⟨g,0,G⟩)] w λe w'=>e=μ (aB (A ⟨g,4,G⟩))/\w=w':=(wK g w).mono λe w' a=>⟨a.1,a.2.symm⟩
def zAo(g:Nat)(w:u):Δ ω 328 #[J Q 3,aB (A ⟨g,0,G⟩)] w λe w'=>e=μ (aB (A ⟨g,3,G⟩))/\w=w':=(wL g w).mono λe w' a=>⟨a.1,a.2.symm⟩
def zyv(k:Nat)(o:S.Ord)(p:Nat)(hp:p<4)(v:Int):(ny k o).setIfInBounds (t7 p) (J Q v)=ny k (o.set p v):=by
 have hc:p=0 \/ p=1 \/ p=2 \/ p=3:=by omega
 rcases hc with rfl|rfl|rfl|rfl <;> rfl
def oD(w:u)(g k:Nat)(o:S.Ord):Prop:=w.heap[g]?=A (χ (ny k o) 191 (0,0))
def oD.kept{w w':u}{g k:Nat}{o:S.Ord}(h:oD w g k o)(hb:Below w.heap.size w w'):oD w' g k o:=(hb.block g (aa.1 h).1).trans h
def oD.lt{w:u}{g k:Nat}{o:S.Ord}(h:oD w g k o):g<w.heap.size:=(aa.1 h).1
def oD.frozen{w:u}{g k:Nat}{o:S.Ord}(h:oD w g k o)(i:Nat):w.frozen? ⟨g,i,G⟩=ξ:=Lib.frozen_of_heap h i
def oD.cell{w:u}{g k:Nat}{o:S.Ord}(h:oD w g k o)(i:Nat):w.cell? ⟨g,i,G⟩=(ny k o)[i]?:=Lib.cell_of_heap h i
def oD.set{w:u}{g k:Nat}{o:S.Ord}(h:oD w g k o)(p:Nat)(hp:p<4)(v:Int):oD (w.setCell ⟨g,t7 p,G⟩ (J Q v)) g k (o.set p v):=by
 unfold oD;rw[zb2 h,zyv k o p hp v]
def zk9{w:u}{mo:Nat}(h:kM w mo (j0 32))(c:S.By)(k:Nat)(a:S.opOf c=A k):(dV 216 (.map (A mo)) (Ω (aT c)) Γ).run ω w=.ok (Ψ #[J Q k,ν Γ]) w:=by
 have:=zjh (P:=ω) underlying216 underlying9 h (aT c) (zjl w);rw[zvM,sK,a] at this;exact this
def zvO{k:Nat}(e:k<32){o:S.Ord}(b:O.okB k o.d o.s o.n o.w=Γ):∀ x∈O.words k o.d o.s o.n o.w,0<=x/\x<=65535:=by
 obtain⟨b1,b2,b3,b4⟩:=O.ok_bd b;have c:=O.first_bd (op:=(k:Int)) (n:=o.n) ⟨by omega,by omega⟩ b1 b2;intro x a;unfold O.words at a;split at a
 ·simp at a;rcases a with rfl|rfl
  ·exact c
  ·exact b4
 ·simp at a;subst a;exact c
def zla(k:Nat)(o:S.Ord):0<(O.words k o.d o.s o.n o.w).length:=by unfold O.words;split <;> simp
def rO(w:u)(B b mo mp:Nat)(ua ra:Option cK)(uc rc:Nat)(st a:S.St)(ln:Nat)(i:Rd w B b mo mp ua uc ra rc st ln)(w2:u)(c:Below w.heap.size w w2)(g:Nat)(m:w.heap.size<=g)(p:g<w2.heap.size)(k:Nat)(q:k<32)(o:S.Ord)(j:O.okB k o.d o.s o.n o.w=Γ)
 (r:wordsAt w2 g (O.words k o.d o.s o.n o.w)) (nm:S.By) (t:S.put (O.words k o.d o.s o.n o.w) nm ln st=.ok a) (l:B<=w.heap.size) (f:st.uses.length+1<=1000000) :
 Δ ω 326 #[aB (A ⟨b,0,G⟩),κ (A ⟨g,0,G⟩) (O.words k o.d o.s o.n o.w).length (O.words k o.d o.s o.n o.w).length,Ω (aT nm)] w2 λe w' =>
  e=μ (Ψ #[])/\(∃ ua' uc' ra' rc',Rd w' B b mo mp ua' uc' ra' rc' a ln)/\Below B w2 w':=by
 have v:=i.lt;refine zsI w2 B b mo mp ua ra uc rc st a ln (i.kept c) g _ _ nm t r p (λh=>?_) (by omega) (zvO q j) (zla k o) (ψ _) (ax l c.size) f;have:=(i.rom.lt _ h).2;omega
def zlb(k:Nat)(f:k<32)(b:k≠30)(o:S.Ord)(a:O.okB k o.d o.s o.n o.w=Γ)(w:u)(c:br w):Δ ω 272 #[ac #[J Q k,J Q o.d,J Q o.s,J Q o.n,J Q o.w]] w λe w' =>
  ∃ g,e=μ (Ψ #[κ (A ⟨g,0,G⟩) (O.words k o.d o.s o.n o.w).length (O.words k o.d o.s o.n o.w).length,J Q 0])/\wordsAt w' g (O.words k o.d o.s o.n o.w)/\w.heap.size<=g/\g<w'.heap.size/\Below w.heap.size w w' :=
 zkY k o.d o.s o.n o.w ((O.isOp_iff _).2 ⟨by omega,by omega,by omega⟩) a w c
def zng(w:u)(B b mo mp:Nat)(ua ra:Option cK)(uc rc:Nat)(st f:S.St)(ln:Nat)(h:Rd w B b mo mp ua uc ra rc st ln)(a:S.By)(k:Nat)(j:S.opOf a=A k)(s:k<32)(l:k≠30)(hp:S.parts k=[])(nm:S.By)(d:S.put (O.words k 0 0 0 0) [] ln st=.ok f)(m:O.okB k 0 0 0 0=Γ)(a0:Option cK)(c0:Nat)(o:B<=w.heap.size)(p:st.uses.length+1<=1000000)(E:AF w):Δ ω 260 #[aB (A ⟨b,0,G⟩),Ω (aT a),κ a0 0 c0] w λe w' =>
  e=μ (Ψ #[])/\(∃ ua' uc' ra' rc',Rd w' B b mo mp ua' uc' ra' rc' f ln)/\Below B w w':=by
 have I:=zk9 h.ops a k j;have L:w.cell? ⟨b,0,G⟩=A (.map (A mo)):=h.cell 0;have M:=h.lt;have N:=hid h;have P:=hid hp;have F:=hid E;have HPUT:=hid d;have q:=hid m;clear h hp E d j m;go_enter func260,ntmps260;go_wp2_with (go_at_call 327;refine(zkZ k s l P.out _ F.out.shapes).mono ?_;rintro e w1 ⟨a1,H,rfl,c⟩)
 go_loop [10,42] (λn i=>n=Ω ⟨#[]⟩/\i=J Q 0) (λ_ _=>0)
 case atStart=>exact⟨D,D⟩
 case round =>
  obtain⟨rfl,rfl⟩:=hrel;go_wp2_with (first
   | (go_at_call 272;refine(zlb k s l S.Ord.zero q.out _ (rZ (F.out.kept c) _).shapes).mono ?_;rintro e w2 ⟨g,rfl,t,v,x,r⟩)
   | (go_at_call 326;refine(rO _ B b mo mp ua ra uc rc st f ln (N.out.kept (stA c (χ #[J Q k,J Q 0,J Q 0,J Q 0,J Q 0] 191))) w2 r g v x k s S.Ord.zero q.out t [] HPUT.out (ax o (stA c (χ #[J Q k,J Q 0,J Q 0,J Q 0,J Q 0] 191)).size) p).mono ?_;rintro e R ⟨rfl,y,z⟩))
  go_end0;exact⟨D,y,(bB o (bw (stA c _) r)).trans z⟩
def znh(w:u)(B b mo mp:Nat)(ua ra:Option cK)(uc rc:Nat)(st N:S.St)(ln:Nat)(P:Rd w B b mo mp ua uc ra rc st ln)(f:S.By)(k:Nat)(R:S.opOf f=A k)(hk:k<32)(T:k≠30)(hp:0<(S.parts k).length)(m:S.Ord)(r:S.By)(ps:List S.By)(hpl:ps.length=(S.parts k).length)(U:∀ s∈ps,s.length<=4000)(V:S.readParts (S.parts k) ps S.Ord.zero []=A (m,r))(W:O.okB k m.d m.s m.n m.w=Γ)
 (M:S.put (O.words k m.d m.s m.n m.w) r ln st=.ok N) (X cp:Nat) (hcp:(S.parts k).length<=cp) (hgp:X<w.heap.size) (Z:strsAt w X ps) (hBw:B<=w.heap.size) (hul0:st.uses.length+1<=1000000) (hF:AF w) :
 Δ ω 260 #[aB (A ⟨b,0,G⟩),Ω (aT f),κ (A ⟨X,0,G⟩) (S.parts k).length cp] w λe w' =>
  e=μ (Ψ #[])/\(∃ ua' uc' ra' rc',Rd w' B b mo mp ua' uc' ra' rc' N ln)/\Below B w w':=by
 have hlk:=zk9 P.ops f k R;have hc0:w.cell? ⟨b,0,G⟩=A (.map (A mo)):=P.cell 0;have hlt:=P.lt;have HR:=hid P;have HF0:=hid hF;have HPUT:=hid M;have HOK:=hid W;have HPS:=hid U;have HSP:=hid Z;have HRP:=hid V;have h4:=yW k;clear P hF M R W U Z V;go_enter func260,ntmps260;go_wp2_with (go_at_call 327;refine(zk0 k hk T hp _ HF0.out.shapes).mono ?_;rintro e w1 ⟨g1,cap1,rfl,hpa,hg1,hg1',hcap1,t⟩)
 have HF:=hid (HF0.out.kept t);have HR1:=hid (HR.out.kept t);have HSP1:=hid (HSP.out.kept t hgp);have hPA:=hid hpa;have hsz1:=t.size;clear hpa;go_loopw [10,42] (λn i wr=>∃(j:Nat) (o:S.Ord) (nm:S.By),j<=(S.parts k).length/\i=J Q j/\n=Ω (aT nm)/\S.readParts ((S.parts k).drop j) (ps.drop j) o nm=A (m,r)/\oD wr w1.heap.size k o/\Below w1.heap.size w1 wr) (λ_ i _=>(S.parts k).length-(aU i).toNat)
 case atStart=>exact⟨0,S.Ord.zero,[],by omega,D,D,HRP.out,aM w1 _,stA (aR _) _⟩
 case round =>
  obtain⟨j,o,nm,hj,rfl,rfl,v,l,a⟩:=hrel;have hszr:=a.size;have l:=hid l;by_cases hlt2:j<(S.parts k).length
  ·obtain⟨p,F⟩:∃ p,(S.parts k)[j]?=A p:=⟨_,aq hlt2⟩
   obtain⟨s,H⟩:∃ s,ps[j]?=A s:=⟨_,aq (by omega)⟩
   obtain⟨x,c,z⟩:=zg9 F H v;have hp4:=zjc F;have hsl:=HPS.out s (bu H);have cs:wr.cell? ⟨X,j,G⟩=A (Ω (aT s)):=(HSP1.out.kept a (by omega)) j s H;have ck:wr.cell? ⟨g1,j,G⟩=A (J Q p):=(hPA.out.kept a hg1') j p F;have hgpr:X<wr.heap.size:=by omega
   have hg1r:g1<wr.heap.size:=by omega
   have hjI:(j:Int)<(S.parts k).length:=by omega
   have I:=hid z;clear v z F H;have hc:p=0 \/ p=1 \/ p=2 \/ p=3:=by omega
   clear hp4;rcases hc with rfl|rfl|rfl|rfl
   ·obtain⟨y,L,rfl⟩:∃ y,S.reg s=A y/\x=(o.set 0 y,nm):=by
     simp only[S.readPart,show ¬ (0:Nat)=2 by omega,show ¬ (0:Nat)=3 by omega,fj] at c;cases E:S.reg s with
     | none=>rw[E] at c;cases c
     | some y=>rw[E] at c;exact⟨y,D,(aL c).symm⟩
    have HY:=hid L;have f2:=l.out.frozen 1;have z2:=l.out.lt;have d2:wr.cell? ⟨w1.heap.size,1,G⟩=A (J Q o.d):=l.out.cell 1;clear L;clear c;go_wp2_with (first
     | (go_at_call 328;refine(zAl _ _).mono ?_;rintro e w' ⟨rfl,rfl⟩)
     | (go_at_call 331;refine(zxT (aT s) y HY.out _).mono ?_;rintro e w' ⟨rfl,rfl⟩)
     | (go_at_call 329;refine(zjm _ y _).mono ?_;rintro e w' ⟨rfl,rfl⟩))
    go_roundw
    case rel=>exact⟨j+1,o.set 0 y,nm,by omega,by go_num,D,I.out,(l.out.set 0 (by omega) y),a.setCell (ψ _) _⟩
    case measure=>simp[aU];omega
   ·obtain⟨y,L,rfl⟩:∃ y,S.reg s=A y/\x=(o.set 1 y,nm):=by
     simp only[S.readPart,show ¬ (1:Nat)=2 by omega,show ¬ (1:Nat)=3 by omega,fj] at c;cases E:S.reg s with
     | none=>rw[E] at c;cases c
     | some y=>rw[E] at c;exact⟨y,D,(aL c).symm⟩
    have HY:=hid L;have f2:=l.out.frozen 2;have z2:=l.out.lt;have d2:wr.cell? ⟨w1.heap.size,2,G⟩=A (J Q o.s):=l.out.cell 2;clear L;clear c;go_wp2_with (first
     | (go_at_call 328;refine(zAm _ _).mono ?_;rintro e w' ⟨rfl,rfl⟩)
     | (go_at_call 331;refine(zxT (aT s) y HY.out _).mono ?_;rintro e w' ⟨rfl,rfl⟩)
     | (go_at_call 329;refine(zjm _ y _).mono ?_;rintro e w' ⟨rfl,rfl⟩))
    go_roundw
    case rel=>exact⟨j+1,o.set 1 y,nm,by omega,by go_num,D,I.out,(l.out.set 1 (by omega) y),a.setCell (ψ _) _⟩
    case measure=>simp[aU];omega
   ·obtain⟨y,L,rfl⟩:∃ y,S.wordOrName s=A y/\x=(o.set 2 y.1,y.2):=by
     simp only[S.readPart,fO] at c;cases E:S.wordOrName s with
     | none=>rw[E] at c;cases c
     | some y=>rw[E] at c;exact⟨y,D,(aL c).symm⟩
    have HC:=hid (zen (A ⟨b,0,G⟩) (aT s) y (by rw[sU];omega) L wr (HF.out.kept a));clear c;go_wp2_with (first
     | (go_at_call 328;refine(zAn _ _).mono ?_;rintro e w' ⟨rfl,rfl⟩)
     | (go_at_call 325;refine HC.out.mono ?_;rintro e w2 ⟨rfl,q⟩;have h:=hid (l.out.kept q);have f2:=h.out.frozen 4;have z2:=h.out.lt;have d2:w2.cell? ⟨w1.heap.size,4,G⟩=A (J Q o.w):=h.out.cell 4))
    go_roundw
    case rel=>exact⟨j+1,o.set 2 y.1,y.2,by omega,by go_num,D,I.out,(h.out.set 2 (by omega) y.1),(bw a q).setCell (ψ _) _⟩
    case measure=>simp[aU];omega
   ·obtain⟨y,L,rfl⟩:∃ y,S.num s=A y/\x=(o.set 3 y,nm):=by
     simp only[S.readPart,show ¬ (3:Nat)=2 by omega,fj,fO] at c;cases E:S.num s with
     | none=>rw[E] at c;cases c
     | some y=>rw[E] at c;exact⟨y,D,(aL c).symm⟩
    have HC:=hid (zk5 (aT s) y (by rw[sU];omega) L wr (HF.out.kept a));clear c;go_wp2_with (first
     | (go_at_call 328;refine(zAo _ _).mono ?_;rintro e w' ⟨rfl,rfl⟩)
     | (go_at_call 330;refine HC.out.mono ?_;rintro e w2 ⟨rfl,q⟩;have h:=hid (l.out.kept q);have f2:=h.out.frozen 3;have z2:=h.out.lt;have d2:w2.cell? ⟨w1.heap.size,3,G⟩=A (J Q o.n):=h.out.cell 3)
     | (go_at_call 329;refine(zjm _ y _).mono ?_;rintro e w' ⟨rfl,rfl⟩))
    go_roundw
    case rel=>exact⟨j+1,o.set 3 y,nm,by omega,by go_num,D,I.out,(h.out.set 3 (by omega) y),(bw a q).setCell (ψ _) _⟩
    case measure=>simp[aU];omega
  ·have hjn:j=(S.parts k).length:=by omega
   subst hjn;rw[fu,<- hpl,fu] at v;have hrd':(o,nm)=(m,r):=aL v;cases hrd';have e0:wr.cell? ⟨w1.heap.size,0,G⟩=A (J Q k):=l.out.cell 0;have e1:wr.cell? ⟨w1.heap.size,1,G⟩=A (J Q m.d):=l.out.cell 1;have e2:wr.cell? ⟨w1.heap.size,2,G⟩=A (J Q m.s):=l.out.cell 2;have e3:wr.cell? ⟨w1.heap.size,3,G⟩=A (J Q m.n):=l.out.cell 3;have e4:wr.cell? ⟨w1.heap.size,4,G⟩=A (J Q m.w):=l.out.cell 4;have z0:=l.out.lt;clear v;go_wp2_with (first
    | (go_at_call 272;refine(zlb k hk T m HOK.out _ (HF.out.kept a).shapes).mono ?_;rintro e w2 ⟨g,rfl,hw2,hg0,hg2,q⟩)
    | (go_at_call 326;refine(rO wr B b mo mp ua ra uc rc st N ln (HR1.out.kept a) w2 q g hg0 hg2 k hk m HOK.out hw2 r HPUT.out (ax hBw (ax hsz1 hszr)) hul0).mono ?_;rintro e w3 ⟨rfl,hR3,hb3⟩))
   go_end0;exact⟨D,hR3,(bB hBw (bw (bw t a) q)).trans hb3⟩
def zjn(l a:S.By)(g:l.length<=10000)(w:u)(b:AF w):Δ ω 53 #[Ω (aT l),Ω (aT a)] w λe w'=>e=μ (Ψ #[Ω (aT (bA l a).1),Ω (aT (bA l a).2.1),ν (bA l a).2.2])/\Below w.heap.size w w':=by
 obtain⟨m,c⟩:=b.len;refine(Tryz.strings_Cut (aT l) (aT a) m w (by rw[sU];omega) c).mono λe w' ⟨d,n,f⟩=>⟨d,?_⟩
 subst f;exact rq (aR w) n
def zb3(l a:S.By)(c:l.length<=10000)(w:u):Δ ω 257 #[Ω (aT l),Ω (aT a)] w λe w'=>e=μ (Ψ #[Ω (aT (lq l a)),ν (ic l a)])/\w=w' :=
 (Tryz.strings_CutSuffix (aT l) (aT a) w (by rw[sU];omega)).mono λe w' b=>⟨b.1,b.2.symm⟩
def zjo(l a:S.By):(bA l a).1.length<=l.length/\(bA l a).2.1.length<=l.length:=by
 unfold bA;split
 ·simp;omega
 ·simp
def ze3(a:S.By):∀(k:Nat) (s:S.By),∀ p∈jA a 0 k s,p.length<=s.length
 | 0,s,p,h=>by simp[jA] at h;subst h;exact ψ _
 | k+1,s,p,h=>by
  unfold jA at h;split at h
  ·simp at h;subst h;exact ψ _
  ·rcases bp.1 h with h|h
   ·subst h;simp;omega
   ·have:=ze3 a k _ p h
    simp at this;omega
def zqM(a:S.By)(k:Nat)(s:S.By):0<(jA a 0 k s).length:=by
 cases k with
 | zero=>simp[jA]
 | succ k=>unfold jA;split <;> simp
def zig(rest:S.By)(n:rest.length<=10000)(w:u)(g:AF w):Δ ω 169 #[Ω (aT rest),Ω ⟨#[44,32]⟩] w λe w'=>e=μ (κ (A ⟨w.heap.size,0,G⟩) (il rest S.comma).length (il rest S.comma).length)/\strsAt w' w.heap.size (il rest S.comma)/\w.heap.size<w'.heap.size/\Below w.heap.size w w':=by
 obtain⟨m,h⟩:=g.len;have i:=Lib.splitB_data (aT S.comma) 0 (fT (aT rest) (aT S.comma)) (aT rest);have hc:fT (aT rest) (aT S.comma)=Lib.count rest S.comma:=D;have a:=Lib.splitB_all (aT S.comma) (by decide) 0 _ (aT rest) D;have b:(lj (aT S.comma) 0 (fT (aT rest) (aT S.comma)) (aT rest)).map bs=il rest S.comma:=i;have d:(il rest S.comma).length=fT (aT rest) (aT S.comma)+1:=by rw[<- b,bf,a]
 refine(Tryz.strings_Split (aT rest) (aT S.comma) m w (by rw[sU];omega) h (by decide)).mono λe w' ⟨k,l⟩=>?_
 subst l;refine⟨by rw[k,d],λj s c=>?_,by simp,stA (aR _) _⟩;rw[ly _ _ _ _ D,ch,bn];rw[<- b,bn] at c;cases f:(lj (aT S.comma) 0 (fT (aT rest) (aT S.comma)) (aT rest))[j]? with
 | none=>rw[f] at c;cases c
 | some x =>
  rw[f] at c;cases c;simp[mk_bs]
def zdZ(l:S.By):(aT l).toList=l:=by rw[Lib.toList_data];rfl
def nt(w:u)(B b mo mp:Nat)(a:S.St)(ln:Nat)(e:Ending)(w':u):Prop:=e=μ (Ψ #[])/\(∃ ua' uc' ra' rc',Rd w' B b mo mp ua' uc' ra' rc' a ln)/\Below B w w'
def zlc(w:u)(B b mo mp:Nat)(ua ra:Option cK)(uc rc:Nat)(st c:S.St)(ln:Nat)(j:Rd w B b mo mp ua uc ra rc st ln)(a:S.By)(ps:List S.By)(f:∀ s∈ps,s.length<=4000)(l:S.readOrder a ps ln st=.ok c)(m:0<ps.length)(e:Nat)(g:e<w.heap.size)(h:strsAt w e ps)(i:B<=w.heap.size)(d:st.uses.length+1<=1000000)(n:AF w):Δ ω 260 #[aB (A ⟨b,0,G⟩),Ω (aT a),κ (A ⟨e,0,G⟩) ps.length ps.length] w (nt w B b mo mp c ln):=by
 obtain⟨k,o,nm,h1,h2,h3,h4,p,q,r⟩:=zeo l;have:=znh w B b mo mp ua ra uc rc st c ln j a k h1 h2 h3 (by omega) o nm ps h4 f p q r e ps.length (by omega) g h i d n;rw[<- h4] at this;exact this
def zjp(w:u)(B b mo mp:Nat)(ua ra:Option cK)(uc rc:Nat)(st c:S.St)(ln:Nat)(h:Rd w B b mo mp ua uc ra rc st ln)(a:S.By)(i:S.readOrder a [] ln st=.ok c)(f:B<=w.heap.size)(d:st.uses.length+1<=1000000)(j:AF w):Δ ω 260 #[aB (A ⟨b,0,G⟩),Ω (aT a),κ G 0 0] w (nt w B b mo mp c ln):=by
 obtain⟨k,o,nm,h1,h2,h3,h4,g,l,m⟩:=zeo i;have hp:S.parts k=[]:=bM.1 (by simpa using h4.symm);rw[hp] at g;have e:(S.Ord.zero,([]:S.By))=(o,nm):=aL g;cases e;exact zng w B b mo mp ua ra uc rc st c ln h a k h1 h2 h3 hp [] m l G 0 f d j
def zni(w:u)(B b mo mp:Nat)(ua ra:Option cK)(uc rc:Nat)(st a:S.St)(ln:Nat)(j:Rd w B b mo mp ua uc ra rc st ln)(ps:List S.By)(c:∀ s∈ps,s.length<=4000)(d:S.readWord ps ln st=.ok a)(g:Nat)(h:g<w.heap.size)(e:strsAt w g ps)(i:B<=w.heap.size)(f:st.uses.length+1<=1000000)(k:AF w):Δ ω 259 #[aB (A ⟨b,0,G⟩),κ (A ⟨g,0,G⟩) ps.length ps.length] w (nt w B b mo mp a ln):=by
 match ps,c,d,e with
 | [p],c,d,e=>exact znf w B b mo mp ua ra uc rc st a ln j g 1 p (c p (by simp)) (e 0 p D) h (by omega) d i f k
 | [],_,d,_=>cases d
 | _::_::_,_,d,_=>cases d
def zha(w:u)(B b mo mp:Nat)(ua ra:Option cK)(uc rc:Nat)(st a:S.St)(ln:Nat)(g:Rd w B b mo mp ua uc ra rc st ln)(l:S.By)(k:l.length<=4000)(hc:ic l [58]=Γ)(h:S.readPlace (lq l [58]) st=.ok a)(c:B<=w.heap.size):Δ ω 208 #[aB (A ⟨b,0,G⟩),Ω (aT l)] w (nt w B b mo mp a ln):=by
 have i:=hid (zb3 l [58] (by omega) w);rw[hc] at i;have j:=hid (zk8 w B b mo mp ua ra uc rc st a ln g _ h c);clear g h hc;go_enter func208,ntmps208;go_wp2_with (first
  | (go_at_call 257;refine i.out.mono ?_;rintro e w' ⟨rfl,rfl⟩)
  | (go_at_call 258;refine j.out.mono ?_;rintro e w1 ⟨rfl,d,f⟩))
 first|go_end0|refine Ξ (mH D _ _ _) D ?_
 exact⟨D,d,f⟩
def zjq(w:u)(B b mo mp:Nat)(ua ra:Option cK)(uc rc:Nat)(st d:S.St)(ln:Nat)(v:Rd w B b mo mp ua uc ra rc st ln)(l:S.By)(P:l.length<=4000)(hc:ic l [58]=ξ)(x:(bA l [32]).1=S.plain)(I:(bA l [32]).2.1≠[])
 (y:S.readWord (il (bA l [32]).2.1 S.comma) ln st=.ok d) (g:B<=w.heap.size) (i:st.uses.length+1<=1000000) (m:AF w) :
 Δ ω 208 #[aB (A ⟨b,0,G⟩),Ω (aT l)] w (nt w B b mo mp d ln):=by
 have z:=hid (zb3 l [58] (by omega) w);rw[hc] at z;have E:=hid (zjn l [32] (by omega) w m);have F:=(zjo l [32]).2;have n:bG (∀ w1,AF w1->_):=λw1 o=>zig (bA l [32]).2.1 (by omega) w1 o
 have R:(aT (bA l [32]).2.1).toList.isEmpty=ξ:=by rw[yb];cases h:(bA l [32]).2.1 <;> simp_all
 rw[x] at E;have j:∀ s∈il (bA l [32]).2.1 S.comma,s.length<=4000:=λs L=>by have:=ze3 _ _ _ s L;omega
 have M:=hid v;have H:=hid m;have N:=hid y;have p:=hid j;generalize f:(bA l [32]).2.1=rest at *;clear v y hc m x j f I;have T:((aT S.plain).toList == [46,119,111,114,100])=Γ:=by rw[zdZ];rfl
 go_enter func208,ntmps208;go_wp2_with (first
  | (go_at_call 257;refine z.out.mono ?_;rintro e w' ⟨rfl,rfl⟩)
  | (go_at_call 53;refine E.out.mono ?_;rintro e w1 ⟨rfl,a⟩)
  | (go_at_call 169;refine(n.out _ (H.out.kept a)).mono ?_;rintro e w2 ⟨rfl,k,q,c⟩)
  | (go_at_call 259;refine(zni w2 B b mo mp ua ra uc rc st d ln (M.out.kept (bw a c)) _ p.out N.out w1.heap.size q k (ax g (bw a c).size) i (H.out.kept (bw a c))).mono ?_;rintro e U ⟨rfl,r,t⟩))
 first|go_end0|refine Ξ (mH D _ _ _) D ?_
 exact⟨D,r,(bB g (bw a c)).trans t⟩
def zhb(w:u)(B b mo mp:Nat)(ua ra:Option cK)(uc rc:Nat)(st f:S.St)(ln:Nat)(y:Rd w B b mo mp ua uc ra rc st ln)(l:S.By)(T:l.length<=4000)(hc:ic l [58]=ξ)(z:(bA l [32]).1≠S.plain)(L:(bA l [32]).2.1≠[])
 (E:S.readOrder (bA l [32]).1 (il (bA l [32]).2.1 S.comma) ln st=.ok f) (i:B<=w.heap.size) (j:st.uses.length+1<=1000000) (o:AF w) :
 Δ ω 208 #[aB (A ⟨b,0,G⟩),Ω (aT l)] w (nt w B b mo mp f ln):=by
 have F:=hid (zb3 l [58] (by omega) w);rw[hc] at F;have M:=hid (zjn l [32] (by omega) w o);have H:=(zjo l [32]).2;have p:bG (∀ w1,AF w1->_):=λw1 q=>zig (bA l [32]).2.1 (by omega) w1 q
 have U:(aT (bA l [32]).2.1).toList.isEmpty=ξ:=by rw[yb];cases h:(bA l [32]).2.1 <;> simp_all
 have V:((aT (bA l [32]).1).toList == [46,119,111,114,100])=ξ:=by rw[zdZ];simpa [S.plain] using z
 have k:∀ s∈il (bA l [32]).2.1 S.comma,s.length<=4000:=λs N=>by have:=ze3 _ _ _ s N;omega
 have P:=hid y;have I:=hid o;have R:=hid E;have r:=hid k;generalize g:(bA l [32]).2.1=rest at *;generalize m:(bA l [32]).1=c at *;clear y E hc o z k g L m;go_enter func208,ntmps208;go_wp2_with (first
  | (go_at_call 257;refine F.out.mono ?_;rintro e w' ⟨rfl,rfl⟩)
  | (go_at_call 53;refine M.out.mono ?_;rintro e w1 ⟨rfl,a⟩)
  | (go_at_call 169;refine(p.out _ (I.out.kept a)).mono ?_;rintro e w2 ⟨rfl,n,t,d⟩)
  | (go_at_call 260;refine(zlc w2 B b mo mp ua ra uc rc st f ln (P.out.kept (bw a d)) c _ r.out R.out (zqM _ _ _) w1.heap.size t n (ax i (bw a d).size) j (I.out.kept (bw a d))).mono ?_;rintro e W ⟨rfl,v,x⟩))
 first|go_end0|refine Ξ (mH D _ _ _) D ?_
 exact⟨D,v,(bB i (bw a d)).trans x⟩
def zjr(w:u)(B b mo mp:Nat)(ua ra:Option cK)(uc rc:Nat)(st d:S.St)(ln:Nat)(n:Rd w B b mo mp ua uc ra rc st ln)(l:S.By)(y:l.length<=4000)(hc:ic l [58]=ξ)(o:(bA l [32]).1≠S.plain)(p:(bA l [32]).2.1=[])
 (q:S.readOrder (bA l [32]).1 [] ln st=.ok d) (g:B<=w.heap.size) (h:st.uses.length+1<=1000000) (j:AF w) :
 Δ ω 208 #[aB (A ⟨b,0,G⟩),Ω (aT l)] w (nt w B b mo mp d ln):=by
 have r:=hid (zb3 l [58] (by omega) w);rw[hc] at r;have s:=hid (zjn l [32] (by omega) w j);have z:(aT (bA l [32]).2.1).toList.isEmpty=Γ:=by rw[yb,p];rfl
 have E:((aT (bA l [32]).1).toList == [46,119,111,114,100])=ξ:=by rw[zdZ];simpa [S.plain] using o
 have t:=hid n;have v:=hid j;have x:=hid q;generalize f:(bA l [32]).2.1=rest at *;generalize i:(bA l [32]).1=a at *;clear n q hc j o f p i;go_enter func208,ntmps208;go_wp2_with (first
  | (go_at_call 257;refine r.out.mono ?_;rintro e w' ⟨rfl,rfl⟩)
  | (go_at_call 53;refine s.out.mono ?_;rintro e w1 ⟨rfl,c⟩)
  | (go_at_call 260;refine(zjp w1 B b mo mp ua ra uc rc st d ln (t.out.kept c) a x.out (ax g c.size) h (v.out.kept c)).mono ?_;rintro e F ⟨rfl,k,m⟩))
 first|go_end0|refine Ξ (mH D _ _ _) D ?_
 exact⟨D,k,(bB g c).trans m⟩
def znj(w:u)(B b mo mp:Nat)(ua ra:Option cK)(uc rc:Nat)(st c:S.St)(ln:Nat)(h:Rd w B b mo mp ua uc ra rc st ln)(l:S.By)(i:l.length<=4000)(a:S.readLine l ln st=.ok c)(e:B<=w.heap.size)(d:st.uses.length+1<=1000000)(j:AF w):Δ ω 208 #[aB (A ⟨b,0,G⟩),Ω (aT l)] w (nt w B b mo mp c ln):=by
 unfold S.readLine at a;cases hc:ic l [58] with
 | true =>
  rw[hc,am D] at a;exact zha w B b mo mp ua ra uc rc st c ln h l i hc a e
 | false =>
  rw[hc,ae (by simp)] at a;by_cases g:(bA l [32]).1=S.plain
  ·rw[am g] at a
   by_cases f:(bA l [32]).2.1=[]
   ·unfold S.partsOf at a
    rw[am f] at a;cases a
   ·unfold S.partsOf at a
    rw[ae f] at a;exact zjq w B b mo mp ua ra uc rc st c ln h l i hc g f a e d j
  ·rw[ae g] at a
   by_cases f:(bA l [32]).2.1=[]
   ·unfold S.partsOf at a
    rw[am f] at a;exact zjr w B b mo mp ua ra uc rc st c ln h l i hc g f a e d j
   ·unfold S.partsOf at a
    rw[ae f] at a;exact zhb w B b mo mp ua ra uc rc st c ln h l i hc g f a e d j
/-! ### how many uses a line leaves -/
def put_uses{ws:List Int}{nm:S.By}{ln:Nat}{st a:S.St}(h:S.put ws nm ln st=.ok a):a.uses.length<=st.uses.length+1:=by
 obtain⟨_,rfl⟩:=zjj h;simp only;split <;> simp
def zld{l:S.By}{ln:Nat}{st b:S.St}(h:S.readLine l ln st=.ok b):b.uses.length<=st.uses.length+1:=by
 unfold S.readLine at h;split at h
 ·obtain⟨_,_,rfl⟩:=zf4 h;simp
 ·split at h
  ·match hp:S.partsOf (bA l [32]).2.1,h with
   | [p],h=>obtain⟨v,nm,_,_,_,a⟩:=zjk h;exact put_uses a
   | [],h=>cases h
   | _::_::_,h=>cases h
  ·obtain⟨k,o,nm,_,_,_,_,_,_,a⟩:=zeo h
   exact put_uses a
def zf5{f:Nat}{s:S.By}{ln:Nat}{st b:S.St}(c:s≠[])(h:S.readLines (f+1) s ln st=.ok b):(bA s [10]).2.2=Γ /\ ∃ a,S.readLine (bA s [10]).1 ln st=.ok a/\S.readLines f (bA s [10]).2.1 (ln+1) a=.ok b:=by
 unfold S.readLines at h;rw[ae c] at h;split at h
 ·rename_i hc
  split at h
  ·rename_i a d
   exact⟨hc,a,d,h⟩
  ·cases h
 ·cases h
def zpN(s:S.By)(a:s≠[])(h:(bA s [10]).2.2=Γ):(bA s [10]).2.1.length<s.length:=by
 have hp:s.length≠0:=λe=>a (bM.1 e)
 unfold bA at h ⊢;split at h
 ·rename_i hi
  rw[am hi];simp;omega
 ·cases h
def zle(w:u)(B b mo mp:Nat)(ua ra:Option cK)(uc rc:Nat)(st k:S.St)(v:Rd w B b mo mp ua uc ra rc st 0)(y:st.uses=[])(s:S.By)(hl:s.length<=4000)(T:S.readLines s.length s 0 st=.ok k)(z:B<=w.heap.size)(V:AF w)(E:bG (∀ w',Below B w w'->AF w')):Δ ω 129 #[aB (A ⟨b,0,G⟩),Ω (aT s)] w λe w'=>e=μ (Ψ #[])/\(∃ F ua' uc' ra' rc',Rd w' B b mo mp ua' uc' ra' rc' k F)/\Below B w w':=by
 have W:=hid v;have X:=hid T;have H:=v.hB;clear v T V;go_enter func129,ntmps129;go_wp2;go_loopw [1] (λr wr=>∃(t:S.By) (f ln:Nat) (c:S.St) (ua':Option cK) (uc':Nat) (ra':Option cK) (rc':Nat),r=Ω (aT t)/\t.length<=f/\t.length+ln<=4000/\S.readLines f t ln c=.ok k/\c.uses.length<=ln/\Rd wr B b mo mp ua' uc' ra' rc' c ln/\Below B w wr) (λr _=>match r with | Ω x=>x.size|_=>0)
 case atStart=>exact⟨s,s.length,0,st,ua,uc,ra,rc,D,ψ _,by omega,X.out,by rw[y];exact ψ _,W.out,bq _ _⟩
 case round =>
  obtain⟨t,f,ln,c,ua',uc',ra',rc',rfl,Z,htl,g,hul,o,h⟩:=hrel;have j:=ax z h.size;by_cases q:t=[]
  ·subst q
   rw[S.readLines_nil] at g;cases g;have he:(aT []).toList.isEmpty=Γ:=yb [];go_wp2;go_end0;exact⟨D,⟨ln,ua',uc',ra',rc',o⟩,h⟩
  ·have he:(aT t).toList.isEmpty=ξ:=by rw[yb];cases t <;> simp_all
   have htp:t.length≠0:=λe=>q (bM.1 e)
   obtain⟨I,rfl⟩:∃ I,f=I+1:=⟨f-1,by omega⟩
   obtain⟨hcut,p,l,d⟩:=zf5 q g;have m:=zpN t q hcut;have hl1:=(zjo t [10]).1;have n:=E.out wr h;have U:=hid (zjn t [10] (by omega) wr n);rw[hcut] at U;have HL:bG (∀ w1,Below wr.heap.size wr w1->_):=λw1 (a:Below wr.heap.size wr w1)=>znj w1 B b mo mp ua' ra' uc' rc' c p ln (o.kept a) (bA t [10]).1 (by omega) l (ax j a.size) (by omega) (n.kept a)
   have hu2:=zld l;have HN:=hid d;clear g hcut l d n;go_wp2_with (first
    | (go_at_call 53;refine U.out.mono ?_;rintro e w1 ⟨rfl,a⟩)
    | (go_at_call 208;refine(HL.out w1 a).mono ?_;rintro e w2 ⟨rfl,⟨L,M,N,P,i⟩,R⟩;have c4:w2.cell? ⟨b,4,G⟩=A (J Q ln):=i.cell 4;have f4:=i.frozen 4;have z4:=i.lt))
   refine⟨⟨(bA t [10]).2.1,I,ln+1,p,L,M,N,P,D,by omega,by omega,HN.out,by omega,i.put_line (ln+1),((h.trans (bB j a)).trans R).setCell H _⟩,?_⟩;show (bA t [10]).2.1.length<t.length;exact m
/-! ### what holds of what a reader has read -/
def Inv(st:S.St):Prop:=st.rom.length<=1024/\(∀ θ∈st.uses,θ.2.1+2<=st.rom.length) /\ ∀ p∈st.places,p.2<=1024
def zsJ{ws:List Int}{nm:S.By}{ln:Nat}{st b:S.St}(hi:Inv st)(d:0<ws.length)(h:S.put ws nm ln st=.ok b):Inv b:=by
 obtain⟨c,rfl⟩:=zjj h;obtain⟨e,i2,i3⟩:=hi;refine⟨by simp[zc];exact c,λθ a=>?_,i3⟩;simp only[az,zc] at a ⊢;split at a
 ·have:=i2 θ a;omega
 ·rcases cO.1 a with a|a
  ·have:=i2 θ a;omega
  ·simp at a;subst a;simp only;omega
def zvP{l:S.By}{ln:Nat}{st b:S.St}(hi:Inv st)(h:S.readLine l ln st=.ok b):Inv b:=by
 unfold S.readLine at h;split at h
 ·obtain⟨_,_,rfl⟩:=zf4 h
  obtain⟨c,i2,i3⟩:=hi;refine⟨c,i2,λp hp=>?_⟩;rcases cO.1 hp with hp|hp
  ·exact i3 p hp
  ·simp at hp;subst hp;exact c
 ·split at h
  ·match hp:S.partsOf (bA l [32]).2.1,h with
   | [p],h=>obtain⟨v,nm,_,_,_,a⟩:=zjk h;exact zsJ hi (by simp) a
   | [],h=>cases h
   | _::_::_,h=>cases h
  ·obtain⟨k,o,nm,_,_,_,_,_,_,a⟩:=zeo h
   exact zsJ hi (zla k o) a
def zlf:∀(f:Nat) (s:S.By) (ln:Nat) (st a:S.St),Inv st->S.readLines f s ln st=.ok a->Inv a
 | 0,s,ln,st,a,hi,h=>by cases h;exact hi
 | f+1,s,ln,st,a,hi,h=>by
  by_cases b:s=[]
  ·subst b;rw[S.readLines_nil] at h;cases h;exact hi
  ·obtain⟨_,c,d,e⟩:=zf5 b h
   exact zlf f _ _ _ _ (zvP hi d) e
def zvQ:Inv S.St.zero:=⟨by simp[S.St.zero],by simp[S.St.zero],by simp[S.St.zero]⟩
section
variable {w : u} {B b mo mp : Nat} {ua : Option cK} {uc rc rg : Nat} {st : S.St} {ln : Nat}
def Rd.set_rom(h:Rd w B b mo mp ua uc (A ⟨rg,0,G⟩) rc st ln)(i:Nat)(x:UInt8):Rd (w.setCell ⟨rg,i,G⟩ (J au x.toNat)) B b mo mp ua uc (A ⟨rg,0,G⟩) rc { st with rom:=st.rom.set i x } ln:=by
 obtain⟨d,a⟩:=h.rom.stored i (J au x.toNat);have hb:(κ (A ⟨rg,0,G⟩) st.rom.length rc).ownBlock=A rg:=D;refine⟨h.hB,?_,h.ops.of_block (qB a h.ops.lt (λe=>h.rom_mo (hb.trans e.symm))),h.places.of_block (qB a h.places.lt (λe=>h.rom_mp (hb.trans e.symm))),h.hmp,h.ne,h.uses.kept a (h.rows.imp id (λc=>by rw[hb] at c;exact c)),?_⟩
 ·simp only[pE]
  exact(qB a h.lt (λe=>h.rom_b (hb.trans e.symm))).trans h.blk
 ·simp only[pE]
  have e:aV (st.rom.set i x)=(aV st.rom).set i (J au x.toNat):=by unfold aV;rw[oJ]
  rw[e];exact d
def Rd.rg_ne(h:Rd w B b mo mp ua uc (A ⟨rg,0,G⟩) rc st ln):rg≠b/\rg<w.heap.size/\B<=rg:=by
 have h1:=h.rom_b;have h2:=h.rom.lt rg D;exact⟨λe=>h1 (by rw[e];rfl),h2.2,h2.1⟩
end
def zf6:∀(a:List (S.By × Nat × Nat)) (j:Nat) (θ:S.By × Nat × Nat),a[j]?=A θ->(iF a)[j*3]?=A (Ω (aT θ.1))/\(iF a)[j*3+1]?=A (J Q θ.2.1)/\(iF a)[j*3+2]?=A (J Q θ.2.2)
 | [],j,θ,h=>by simp at h
 | v::a,0,θ,h=>by simp at h;subst h;exact⟨D,D,D⟩
 | v::a,j+1,θ,h=>by
  have b:=zf6 a j θ (by simpa using h);rw[show (j+1)*3=j*3+3 by omega,show j*3+3+1=(j*3+1)+3 by omega,show j*3+3+2=(j*3+2)+3 by omega];exact b
def znk(w:u)(B b mo mp:Nat)(ua ra:Option cK)(uc rc:Nat)(st:S.St)(ln:Nat)(a:Rd w B b mo mp ua uc ra rc st ln)(c:st.uses=[]):Δ ω 130 #[aB (A ⟨b,0,G⟩)] w λe w'=>e=μ (Ψ #[])/\w'=w:=by
 have c2:w.cell? ⟨b,2,G⟩=A (κ ua 0 uc):=by have:=a.cell 2;rw[c] at this;exact this
 have d:=a.lt;clear a;go_enter func130,ntmps130;go_wp2
 go_loop [11] (λi=>i=J Q 0) (λ_=>0)
 case atStart=>rfl
 case round =>
  subst hrel;go_wp2;go_end0;exact⟨D,D⟩
def zlg{w:u}{mp:Nat}{ps:List (S.By × Nat)}(h:kM w mp (pl ps))(c:S.By)(p:S.By × Nat)(a:ps.find? (λp=>p.1 == c)=A p):(dV 216 (.map (A mp)) (Ω (aT c)) Γ).run ω w=.ok (Ψ #[J Q p.2,ν Γ]) w:=by
 have:=zjh (P:=ω) underlying216 underlying9 h (aT c) (zjl w);rw[zsG,sK,a] at this;exact this
def zyw{ps:List (S.By × Nat)}{θ:S.By × Nat × Nat}{b:List (S.By × Nat × Nat)}{rom a:S.By}(h:S.lay ps (θ::b) rom=.ok a):∃ p,ps.find? (λp=>p.1 == θ.1)=A p/\S.lay ps b ((rom.set θ.2.1 (bF (p.2/256))).set (θ.2.1+1) (bF (p.2%256)))=.ok a:=by
 unfold S.lay at h;split at h
 ·cases h
 ·rename_i p hp
  exact⟨p,hp,h⟩
def znl(w:u)(B b mo mp l uc rg rc:Nat)(st:S.St)(ln:Nat)(r:Rd w B b mo mp (A ⟨l,0,G⟩) uc (A ⟨rg,0,G⟩) rc st ln)(hu:0<st.uses.length)(Z:st.uses.length<=100000)(hi:Inv st)(h:S.By)(N:S.lay st.places st.uses st.rom=.ok h)(F:B<=w.heap.size):Δ ω 130 #[aB (A ⟨b,0,G⟩)] w λe w'=>e=μ (Ψ #[])/\Rd w' B b mo mp (A ⟨l,0,G⟩) uc (A ⟨rg,0,G⟩) rc { st with rom:=h } ln/\Below B w w':=by
 have c2:w.cell? ⟨b,2,G⟩=A (κ (A ⟨l,0,G⟩) st.uses.length uc):=r.cell 2;have hlt:=r.lt;have hBb:=r.hB;have HR:=hid r;have HS:=hid N;have HI:=hid hi;clear r N hi;go_enter func130,ntmps130;go_wp2;go_loopw [11] (λi wr=>∃(j:Nat) (rom:S.By),j<=st.uses.length/\i=J Q j/\rom.length=st.rom.length/\S.lay st.places (st.uses.drop j) rom=.ok h/\Rd wr B b mo mp (A ⟨l,0,G⟩) uc (A ⟨rg,0,G⟩) rc { st with rom:=rom } ln/\Below B w wr) (λi _=>st.uses.length-(aU i).toNat)
 case atStart=>exact⟨0,st.rom,by omega,D,D,HS.out,HR.out,bq _ _⟩
 case round =>
  obtain⟨j,rom,hj,rfl,s,d,c,o⟩:=hrel;have t:=ax F o.size;by_cases x:j<st.uses.length
  ·have hjI:(j:Int)<st.uses.length:=by omega
   obtain⟨θ,m⟩:∃ θ,st.uses[j]?=A θ:=⟨_,aq x⟩
   rw[drop_at m] at d;obtain⟨p,k,g⟩:=zyw d;obtain⟨nm,a,y⟩:=θ;obtain⟨pn,f⟩:=p;obtain⟨P,i2,i3⟩:=HI.out;have H:=i2 _ (bu m);have I:=i3 _ (gN k);simp only at H I g k;obtain⟨k0,k1,k2⟩:=zf6 _ _ _ m;have L:=c.uses.lt l D;have u0:wr.cell? ⟨l,j*3,G⟩=A (Ω (aT nm)):=by rw[c.uses.cellAt (j*3) (by simp only;omega)];exact k0
   have u1':wr.cell? ⟨l,j*3+1,G⟩=A (J Q a):=by rw[c.uses.cellAt (j*3+1) (by simp only;omega)];exact k1
   have u2':wr.cell? ⟨l,j*3+2,G⟩=A (J Q y):=by rw[c.uses.cellAt (j*3+2) (by simp only;omega)];exact k2
   have R:l<wr.heap.size:=L.2;have c1:wr.cell? ⟨b,1,G⟩=A (.map (A mp)):=c.cell 1;have c3:wr.cell? ⟨b,3,G⟩=A (κ (A ⟨rg,0,G⟩) st.rom.length rc):=by have:=c.cell 3;simp only[s] at this;exact this
   have hbr:=c.lt;obtain⟨hgb,hgl,z⟩:=c.rg_ne;have E:=hid (c.kept (stA (aR wr) (χ #[Ω (aT nm),J Q a,J Q y] 277)));have hlk:∀ q,(dV 216 (.map (A mp)) (Ω (aT nm)) Γ).run ω ((wr.alloc (χ #[Ω (aT nm),J Q a,J Q y] 277)).drewN q)=.ok (Ψ #[J Q f,ν Γ]) ((wr.alloc (χ #[Ω (aT nm),J Q a,J Q y] 277)).drewN q):=λq =>
    zlg ((E.out.kept (rq (aR _) q)).places) nm (pn,f) k
   have HN:=hid g;have HFP:=hid k;have n:=hid c;have hr1:st.rom.length<=1024:=P;clear d g k m k0 k1 k2 P i2 i3 c;have T:(a:Int)<st.rom.length:=by omega
   have U:(a:Int)+1<st.rom.length:=by omega
   have V:(0:Int)<=(a:Int)+1:=by omega
   have W:(0:Int)<=(a:Int):=by omega
   have hn1:rg≠wr.heap.size:=by omega
   obtain⟨va,da⟩:∃ v,wr.cell? ⟨rg,a,G⟩=A v:=⟨_,(n.out.rom.cellAt a (by simp only;omega)).trans (aq (by rw[zcS];simp only;omega))⟩
   obtain⟨vb,db⟩:∃ v,wr.cell? ⟨rg,a+1,G⟩=A v:=⟨_,(n.out.rom.cellAt (a+1) (by simp only;omega)).trans (aq (by rw[zcS];simp only;omega))⟩
   have fa:wr.frozen? ⟨rg,a,G⟩=ξ:=n.out.rom.frozenAt a;have fb:wr.frozen? ⟨rg,a+1,G⟩=ξ:=n.out.rom.frozenAt (a+1);have X:(f:Int)<=65535:=by omega
   have hwp:IntKind.u16.wrap (f:Int)=f:=by rw[bj];omega
   have hwa:IntKind.i64.wrap ((a:Int)+1)=(a:Int)+1:=by rw[aH];omega
   go_wp2;go_quiet (fail)
   go_wp2;go_region_held3 (λw'=>w'.cell? ⟨b,3,G⟩=A (κ (A ⟨rg,0,G⟩) st.rom.length rc)/\w'.cell? ⟨wr.heap.size,1,G⟩=A (J Q a))
    (first
      | go_keep
      | (go_split_ands
         refine⟨?_,?_⟩
         ·(rw[ap _ _ _ _ (by simp;omega)];assumption)
         ·(rw[ap _ _ _ _ (by simp;omega)];assumption)))
    ((go_at_call 209;refine(zif f _ (by omega) (by omega)).mono ?_;rintro e w' ⟨rfl,rfl⟩))
   go_wp2;have e1:(J au ((f:Int)/256):π)=J au ((bF (f/256)).toNat:Nat):=by rw[show (bF (f/256)).toNat=f/256 by simp;omega];rfl
   have e2:(J au ((f:Int)%256):π)=J au ((bF (f%256)).toNat:Nat):=by rw[show (bF (f%256)).toNat=f%256 by simp];rfl
   rw[e1,e2];refine⟨⟨j+1,(rom.set a (bF (f/256))).set (a+1) (bF (f%256)),by omega,by simp,by simp[s],HN.out,((E.out.kept (rq (aR _) (nq+1))).set_rom a _).set_rom (a+1) _,?_⟩,by simp[aU];omega⟩;have hd:Below B w ((wr.alloc (χ #[Ω (aT nm),J Q a,J Q y] 277)).drewN (nq+1)):=(o.alloc t _).trans (bB (by simp;omega) (rq (aR _) (nq+1)));exact(hd.setCell z _).setCell z _
  ·have M:j=st.uses.length:=by omega
   subst M;rw[fu] at d;cases d;go_wp2;go_end0;exact⟨D,c,o⟩
def zlh(w:u)(B b mo mp:Nat)(ua ra:Option cK)(uc rc:Nat)(st:S.St)(ln:Nat)(d:Rd w B b mo mp ua uc ra rc st ln)(f:st.uses.length<=100000)(hi:Inv st)(c:S.By)(i:S.lay st.places st.uses st.rom=.ok c)(j:B<=w.heap.size):Δ ω 130 #[aB (A ⟨b,0,G⟩)] w λe w'=>e=μ (Ψ #[])/\Rd w' B b mo mp ua uc ra rc { st with rom:=c } ln/\Below B w w':=by
 by_cases k:st.uses=[]
 ·rw[k] at i
  cases i;exact(znk w B b mo mp ua ra uc rc st ln d k).mono λe w' m=>⟨m.1,m.2 ▸ d,m.2 ▸ bq _ _⟩
 ·have n:0<st.uses.length:=by cases h:st.uses <;> simp_all
  obtain⟨θ,o⟩:∃ θ,θ∈st.uses:=by cases h:st.uses with
   | nil=>exact absurd h k
   | cons a l=>exact⟨a,by simp⟩
  have v:=hi.2.1 θ o;have p:∃ q,ua=A ⟨q,0,G⟩:=by
   rcases d.uses.2 with⟨h,x⟩|⟨g,r,s,h,_⟩
   ·omega
   ·exact⟨g,by injection h⟩
  have t:∃ rg,ra=A ⟨rg,0,G⟩:=by
   rcases d.rom.2 with⟨h,x⟩|⟨g,r,s,h,_⟩
   ·omega
   ·exact⟨g,by injection h⟩
  obtain⟨q,rfl⟩:=p;obtain⟨rg,rfl⟩:=t;exact znl w B b mo mp q uc rg rc st ln d n f hi c i j
def zqN(p q r:Option cK)(w:u):CallsD ω 127 #[.pointer p,.pointer q,.pointer r] .returning w λe a w'=>e=μ (Ψ #[])/\a=.returning/\w'=w:=by
 refine callsD_of_wpS func127 D λb cs c=>?_
 apply wpS_seq;apply wpS_region;simp[wpOpsS,go_sem,recoverD,c,ntmps127,p8];apply wpS_seq;apply wpS_seq;apply wpS_region;simp[wpOpsS,go_sem,p8];refine wpS_cond (t:=Γ) (by simp[rM,Array.replicate]) ?_;simp only[fO];refine wpS_of_wp (wp_ret ?_);cases b
 simp_all [p8,bodyPostS,results,results127]
def znm{w:u}{B:Nat}{ra:Option cK}{rc:Nat}{rom:S.By}(h:w.ownsRow B 5 1 (κ ra rom.length rc) rom.length (aV rom)):jF w (κ ra rom.length rc) rom:=by
 by_cases d:rom.length=0
 ·have:rom=[]:=bM.1 d
  subst this;exact aj ⟨ra,rc,D,D⟩
 ·obtain⟨g,e,f,_,i,hc,a⟩:=zdY h (by omega)
  injection f with h1 h2 h3
  subst h1;subst h3;refine ao ⟨g,0,rc,D,hc,i,λj c b=>?_⟩;rw[aX,a j (ay.1 b).1];unfold aV;rw[bn,b];rfl
def zyx(w1:u)(B:Nat)(b:kM w1 B (j0 32))(hB:B<=w1.heap.size):Rd ((w1.alloc (.map #[] 0)).alloc (χ #[.map (A B),.map (A w1.heap.size),κ G 0 0,κ G 0 0,J Q 0] 220)) B (w1.heap.size+1) B w1.heap.size G 0 G 0 S.St.zero 0:=by
 have a:=b.lt;have h1:(w1.alloc (.map #[] 0)).heap.size=w1.heap.size+1:=by simp
 refine⟨by omega,?_,?_,?_,hB,by omega,⟨D,aj ⟨D,D⟩⟩,⟨D,aj ⟨D,D⟩⟩⟩
 ·rw[<- h1];exact aM _ _
 ·exact b.of_block ((bJ _ _ (by omega)).trans (bJ _ _ a))
 ·exact(zk4 w1).of_block (bJ _ _ (by omega))
def zih:∀(f:Nat) (s:S.By) (ln:Nat) (st a:S.St),s.length<=f->S.readLines f s ln st=.ok a->a.uses.length<=st.uses.length+s.length
 | 0,s,ln,st,a,c,h=>by cases h;omega
 | f+1,s,ln,st,a,c,h=>by
  by_cases b:s=[]
  ·subst b;rw[S.readLines_nil] at h;cases h;omega
  ·obtain⟨hc,d,e,g⟩:=zf5 b h
   have h1:=zpN s b hc;have h2:=zih f _ _ _ _ (by omega) g;have h3:=zld e;omega
def zhc(w1:u)(B:Nat)(f:kM w1 B (j0 32))(hB:B<=w1.heap.size)(s:S.By)(g:s.length<=4000)(a:S.St)(h:S.readLines s.length s 0 S.St.zero=.ok a)(d:∀ w',Below B w1 w'->AF w'):Δ ω 129 #[aB (A ⟨w1.heap.size+1,0,G⟩),Ω (aT s)] ((w1.alloc (.map #[] 0)).alloc (χ #[.map (A B),.map (A w1.heap.size),κ G 0 0,κ G 0 0,J Q 0] 220)) λe w' =>
  e=μ (Ψ #[])/\(∃ b ua' uc' ra' rc',Rd w' B (w1.heap.size+1) B w1.heap.size ua' uc' ra' rc' a b)/\Below B w1 w':=by
 have c:Below B w1 ((w1.alloc (.map #[] 0)).alloc (χ #[.map (A B),.map (A w1.heap.size),κ G 0 0,κ G 0 0,J Q 0] 220)):=((bq B w1).alloc hB _).alloc (by simp;omega) _;exact(zle _ B (w1.heap.size+1) B w1.heap.size G G 0 0 S.St.zero a (zyx w1 B f hB) D s g h (by simp;omega) (d _ c) (hid (λw' hb=>d w' (c.trans hb)))).mono λe w' ⟨i,h1,h2⟩=>⟨i,h1,c.trans h2⟩
def zsK{w a:u}{o1 o2 o3:π}{b t2 t3:aJ}(h:Below (w.heap.size+1+1+1) (((w.alloc (χ #[o1] b)).alloc (χ #[o2] t2)).alloc (χ #[o3] t3)) a):(a.heap[w.heap.size]?=A (χ #[o1] b (0,0))/\a.heap[w.heap.size+1]?=A (χ #[o2] t2 (0,0))/\a.heap[w.heap.size+1+1]?=A (χ #[o3] t3 (0,0)))/\w.heap.size+1+1+1<=a.heap.size:=by
 have s1:(w.alloc (χ #[o1] b)).heap.size=w.heap.size+1:=by simp
 have s2:((w.alloc (χ #[o1] b)).alloc (χ #[o2] t2)).heap.size=w.heap.size+1+1:=by simp
 refine⟨⟨?_,?_,?_⟩,by have:=h.size;simp at this;omega⟩
 ·rw[h.block _ (by omega),bJ _ _ (by omega),bJ _ _ (by omega)];exact aM _ _
 ·rw[h.block _ (by omega),bJ _ _ (by omega),<- s1];exact aM _ _
 ·rw[h.block _ (by omega),<- s2];exact aM _ _
def znn(s:S.By)(R:s.length<=4000)(b:S.St)(a:S.By)(t:S.readLines s.length s 0 S.St.zero=.ok b)(L:S.lay b.places b.uses b.rom=.ok a)(w:u)(M:AF w):Δ ω 67 #[Ω (aT s)] w λe w'=>∃ v,e=μ (Ψ #[v,J Q 0,J Q 0])/\jF w' v a/\Below w.heap.size w w':=by
 have T:∀(N:Fn) (first m:Array π) (w:u),(Instr.makeFunc N first m).run ω w=.ok (.func N first m) w:=λ_ _ _ _=>D
 have U:=@lL ω;have y:b.uses.length<=100000:=by have:=zih _ _ _ _ _ (ψ _) t;simp[S.St.zero] at this;omega
 have V:=hid (zlf _ _ _ _ _ zvQ t);have P:=hid M;have W:=hid t;have X:=hid L;have n:bG (Below w.heap.size w (((w.alloc (χ #[κ G 0 0] 26)).alloc (χ #[J Q 0] 3)).alloc (χ #[J Q 0] 48))):=stA (stA (stA (aR w) _) _) _;have z:bG ((((w.alloc (χ #[κ G 0 0] 26)).alloc (χ #[J Q 0] 3)).alloc (χ #[J Q 0] 48)).heap.size=w.heap.size+1+1+1):=by show _=_;simp
 clear M t L
 go_enter_defers func67,ntmps67
 go_wp2_with (first
  | (go_at_call 128;refine(zji _ (rZ (rZ (rZ P.out _) _) _).shapes).mono ?_;rintro e w1 ⟨rfl,g,j⟩;rw[z.out] at g j;have o:=g.lt)
  | (go_at_call 129;refine(zhc w1 (w.heap.size+1+1+1) g (iy o) s R b W.out (λw' hb=>P.out.kept (n.out.trans ((j.trans hb).mono (kg _ 3))))).mono ?_;rintro e w2 ⟨rfl,⟨B,ua,uc,ra,rc,p⟩,q⟩)
  | (go_at_call 130;refine(zlh w2 _ _ _ _ ua ra uc rc b B p y V.out a X.out (ax (iy o) q.size)).mono ?_;rintro e x ⟨rfl,c,E⟩;have r:=(j.trans q).trans E;obtain⟨⟨k1,k2,F⟩,Z⟩:=zsK r;have c3:x.cell? ⟨w1.heap.size+1,3,G⟩=A (κ ra a.length rc):=c.cell 3;have z3:=c.lt;have d1:x.cell? ⟨w.heap.size,0,G⟩=A (κ G 0 0):=Lib.cell_of_heap k1 0;have d2:x.cell? ⟨w.heap.size+1,0,G⟩=A (J Q 0):=Lib.cell_of_heap k2 0;have d3:x.cell? ⟨w.heap.size+1+1,0,G⟩=A (J Q 0):=Lib.cell_of_heap F 0;have f1:=Lib.frozen_of_heap k1 0;have f2:=Lib.frozen_of_heap k2 0;have f3:=Lib.frozen_of_heap F 0;have H:=hid c;clear c p k1 k2 F))
 refine leaves_cons (f:=127) (args:=#[aB (A ⟨w.heap.size,0,G⟩),aB (A ⟨w.heap.size+1,0,G⟩),aB (A ⟨w.heap.size+1+1,0,G⟩)]) (by simp) (by simp[go_sem]) ?_;refine(zqN _ _ _ _).mono ?_;rintro e u' w'' ⟨rfl,rfl,rfl⟩;simp[Leaves,settle,results,results67,go_sem,d1,d2,d3];have d:=H.out.rom;have I:=λk hk=>(d.lt k hk).1
 have l:∀ i,i<w.heap.size+1+1+1->(κ ra a.length rc).ownBlock≠A i:=λi hi h=>by have:=I i h;omega
 refine⟨znm (((d.kept (za _ _ _ _) (ao (l _ (by omega)))).kept (za _ _ _ _) (ao (l _ (by omega)))).kept (za _ _ _ _) (ao (l _ (by omega)))),?_⟩;exact(((n.out.trans (r.mono (by omega))).setCell (ψ _) _).setCell (by simp) _).setCell (by simp;omega) _
def zvR{s rom:S.By}(h:S.readText s=.ok rom):∃ a,S.readLines s.length s 0 S.St.zero=.ok a/\S.lay a.places a.uses a.rom=.ok rom:=by
 unfold S.readText at h;split at h
 ·rename_i st b
  exact⟨st,b,h⟩
 ·cases h
def zno(s:S.By)(w:u):Δ ω 66 #[Ω (aT s),Ω ⟨#[10]⟩] w λe w'=>e=μ (J Q (s.count 10:Nat))/\w=w' :=
 (Tryz.strings_Count_one (aT s) 10 w).mono λe w' a=>⟨a.1,a.2.symm⟩
def zpO(s rom:S.By)(f:s.length<=4000)(hc:s.count 10<=300)(c:S.readText s=.ok rom)(w:u)(d:AF w):Δ ω 36 #[Ω (aT s)] w λe w'=>∃ v,e=μ (Ψ #[v,J Q 0,J Q 0])/\jF w' v rom/\Below w.heap.size w w':=by
 obtain⟨a,h1,h2⟩:=zvR c;have g:=hid (znn s f a rom h1 h2 w d);have h:¬ (4000:Int)<(aT s).size:=by rw[sU];omega
 have i:¬ (300:Int)<(s.count 10:Nat):=by omega
 clear d c h1 h2;go_enter func36,ntmps36;go_wp2_with (first
  | (go_at_call 66;refine(zno s _).mono ?_;rintro e w' ⟨rfl,rfl⟩)
  | (go_at_call 67;refine g.out.mono ?_;rintro e w1 ⟨v,rfl,j,b⟩))
 go_ret3
 exact⟨v,D,j,b⟩
/-! ### bytes -/
/-! ### the closed fact -/
def znp{W:u}{l:List (String × fF Unit)}(h:laidMet ω l W)(b:("internal/strconv.uint64pow10",Rows.laid_internal_strconv_uint64pow10)∈l):fm ω W "internal/strconv.uint64pow10" .u64 iZ:=by
 obtain⟨g,t,cs,fuel,p,c,d,e,a⟩:=Lib.laidMet.reads h b;have e2:(Tryz.prog.globals[6]?).map (·.type)=A 397:=by kernel_rfl
 obtain rfl:=aL (g_pow.symm.trans c);obtain rfl:=aL (e2.symm.trans d);have e3:(Rows.laid_internal_strconv_uint64pow10:fF Unit)=Lib.tabData .u64 iZ:=by kernel_rfl
 rw[e3] at a;unfold fm;rw[e,<- Lib.cells_of_tab underlying397 underlying350 (by kernel_rfl) (by kernel_rfl) a]
def sL{W:u}{l:List (String × fF Unit)}(h:laidMet ω l W)(a:W.ShapedOpen ω)(h1:("internal/strconv.uint64pow10",Rows.laid_internal_strconv_uint64pow10)∈l)(h2:("marquee/order.shapes",Rows.laid_marquee_order_shapes)∈l):AF W :=
 ⟨znp h h1,zfZ a,zdS h h2⟩
/-! ### plain numbers -/
def TM.tick(t:TM):TM:=if t.on then (if t.c=0 then ⟨t.r,t.r,Γ,Γ⟩ else ⟨t.r,t.c-1,Γ,t.g⟩) else t
def qh(r c:Int)(on:Bool)(n:Int):Int:=if on then (if n<c+1 then c-n else r-(n-(c+1))%(r+1)) else c
def qm(c:Int)(on g:Bool)(n:Int):Bool:=if on then (if n<c+1 then g else Γ) else g
def TM.run(t:TM)(n:Int):TM:=⟨t.r,qh t.r t.c t.on n,t.on,qm t.c t.on t.g n⟩
def TM.tick_eq(t:TM):t.tick=⟨t.r,oA t.r t.c t.on,t.on,oR t.c t.on t.g⟩:=by
 obtain⟨r,c,on,g⟩:=t;unfold TM.tick oA oR;cases on
 ·rfl
 ·by_cases h:c=0 <;> simp[h]
def znO(m k:Int)(b:0<=m)(a:0<k):(m+1)%k=if m%k=k-1 then 0 else m%k+1:=by
 have h1:=dL m (show k≠0 by omega);have h2:=dE m a;have e:m+1=(m%k+1)+k*(m/k):=by have:=iM m k;omega
 rw[e,iX];split
 ·rename_i h;rw[h];simp
 ·exact oP (by omega) (by omega)
def TM.run_tick(t:TM)(f:0<=t.r)(hc:0<=t.c)(n:Int)(h:0<=n):(t.run n).tick=t.run (n+1):=by
 obtain⟨r,c,on,g⟩:=t;rw[TM.tick_eq];unfold TM.run oA oR qh qm;cases on
 ·rfl
 ·simp only[fO] at *
  by_cases h1:n+1<c+1
  ·have h2:n<c+1:=by omega
   have h3:¬ (c-n=0):=by omega
   simp[h1,h2,h3];omega
  ·by_cases h2:n<c+1
   ·have h3:c-n=0:=by omega
    have h4:n+1-(c+1)=0:=by omega
    simp[h1,h2,h3,h4]
   ·have e:n+1-(c+1)=(n-(c+1))+1:=by omega
    have b:=znO (n-(c+1)) (r+1) (by omega) (by omega);have b1:=dL (n-(c+1)) (show r+1≠0 by omega);have b2:=dE (n-(c+1)) (show 0<r+1 by omega);simp only[h1,h2,fj,e,b];by_cases a:(n-(c+1))%(r+1)=r
    ·simp[a]
    ·have d:¬ (r-(n-(c+1))%(r+1)=0):=by omega
     simp[a,d];omega
def TM.run_zero(t:TM)(hc:0<=t.c):t.run 0=t:=by
 obtain⟨r,c,on,g⟩:=t;have h:(0:Int)<c+1:=by simp at hc;omega
 unfold TM.run qh qm;cases on <;> simp[h]
def BH(r c:Int)(on:Bool)(n:Int)(a:0<=r/\r<=65535)(hc:0<=c/\c<=65535)(b:0<=n):0<=qh r c on n/\qh r c on n<=65535:=by
 unfold qh;have b1:=dL (n-(c+1)) (show r+1≠0 by omega);have b2:=dE (n-(c+1)) (show 0<r+1 by omega);split
 ·split <;> omega
 ·omega
/-! ### the package -/
def zij(r c:Int)(on g:Bool)(w:u)(hc:0<=c/\c<=65535):Δ ω 226 #[ac #[J Y r,J Y c,ν on,ν g]] w λe w'=>e=μ (J Q (ir on (c+1) 0))/\Below w.heap.size w w':=by
 cases on;all_goals
  go_enter func226,ntmps226;go_wp2;go_ret;exact⟨by simp[ir],stA (aR _) _⟩
def zly(n:Int)(w:u):Δ ω 227 #[J Q n] w λe w'=>e=μ (.func (.func 265) #[] #[aB (A ⟨w.heap.size,0,G⟩)])/\w'=w.alloc (χ #[J Q n] 3):=by
 go_enter func227,ntmps227;go_wp2;go_ret;exact⟨D,D⟩
def ztE(r c:Int)(g:Bool)(w:u)(hc:0<=c/\c<=65535):Δ ω 226 #[ac #[J Y r,J Y c,ν Γ,ν g]] w λe w'=>e=μ (J Q (c+1))/\Below w.heap.size w w':=zij r c Γ g w hc
def zAS(r c n:Int)(g:Bool)(h:n<c+1):qh r c Γ n=c-n/\qm c Γ g n=g:=by unfold qh qm;simp[h]
def zy1(r c n:Int)(g:Bool)(h:¬ n<c+1):qh r c Γ n=r-(n-(c+1))%(r+1)/\qm c Γ g n=Γ:=by unfold qh qm;simp[h]
def Bi{w w1:u}{r c:Int}{on g:Bool}{o:Obj}(a:Below ((w.alloc (χ #[J Y r,J Y c,ν on,ν g] 31)).alloc o).heap.size ((w.alloc (χ #[J Y r,J Y c,ν on,ν g] 31)).alloc o) w1):w1.cell? ⟨w.heap.size,0,G⟩=A (J Y r)/\w1.cell? ⟨w.heap.size,1,G⟩=A (J Y c)/\w1.cell? ⟨w.heap.size,2,G⟩=A (ν on)/\w1.cell? ⟨w.heap.size,3,G⟩=A (ν g):=by
 have h:∀ j,w1.cell? ⟨w.heap.size,j,G⟩=#[J Y r,J Y c,ν on,ν g][j]?:=λj=>by
  rw[a.cell (p:=⟨w.heap.size,j,G⟩) (by simp;omega)];exact(aN _ _ ⟨w.heap.size,j,G⟩ (by simp)).trans (Pl.new _ _ _ _ D)
 exact⟨h 0,h 1,h 2,h 3⟩
def xJ{w w1:u}{o:Obj}(a:Below ((w.alloc o).alloc (χ #[J Y 0,J Y 0,ν ξ,ν ξ] 31)).heap.size ((w.alloc o).alloc (χ #[J Y 0,J Y 0,ν ξ,ν ξ] 31)) w1):w1.cell? ⟨w.heap.size+1,0,G⟩=A (J Y 0)/\w1.cell? ⟨w.heap.size+1,1,G⟩=A (J Y 0)/\w1.cell? ⟨w.heap.size+1,2,G⟩=A (ν ξ)/\w1.cell? ⟨w.heap.size+1,3,G⟩=A (ν ξ):=by
 have h:∀ j,w1.cell? ⟨w.heap.size+1,j,G⟩=#[J Y 0,J Y 0,ν ξ,ν ξ][j]?:=λj=>by
  rw[a.cell (p:=⟨w.heap.size+1,j,G⟩) (by simp)];exact Pl.new _ _ _ _ (by simp)
 exact⟨h 0,h 1,h 2,h 3⟩
def zrk{U:u}{b o:Nat}{L:List π}(h:U.rangeAt b o L):U.drew.rangeAt b o L:=h
def vx{W:u}{b0 b o:Nat}{r n:Int}{v:π}(h:W.cell? ⟨b0,0,G⟩=A (J Y r)/\W.cell? ⟨b,0,G⟩=A (J Q n))(a:b≠b0)(c:o≠0):(W.setCell ⟨b0,o,G⟩ v).cell? ⟨b0,0,G⟩=A (J Y r)/\(W.setCell ⟨b0,o,G⟩ v).cell? ⟨b,0,G⟩=A (J Q n):=by
 refine⟨(ap _ _ _ _ ?_).trans h.1,(ap _ _ _ _ ?_).trans h.2⟩
 ·intro e;exact c (congrArg Addr.off e)
 ·intro e;exact a (congrArg Addr.block e).symm
def zrl(r c n:Int)(g:Bool)(b:Nat)(w:u)(E:0<=r/\r<=65535)(hc:0<=c/\c<=65535)(F:0<=n/\n<=20000)(hb:w.cell? ⟨b,0,G⟩=A (J Q n))(d:b<w.heap.size):Δ ω 265 #[ac #[J Y r,J Y c,ν Γ,ν g],aB (A ⟨b,0,G⟩)] w λe w'=>e=μ (ac #[J Y r,J Y (qh r c Γ n),ν Γ,ν (qm c Γ g n)])/\Below w.heap.size w w':=by
 have f:b≠w.heap.size:=i6 d;have s:b≠w.heap.size+1:=by omega
 by_cases h:n<c+1
 ·obtain⟨e1,e2⟩:=zAS r c n g h
  rw[e1,e2];go_enter func265,ntmps265;go_wp2_with (go_at_call 226;refine(ztE _ _ _ _ hc).mono ?_;rintro e w1 ⟨rfl,a⟩;obtain⟨k1,f1⟩:=cj a;have i:w.heap.size+1<w1.heap.size:=Θ (by simp) a.size;have k:=cX i;have z0:b<w1.heap.size:=Θ d (iy (cX i));obtain⟨l,x,y,z⟩:=Bi a;obtain⟨B,x1,x2,x3⟩:=xJ a;have c1:=((bw (stA (stA (aR w) _) _) a).cell (p:=⟨b,0,G⟩) d).trans hb)
  obtain⟨m,hB⟩:=mW a;have j:=pQ (U:=w1.setCell ⟨w.heap.size,1,G⟩ (J Y (c-n))) r (c-n) Γ g (World.there_setCells m w.heap.size 1 [J Y (c-n)]) (hB.setCell (ψ _) _);refine Pl.cutB (λι=>Below w.heap.size w ι/\ι.rangeAt (w.heap.size+1) 0 [J Y r,J Y (c-n),ν Γ,ν g]) j ?_;rintro ι ⟨o,q⟩;exact Ξ (v:=.agg _) (by simp only[results,results265];simp;exact Pl.res (tT _ _ _ _ _ _ q)) D ⟨D,o⟩
 ·obtain⟨e1,e2⟩:=zy1 r c n g h
  rw[e1,e2];go_enter func265,ntmps265;go_wp2_with (go_at_call 226;refine(ztE _ _ _ _ hc).mono ?_;rintro e w1 ⟨rfl,a⟩;obtain⟨k1,f1⟩:=cj a;have i:w.heap.size+1<w1.heap.size:=Θ (by simp) a.size;have k:=cX i;have z0:b<w1.heap.size:=Θ d (iy (cX i));obtain⟨l,x,y,z⟩:=Bi a;obtain⟨B,x1,x2,x3⟩:=xJ a;have c1:=((bw (stA (stA (aR w) _) _) a).cell (p:=⟨b,0,G⟩) d).trans hb)
  have m1:=dL (n-(c+1)) (show r+1≠0 by omega);have H:=dE (n-(c+1)) (show 0<r+1 by omega);have q1:IntKind.i64.wrap (n-(c+1))=n-(c+1):=by simp[dB,dC,cP];omega
  have I:IntKind.i64.wrap ((n-(c+1)).tmod (r+1))=(n-(c+1))%(r+1):=by rw[ak (by omega)];simp[dB,dC,cP];omega
  have L:IntKind.u16.wrap ((n-(c+1))%(r+1))=(n-(c+1))%(r+1):=by rw[bj];omega
  have M:IntKind.u16.wrap (r-(n-(c+1))%(r+1))=r-(n-(c+1))%(r+1):=by rw[bj];omega
  have N:r+1≠0:=by omega
  have t:¬ (w.heap.size=b):=λe=>f e.symm
  clear k1 hb;go_region_held3 (λw'=>w'.cell? ⟨w.heap.size,0,G⟩=A (J Y r)/\w'.cell? ⟨b,0,G⟩=A (J Q n))
   (first
     | exact vx ⟨l,c1⟩ f (by decide)
     | exact vx (vx ⟨l,c1⟩ f (by decide)) f (by decide)
     | (go_keep;done))
   (fail)
  go_wp2;obtain⟨m,hB⟩:=mW a;have j:=pQ (U:=(w1.setCell ⟨w.heap.size,1,G⟩ (J Y (r-(n-(c+1))%(r+1)))).setCell ⟨w.heap.size,3,G⟩ (ν Γ)) r (r-(n-(c+1))%(r+1)) Γ Γ (World.there_setCells (World.there_setCells m w.heap.size 1 [J Y (r-(n-(c+1))%(r+1))]) w.heap.size 3 [ν Γ]) ((hB.setCell (ψ _) _).setCell (ψ _) _);refine Pl.cutB (λι=>Below w.heap.size w ι/\ι.rangeAt (w.heap.size+1) 0 [J Y r,J Y (r-(n-(c+1))%(r+1)),ν Γ,ν Γ]) ⟨j.1.drew,zrk j.2⟩ ?_;rintro ι ⟨o,q⟩;exact Ξ (v:=.agg _) (by simp only[results,results265];simp;exact Pl.res (tT _ _ _ _ _ _ q)) D ⟨D,o⟩
/-! ### whenOn -/
def zrm(r c n:Int)(g:Bool)(b:Nat)(w:u)(h:0<=r/\r<=65535)(hc:0<=c/\c<=65535)(i:0<=n/\n<=20000)(hb:w.cell? ⟨b,0,G⟩=A (J Q n))(d:b<w.heap.size):Δ ω 115 #[ac #[J Y r,J Y c,ν Γ,ν g],.func (.func 265) #[] #[aB (A ⟨b,0,G⟩)]] w λe w'=>e=μ (ac #[J Y r,J Y (qh r c Γ n),ν Γ,ν (qm c Γ g n)])/\Below w.heap.size w w':=by
 have f:=λo1 o2=>((stA (stA (aR w) o1) o2).cell (p:=⟨b,0,G⟩) d).trans hb
 go_enter func115,ntmps115;go_wp2_with (go_at_call 265;refine(zrl _ _ _ _ _ _ h hc i (f _ _) (by simp;omega)).mono ?_;rintro e w1 ⟨rfl,a⟩;obtain⟨k1,f1⟩:=cj a;have m:w.heap.size+1<w1.heap.size:=Θ (by simp) a.size)
 have j:=pQ r (qh r c Γ n) Γ (qm c Γ g n) (mW a).1 (mW a).2;refine Pl.cutB (λι=>Below w.heap.size w ι/\ι.rangeAt (w.heap.size+1) 0 [J Y r,J Y (qh r c Γ n),ν Γ,ν (qm c Γ g n)]) j ?_;rintro ι ⟨k,l⟩;exact Ξ (v:=.agg _) (by simp only[results,results115];simp;exact Pl.res (tT _ _ _ _ _ _ l)) D ⟨D,k⟩
/-! ### Set, Tick, Run -/
/-! ### plain numbers -/
/-! ### the package -/
def znQ(l a f:Int)(g:Bool)(w:u)(h:BOk l a f):Δ ω 224 #[ac #[J Q l,J Q a,ν g,J Q f]] w λe w'=>e=μ (Ψ #[J Q ((64-a)%64),J Q 0])/\Below w.heap.size w w':=by
 have H:=hid h;have a0:=h.a0;have a1:=h.a1;have e1:Int.tmod (64-a) 64=(64-a)%64:=ak (by omega);clear h;go_enter func224,ntmps224;go_wp2_with (go_at_call 121;refine(At _ _ _ _ _ H.out).mono ?_;rintro e w1 ⟨rfl,b⟩;obtain⟨k1,f1⟩:=cj b;have c:w.heap.size<w1.heap.size:=Θ (by simp) b.size)
 go_ret2
 exact⟨by rw[show (64-a)%64 = -a%64 by omega];rfl,bw (stA (aR w) _) b⟩
def zq8(l a f:Int)(g:Bool)(w:u)(h:¬ BOk l a f):Δ ω 224 #[ac #[J Q l,J Q a,ν g,J Q f]] w λe w'=>e=μ (Ψ #[J Q 0,J Q 3])/\Below w.heap.size w w':=by
 have H:=hid h;clear h;go_enter func224,ntmps224;go_wp2_with (go_at_call 121;refine(zd1 l a f g _ H.out).mono ?_;rintro e w1 ⟨rfl,b⟩;obtain⟨k1,f1⟩:=cj b;have c:w.heap.size<w1.heap.size:=Θ (by simp) b.size)
 go_ret2
 exact⟨D,bw (stA (aR w) _) b⟩
/-! ### sounds -/
def zlm{s:Sd}(h:s.fit)(n:Nat):((lB s n).length:Int)=(if s.w<n then (n-s.w-1)/16+1 else 0)/\(s.ticks n).w=(if (n:Int)<=s.w then s.w-n else 15-(n-s.w-1)%16):=by
 have d:=h.w;induction n with
 | zero=>simp[lB,Sd.ticks];omega
 | succ n c =>
  obtain⟨b,i2⟩:=c;have e:=(Sd.ticks_fit h n).w;simp only[lB,az,Sd.ticks,Sd.tick];by_cases a:(s.ticks n).w=0
  ·have:(one (s.ticks n)).length=1:=by unfold one;rw[am a];rfl
   rw[this,am a];rw[a] at i2;constructor
   ·split at i2 <;> split at b <;> split <;> omega
   ·split at i2 <;> split <;> omega
  ·have:(one (s.ticks n)).length=0:=by unfold one;rw[ae a];rfl
   rw[this,ae a];constructor
   ·split at i2 <;> split at b <;> split <;> omega
   ·split at i2 <;> split <;> omega
/-! ### what no processor touches: where the beam is, when the next sample comes -/
/-! ### how many samples -/
def zw4(s s':Sd)(h:s.w=s'.w):(if s.w=0 then lB s 1 else []).length=(one s').length:=by
 unfold one;rw[h];split
 ·rename_i a
  show ([]++one s).length=_;unfold one;rw[am (h.trans a)];rfl
 ·rfl
def zgx(k0:Cs)(hb:BOk k0.s.M.b.l k0.s.M.b.a k0.s.M.b.f)(c:k0.s.M.b.f<=19000):∀ j:Nat,j<=20000->(k0.clocks j).sm.length=k0.sm.length+(lB k0.s.M.s j).length
 | 0,_=>by simp[Cs.clocks,lB]
 | j+1,i=>by
  have d:=zgx k0 hb c j (by omega);have g:=zR k0 hb c j (by omega);obtain⟨k,h⟩:∃ k,k=k0.clocks j:=⟨_,D⟩
  have e:k0.clocks (j+1)=k.clock:=by rw[h];rfl
  rw[<- h] at d g;rw[e];show (k.sm++(k.s.M.pressed k.co).sample).length=_;have h1:((k.s.M.pressed k.co).sample).length=(one (k0.s.M.s.ticks j)).length:=zw4 _ _ ((zb7 k.co k.s.M).w.trans g.w);rw[az,d,h1];simp only[lB,az];omega
/-! ### which lines -/
def lh(l a f:Int)(j:Nat):Option (Int × Int):=if kA l a j=0/\lC l a j<8 then A (lS l a f j,lC l a j) else G
def gI(l a f:Int):Nat->List (Int × Int)
 | 0=>[]
 | j+1=>gI l a f j++(lh l a f j).toList
def zeM(k0:Cs)(hb:BOk k0.s.M.b.l k0.s.M.b.a k0.s.M.b.f)(d:k0.s.M.b.f<=19000)(g:k0.ln=[]):∀ j:Nat,j<=20000->(k0.clocks j).ln.map (λx=>(x.f,x.l))=gI k0.s.M.b.l k0.s.M.b.a k0.s.M.b.f j
 | 0,_=>by simp[Cs.clocks,gI,g]
 | j+1,m=>by
  have h:=zeM k0 hb d g j (by omega);have c:=zR k0 hb d j (by omega);obtain⟨k,i⟩:∃ k,k=k0.clocks j:=⟨_,D⟩
  have e:k0.clocks (j+1)=k.clock:=by rw[i];rfl
  rw[<- i] at h c;rw[e];show (k.ln++(k.s.M.pressed k.co).line).map _=_;have hp:=zb7 k.co k.s.M;have e1:=hp.l.trans c.l;have e2:=hp.a.trans c.a;have e3:=hp.f.trans c.f;rw[gQ,h];simp only[gI];congr 1;unfold Mach.line lh;rw[e1,e2,e3];split <;> rfl
/-! ### who is held, and waits -/
def zrQ{σ:Type}{m:C.Mem σ}(c:C.Cpu)(s:σ)(r:Bool)(h1:c.Waits=Γ)(h2:c.May=ξ):C.step m c s r=⟨c,s,1⟩:=by
 unfold C.step;rw[h2,nD,ae (by simp),am h1]
end Go.Proofs.YthghjlinhokimaaGreatDoor
namespace Go.Proofs.YthghjlinhokimaaGreatDoor.C
section
variable {σ τ : Type} {m : Mem σ} {m' : Mem τ} {η : σ -> τ -> Prop}
structure Sim (m : Mem σ) (m' : Mem τ) (η : σ -> τ -> Prop) : Prop where
 rd:∀ s t a,η s t->(m.rd s a).1=(m'.rd t a).1/\η (m.rd s a).2 (m'.rd t a).2
 wr:∀ s t a b,η s t->η (m.wr s a b) (m'.wr t a b)
structure SQ (η : σ -> τ -> Prop) (x : St σ) (y : St τ) : Prop where
 c:x.c=y.c
 n:x.n=y.n
 s:η x.s y.s
def Sim.rdw(h:Sim m m' η){s:σ}{t:τ}(b:η s t)(a:Int):(m.rdw s a).1=(m'.rdw t a).1/\η (m.rdw s a).2 (m'.rdw t a).2:=by
 obtain⟨e1,q1⟩:=h.rd s t a b;obtain⟨e2,c⟩:=h.rd _ _ ((a+1)%65536) q1;exact⟨by show (m.rd s a).1*256+_=(m'.rd t a).1*256+_;rw[e1,e2],c⟩
def Sim.wrw(h:Sim m m' η){s:σ}{t:τ}(b:η s t)(a n:Int):η (m.wrw s a n) (m'.wrw t a n):=h.wr _ _ _ _ (h.wr _ _ _ _ b)
def Sim.push(h:Sim m m' η){c:Cpu}{s:σ}{t:τ}{k:Int}(a:η s t)(n:Int):SQ η (push m ⟨c,s,k⟩ n) (push m' ⟨c,t,k⟩ n):=⟨D,D,h.wrw a _ _⟩
def Sim.popV(h:Sim m m' η){c:Cpu}{s:σ}{t:τ}{k:Int}(a:η s t):popV m ⟨c,s,k⟩=popV m' ⟨c,t,k⟩:=(h.rdw a _).1
def Sim.pop(h:Sim m m' η){c:Cpu}{s:σ}{t:τ}{k:Int}(a:η s t):SQ η (pop m ⟨c,s,k⟩) (pop m' ⟨c,t,k⟩):=⟨D,D,(h.rdw a _).2⟩
def Sim.leave(h:Sim m m' η){x:St σ}{y:St τ}(d:SQ η x y)(a:Int):SQ η (leave m x a) (leave m' y a):=by
 obtain⟨c,s,k⟩:=x;obtain⟨e,t,k'⟩:=y;obtain⟨rfl,rfl,b⟩:=d;dsimp only at b;have h1:=h.push (c:=c) (k:=k) b c.PC;have h2:SQ η (C.push m (C.push m ⟨c,s,k⟩ c.PC) (sign (C.push m ⟨c,s,k⟩ c.PC).c)) (C.push m' (C.push m' ⟨c,t,k⟩ c.PC) (sign (C.push m' ⟨c,t,k⟩ c.PC).c)):=h.push (c:=(C.push m ⟨c,s,k⟩ c.PC).c) (k:=k) h1.s _;obtain⟨e1,q1⟩:=h.rdw h2.s a;refine⟨?_,D,q1⟩;unfold C.leave;dsimp only;rw[h2.c,e1]
def Sim.comeBack(h:Sim m m' η){x:St σ}{y:St τ}(b:SQ η x y):SQ η (comeBack m x) (comeBack m' y):=by
 obtain⟨c,s,k⟩:=x;obtain⟨d,t,k'⟩:=y;obtain⟨rfl,rfl,a⟩:=b;dsimp only at a;have e1:=h.popV (c:=c) (k:=k) a;have h1:=h.pop (c:=c) (k:=k) a;have e2:C.popV m (C.pop m ⟨c,s,k⟩)=C.popV m' (C.pop m' ⟨c,t,k⟩):=h.popV (c:=(C.pop m ⟨c,s,k⟩).c) (k:=k) h1.s;have h2:SQ η (C.pop m (C.pop m ⟨c,s,k⟩)) (C.pop m' (C.pop m' ⟨c,t,k⟩)):=h.pop (c:=(C.pop m ⟨c,s,k⟩).c) (k:=k) h1.s;refine⟨?_,D,h2.s⟩;unfold C.comeBack;dsimp only;rw[e1,e2,h2.c]
def Sim.act(h:Sim m m' η){x:St σ}{y:St τ}(g:SQ η x y)(k:Nat)(d s n w:Int):SQ η (act m x k d s n w) (act m' y k d s n w):=by
 have r:=h.leave g 4;have i:=h.comeBack g;obtain⟨c,θ,j⟩:=x;obtain⟨l,t,o⟩:=y;obtain⟨rfl,rfl,e⟩:=g;dsimp only at e;have u0:∀(l:Cpu) (o:Int),SQ η ⟨l,θ,o⟩ ⟨l,t,o⟩:=λ_ _=>⟨D,D,e⟩
 have r2:∀ a,SQ η ⟨c.set d (m.rdw θ a).1,(m.rdw θ a).2,j⟩ ⟨c.set d (m'.rdw t a).1,(m'.rdw t a).2,j⟩:=λa=>⟨by dsimp only;rw[(h.rdw e a).1],D,(h.rdw e a).2⟩
 have r1:∀ a,SQ η ⟨c.set d (m.rd θ a).1,(m.rd θ a).2,j⟩ ⟨c.set d (m'.rd t a).1,(m'.rd t a).2,j⟩:=λa=>⟨by dsimp only;rw[(h.rd θ t a e).1],D,(h.rd θ t a e).2⟩
 have w2:∀ a b,SQ η ⟨c,m.wrw θ a b,j⟩ ⟨c,m'.wrw t a b,j⟩:=λa b=>⟨D,D,h.wrw e a b⟩
 have w1:∀ a b,SQ η ⟨c,m.wr θ a b,j⟩ ⟨c,m'.wr t a b,j⟩:=λa b=>⟨D,D,h.wr _ _ a b e⟩
 have p:=λb=>h.push (c:=c) (k:=j) e b
 have f:=h.pop (c:=c) (k:=j) e;have q:=h.popV (c:=c) (k:=j) e
 match k with
 | 0=>exact u0 _ _
 | 1=>exact u0 _ _
 | 2=>exact u0 _ _
 | 3=>exact r2 _
 | 4=>exact w2 _ _
 | 5=>exact r1 _
 | 6=>exact w1 _ _
 | 7=>exact u0 _ _
 | 8=>exact u0 _ _
 | 9=>exact u0 _ _
 | 10=>exact u0 _ _
 | 11=>exact u0 _ _
 | 12=>exact u0 _ _
 | 13=>exact u0 _ _
 | 14=>exact u0 _ _
 | 15=>exact u0 _ _
 | 16=>exact u0 _ _
 | 17=>show SQ η (if c.Z then _ else _) (if c.Z then _ else _);split <;> exact u0 _ _
 | 18=>show SQ η (if c.N then _ else _) (if c.N then _ else _);split <;> exact u0 _ _
 | 19=>show SQ η (if c.C then _ else _) (if c.C then _ else _);split <;> exact u0 _ _
 | 20=>exact⟨D,D,(p _).s⟩
 | 21=>exact⟨by show ({ (C.pop m ⟨c,θ,j⟩).c with PC:=C.popV m ⟨c,θ,j⟩ }:Cpu)={ (C.pop m' ⟨c,t,j⟩).c with PC:=C.popV m' ⟨c,t,j⟩ };rw[q,f.c],D,f.s⟩
 | 22=>exact p _
 | 23=>exact⟨by show (C.pop m ⟨c,θ,j⟩).c.set d (C.popV m ⟨c,θ,j⟩)=(C.pop m' ⟨c,t,j⟩).c.set d (C.popV m' ⟨c,t,j⟩);rw[q,f.c],D,f.s⟩
 | 24=>exact u0 _ _
 | 25=>exact u0 _ _
 | 26=>exact i
 | 27=>exact u0 _ _
 | 28=>exact u0 _ _
 | 29=>show SQ η (if c.Z then _ else _) (if c.Z then _ else _);split <;> exact u0 _ _
 | 30=>exact u0 _ _
 | 31=>exact r
 | k+32=>exact u0 _ _
def Sim.order(h:Sim m m' η)(c:Cpu){s:σ}{t:τ}(a:η s t):SQ η (order m c s) (order m' c t):=by
 obtain⟨e1,q1⟩:=h.rdw a c.PC;obtain⟨e2,b⟩:=h.rdw q1 ((c.PC+2)%65536);have h1:C.word1 m c s=C.word1 m' c t:=e1;have h2:C.word2 m c s=C.word2 m' c t:=by unfold C.word2;rw[h1,e2]
 have h3:SQ η (C.behind m c s) (C.behind m' c t):=by
  unfold C.behind;rw[h1];refine⟨D,D,?_⟩;dsimp only;split
  ·exact b
  ·exact q1
 unfold C.order;rw[h1,h2];exact h.act (x:={ C.behind m c s with n:=K.cyc (O.rk (C.word1 m' c t)) }) (y:={ C.behind m' c t with n:=K.cyc (O.rk (C.word1 m' c t)) }) ⟨h3.c,D,h3.s⟩ _ _ _ _ _
def Sim.step(h:Sim m m' η)(c:Cpu){s:σ}{t:τ}(a:η s t)(r:Bool):SQ η (step m c s r) (step m' c t r):=by
 unfold C.step;split
 ·have:=h.leave (x:=⟨c,s,0⟩) (y:=⟨c,t,0⟩) ⟨D,D,a⟩ 2
  exact⟨this.c,D,this.s⟩
 ·split
  ·exact⟨D,D,a⟩
  ·exact h.order c a
end
end Go.Proofs.YthghjlinhokimaaGreatDoor.C
namespace Go.Proofs.YthghjlinhokimaaGreatDoor
open Go.ChangeShapes Go.WideShapes Go.ChangeAt Go.RowKit Go.Proofs.Tryz
structure Bst.like (p : List Wt) (s t : Bst) : Prop where
 M:s.M=t.M
 l:s.l=p++t.l
def zkb(p:List Wt):C.Sim bT bT (Bst.like p) where
 rd s t a h:=⟨by show (s.M.rdM a).1%256=(t.M.rdM a).1%256;rw[h.M],⟨by show (s.M.rdM a).2=(t.M.rdM a).2;rw[h.M],h.l⟩⟩
 wr s t a b h:=⟨by show s.M.wrM a (b%256)=t.M.wrM a (b%256);rw[h.M],h.l⟩
def zzD(p:List Wt):C.Sim cL cL (Bst.like p) where
 rd s t a h:=⟨by show (s.M.rdA a).1%256=(t.M.rdA a).1%256;rw[h.M],⟨by show (s.M.rdA a).2=(t.M.rdA a).2;rw[h.M],h.l⟩⟩
 wr s t a b h:=⟨by show s.M.wrA a (b%256)=t.M.wrA a (b%256);rw[h.M],by show s.l++s.M.shA a (b%256)=p++(t.l++t.M.shA a (b%256));rw[h.M,h.l,bK]⟩
structure Bst.like2 (p : List Wt) (s t : Bst) : Prop extends Bst.like p s t where
 n:s.n=t.n
def zuG(p:List Wt):C.Sim bT bT (Bst.like2 p) where
 rd s t a h:=⟨((zkb p).rd s t a h.tolike).1,⟨((zkb p).rd s t a h.tolike).2,h.n⟩⟩
 wr s t a b h:=⟨(zkb p).wr s t a b h.tolike,by show s.n+_=t.n+_;rw[h.n]⟩
def zkc{p:List Wt}{s t:Bst}(h:Bst.like p s t):Bst.like p s.stepMain t.stepMain:=by
 unfold Bst.stepMain;rw[h.M];split
 ·exact h
 ·have a:=(zuG p).step t.M.main (s:=⟨t.M,0,s.l⟩) (t:=⟨t.M,0,t.l⟩) ⟨⟨D,h.l⟩,D⟩ (t.M.t.g || t.M.b.g)
  refine⟨?_,a.s.l⟩;dsimp only;rw[a.c,a.n,a.s.M,a.s.n]
def zlQ{p:List Wt}{s t:Bst}(h:Bst.like p s t):Bst.like p s.stepAux t.stepAux:=by
 unfold Bst.stepAux;rw[h.M];split
 ·exact h
 ·have a:=(zzD p).step t.M.aux (s:=s) (t:=t) h t.M.rung
  refine⟨?_,a.s.l⟩;dsimp only;rw[a.c,a.n,a.s.M]
structure Cs.like (p : List Wt) (pl : List Lin) (ps : List UInt8) (k k' : Cs) : Prop where
 s:Bst.like p k.s k'.s
 co:k.co=k'.co
 ln:k.ln=pl++k'.ln
 sm:k.sm=ps++k'.sm
def ziG{p:List Wt}{pl:List Lin}{ps:List UInt8}{k k':Cs}(h:Cs.like p pl ps k k'):Cs.like p pl ps k.clock k'.clock:=by
 have a:=h.s.M;have hc:=h.co;have h1:Bst.like p ⟨k.s.M.pressed k.co,k.s.n,k.s.l⟩ ⟨k'.s.M.pressed k'.co,k'.s.n,k'.s.l⟩:=⟨by dsimp only;rw[a,hc],h.s.l⟩
 have h2:=zlQ (zkc h1);refine⟨⟨?_,h2.l⟩,?_,?_,?_⟩
 ·show Mach.goOn (Bst.stepAux _).M=Mach.goOn (Bst.stepAux _).M
  rw[h2.M]
 ·show k.s.M.coming k.co=k'.s.M.coming k'.co
  rw[a,hc]
 ·show k.ln++(k.s.M.pressed k.co).line=pl++(k'.ln++(k'.s.M.pressed k'.co).line)
  rw[h.ln,a,hc,bK]
 ·show k.sm++(k.s.M.pressed k.co).sample=ps++(k'.sm++(k'.s.M.pressed k'.co).sample)
  rw[h.sm,a,hc,bK]
def zd6{p:List Wt}{pl:List Lin}{ps:List UInt8}{k k':Cs}(h:Cs.like p pl ps k k'):∀ j:Nat,Cs.like p pl ps (k.clocks j) (k'.clocks j)
 | 0=>h
 | j+1=>ziG (zd6 h j)
def zfe(k:Cs)(a:Nat):∀ b:Nat,k.clocks (a+b)=(k.clocks a).clocks b
 | 0=>rfl
 | b+1=>by show (k.clocks (a+b)).clock=_;rw[zfe k a b];rfl
/-! ### what is still to be pressed -/
def sn(l:List Inp):Prop:=l.Pairwise (λx y=>x.c<=y.c)
def zeO:∀(l:List Inp) (M:Mach),sn l->M.coming l=l.filter (λx=>decide (M.clock<x.c))
 | [],M,_=>rfl
 | x::l,M,h=>by
  have a:=fC.1 h;unfold Mach.coming;split
  ·rename_i b
   rw[zeO l M a.2,mj (by simp;omega)]
  ·rename_i b
   rw[qP (by simp;omega),kL.2 (λy d=>by have:=a.1 y d;simp;omega)]
def zcz(k0:Cs)(l:List Inp)(b:k0.co=l)(hp:sn l)(a:∀ x∈l,k0.s.M.clock<=x.c):∀ j:Nat,(k0.clocks j).s.M.clock=k0.s.M.clock+j/\(k0.clocks j).co=l.filter (λx=>decide (k0.s.M.clock+j<=x.c))
 | 0=>⟨by simp[Cs.clocks],by
  show k0.co=_;rw[b,kL.2 (λy d=>by have:=a y d;simp;omega)]⟩
 | j+1=>by
  obtain⟨e1,e2⟩:=zcz k0 l b hp a j;have e3:(k0.clocks (j+1)).co=(k0.clocks j).s.M.coming (k0.clocks j).co:=rfl;refine⟨?_,?_⟩
  ·show (k0.clocks j).now.s.M.clock+1=_
   rw[sZ,e1];push_cast;omega
  ·rw[e3,e2,zeO _ _ (nG _ hp),List.filter_filter,e1]
   refine List.filter_congr (λx e=>?_);rw[<- mR];exact dW.2 (by push_cast;omega)
def dO(r c y:Int):Int:=if c<=r then r else r+(c-r+y-1)/y*y
def Bem.lat(b:Bem)(d:Int):Bem:=⟨lC b.l b.a d,kA b.l b.a d,pd b.l b.a b.g d,lS b.l b.a b.f d⟩
def Mach.lat(M:Mach)(d:Nat):Mach:={ M with mready:=dO M.mready (M.clock+d) 3,aready:=if M.held then M.aready else dO M.aready (M.clock+d) 5,t:=M.t.run d,s:=M.s.ticks d,b:=M.b.lat d,clock:=M.clock+d }
def Mach.smp(M:Mach)(d:Nat):List UInt8:=if M.s.w=0 then (lB M.s d).drop 1 else lB M.s d
def Cs.lat(q:Cs)(d:Nat):Cs:={ q with s:=⟨q.s.M.lat d,q.s.n,q.s.l⟩,sm:=q.sm++q.s.M.smp d }
structure Idle (q : Cs) (d : Nat) : Prop where
 co:q.co=[] \/ ∃ x r,q.co=x::r/\q.s.M.clock+d<=x.c
 ln:q.s.M.b.a+d<=64
 mr:q.s.M.clock<q.s.M.mready
 ma:q.s.M.clock+d<=q.s.M.mready \/ (q.s.M.main.Waits=Γ/\(q.s.M.main.May=ξ \/ ((q.s.M.t.g || q.s.M.b.g)=ξ/\(q.s.M.t.on=Γ->(d:Int)<=q.s.M.t.c+1))))
 ar:q.s.M.held=Γ \/ (q.s.M.clock<q.s.M.aready/\(q.s.M.clock+d<=q.s.M.aready \/ (q.s.M.aux.Waits=Γ/\(q.s.M.rung && q.s.M.aux.May)=ξ)))
 b:BOk q.s.M.b.l q.s.M.b.a q.s.M.b.f
 t:(0<=q.s.M.t.r/\q.s.M.t.r<=65535)/\(0<=q.s.M.t.c/\q.s.M.t.c<=65535)
 s:q.s.M.s.fit
def zi4{a b c:Cs}(h:Cs.like [] [] [] a b)(k:Cs.like [] [] [] b c):Cs.like [] [] [] a c :=
 ⟨⟨h.s.M.trans k.s.M,h.s.l.trans (by simpa using k.s.l)⟩,h.co.trans k.co,h.ln.trans (by simpa using k.ln),h.sm.trans (by simpa using k.sm)⟩
def zvm(a:Cs):Cs.like [] [] [] a a:=⟨⟨D,by simp⟩,D,by simp,by simp⟩
def zg4{σ:Type}{m:C.Mem σ}(c:C.Cpu)(s:σ)(r:Bool)(h1:c.Waits=Γ)(h2:(r && c.May)=ξ):C.step m c s r=⟨c,s,1⟩:=by
 unfold C.step;rw[ae (by rw[h2];simp),am h1]
def zqD(r c y:Int)(a:0<y):c<=dO r c y:=by
 unfold dO;split
 ·assumption
 ·have h1:=iM (c-r+y-1) y
  have h2:=dE (c-r+y-1) a;rw[rm] at h1;omega
def zvn(r c:Int)(h:dO r c 3=c):dO r (c+1) 3=c+3:=by unfold dO at *;split at h <;> split <;> omega
def zvo(r c:Int)(h:dO r c 5=c):dO r (c+1) 5=c+5:=by unfold dO at *;split at h <;> split <;> omega
def zvp(r c:Int)(h:c<dO r c 3):dO r (c+1) 3=dO r c 3:=by unfold dO at *;split at h <;> split <;> omega
def zvq(r c:Int)(h:c<dO r c 5):dO r (c+1) 5=dO r c 5:=by unfold dO at *;split at h <;> split <;> omega
def Bb{r c y:Int}(h:c<=r):dO r c y=r:=by unfold dO;rw[am h]
def zkT{b:Bem}{i:Nat}(h:BOk b.l b.a b.f)(hi:b.a+i<=63):(b.lat i).one=b.lat (i+1:Nat)/\(b.lat i).a=b.a+i/\(b.lat i).g=b.g:=by
 have:=h.l0;have:=h.l1;have:=h.a0;have:=h.a1;have:=h.f0;have:=h.f1;have e1:lC b.l b.a i=b.l:=by unfold lC;omega
 have e2:kA b.l b.a i=b.a+i:=by unfold kA;omega
 have e3:lS b.l b.a b.f i=b.f:=by unfold lS;omega
 have e4:pd b.l b.a b.g i=b.g:=by
  unfold pd;rw[aG (by omega),oc]
 refine⟨?_,e2,e4⟩;have hb:pL (lC b.l b.a i) (kA b.l b.a i) (lS b.l b.a b.f i)=Γ:=by
  rw[e1,e2,e3];exact(qo _ _ _).2 ⟨h.l0,h.l1,by omega,by omega,h.f0,h.f1⟩
 have c:=zxX b.l b.a b.f i 1 b.g ⟨h.l0,h.l1⟩ ⟨h.a0,h.a1⟩ (by omega) (by omega);unfold Bem.one Bem.lat;dsimp only;rw[am hb];have d:((i+1:Nat):Int)=(i:Int)+1:=by omega
 rw[d,c.1,c.2.1,c.2.2.1,c.2.2.2]
def zm3{t:TM}(a:0<=t.r/\t.r<=65535)(hc:0<=t.c/\t.c<=65535)(i:Nat):(⟨(t.run i).r,oA (t.run i).r (t.run i).c (t.run i).on,(t.run i).on,oR (t.run i).c (t.run i).on (t.run i).g⟩:TM)=t.run (i+1:Nat):=by
 have h:=TM.run_tick t a.1 hc.1 i (by omega);rw[TM.tick_eq] at h;have b:((i+1:Nat):Int)=(i:Int)+1:=by omega
 rw[b];exact h
def zzV(M:Mach)(i:Nat)(hi:1<=i):M.smp i++(if (M.s.ticks i).w=0 then lB (M.s.ticks i) 1 else [])=M.smp (i+1):=by
 have e1:(if (M.s.ticks i).w=0 then lB (M.s.ticks i) 1 else [])=lB (M.s.ticks i) 1:=by
  split
  ·rfl
  ·rename_i h
   show []=[]++one (M.s.ticks i);unfold one;rw[ae h];rfl
 rw[e1];unfold Mach.smp;split
 ·rename_i a
  have b:1<=(lB M.s i).length:=by
   obtain⟨m,rfl⟩:∃ m,i=1+m:=⟨i-1,by omega⟩
   rw[Ap,az];have:(lB M.s 1).length=1:=by
    show ([]++one M.s).length=1;unfold one;rw[am a];rfl
   omega
  rw[Ap,ky b]
 ·rw[Ap]
def zeZ(s:Bst)(h:s.M.clock<s.M.mready):s.stepMain=s:=by unfold Bst.stepMain;rw[am h]
def zg5(s:Bst)(a:¬ s.M.clock<s.M.mready)(d:s.M.main.Waits=Γ)(f:((s.M.t.g || s.M.b.g) && s.M.main.May)=ξ):s.stepMain=⟨{ s.M with mready:=s.M.clock+3 },0,s.l⟩:=by
 have e:s.stepMain=(λy:C.St Bst=>(⟨{ y.s.M with main:=y.c,mready:=y.s.M.clock+3*y.n+y.s.n },y.s.n,y.s.l⟩:Bst)) (C.step bT s.M.main ⟨s.M,0,s.l⟩ (s.M.t.g || s.M.b.g)):=by
  unfold Bst.stepMain;rw[ae a]
 rw[e,zg4 (m:=bT) s.M.main (⟨s.M,0,s.l⟩:Bst) (s.M.t.g || s.M.b.g) d f];have e2:s.M.clock+3=s.M.clock+3*1+0:=by omega
 rw[e2]
def zfG(s:Bst)(h:s.M.held=Γ):s.stepAux=s:=by unfold Bst.stepAux;rw[am (aj h)]
def zfH(s:Bst)(h:s.M.clock<s.M.aready):s.stepAux=s:=by unfold Bst.stepAux;rw[am (ao h)]
def zh8(s:Bst)(h1:¬ s.M.held=Γ)(a:¬ s.M.clock<s.M.aready)(b:s.M.aux.Waits=Γ)(d:(s.M.rung && s.M.aux.May)=ξ):s.stepAux=⟨{ s.M with aready:=s.M.clock+5 },s.n,s.l⟩:=by
 have e:s.stepAux=(λy:C.St Bst=>(⟨{ y.s.M with aux:=y.c,aready:=y.s.M.clock+5*y.n },y.s.n,y.s.l⟩:Bst)) (C.step cL s.M.aux s s.M.rung):=by
  unfold Bst.stepAux;rw[ae (λf=>f.elim h1 a)]
 rw[e,zg4 (m:=cL) s.M.aux s s.M.rung b d];have e2:s.M.clock+5=s.M.clock+5*1:=by omega
 rw[e2]
def zxN{q:Cs}{d i:Nat}(h:Idle q d)(h1:1<=i)(hi:i<d)(n:Int)(l:List Wt):∃ r,Bst.stepMain ⟨q.s.M.lat i,n,l⟩=⟨{ q.s.M.lat i with mready:=dO q.s.M.mready (q.s.M.clock+(i+1:Nat)) 3 },r,l⟩:=by
 have v:q.s.M.clock+((i+1:Nat):Int)=(q.s.M.clock+i)+1:=by omega
 rw[v];have y:=zqD q.s.M.mready (q.s.M.clock+i) 3 (by decide);by_cases f:q.s.M.clock+i<dO q.s.M.mready (q.s.M.clock+i) 3
 ·refine⟨n,(zeZ ⟨q.s.M.lat i,n,l⟩ f).trans ?_⟩
  rw[zvp _ _ f];rfl
 ·have o:dO q.s.M.mready (q.s.M.clock+i) 3=q.s.M.clock+i:=by omega
  have hb:=(zkT h.b (i:=i) (by have:=h.ln;omega)).2.2;have p:q.s.M.main.Waits=Γ/\(((q.s.M.lat i).t.g || (q.s.M.lat i).b.g) && q.s.M.main.May)=ξ:=by
   rcases h.ma with a|⟨w,a⟩
   ·rw[Bb (by omega)] at o
    omega
   ·refine⟨w,?_⟩
    rcases a with a|⟨j,k⟩
    ·rw[a,nD]
    ·have x:(q.s.M.lat i).t.g=q.s.M.t.g:=by
      show qm q.s.M.t.c q.s.M.t.on q.s.M.t.g i=_;unfold qm;cases e:q.s.M.t.on
      ·rfl
      ·have:=k e
       rw[am D,am (by omega)]
     have m:(q.s.M.lat i).b.g=q.s.M.b.g:=hb;rw[x,m,j,Bool.false_and]
  refine⟨0,(zg5 ⟨q.s.M.lat i,n,l⟩ f p.1 p.2).trans ?_⟩;rw[zvn _ _ o];rfl
def zzW{q:Cs}{d i:Nat}(h:Idle q d)(h1:1<=i)(hi:i<d)(n:Int)(l:List Wt)(r:Int):∃ j,Bst.stepAux ⟨{ q.s.M.lat i with mready:=r },n,l⟩=⟨{ q.s.M.lat i with mready:=r,aready:=if q.s.M.held then q.s.M.aready else dO q.s.M.aready (q.s.M.clock+(i+1:Nat)) 5 },j,l⟩:=by
 have k:q.s.M.clock+((i+1:Nat):Int)=(q.s.M.clock+i)+1:=by omega
 rw[k];by_cases a:q.s.M.held=Γ
 ·refine⟨n,(zfG ⟨{ q.s.M.lat i with mready:=r },n,l⟩ a).trans ?_⟩
  have e:(q.s.M.lat i).aready=q.s.M.aready:=by show (if q.s.M.held then q.s.M.aready else _)=_;rw[am a]
  rw[am a,<- e]
 ·have e:(q.s.M.lat i).aready=dO q.s.M.aready (q.s.M.clock+i) 5:=by show (if q.s.M.held then q.s.M.aready else _)=_;rw[ae a]
  have o:=zqD q.s.M.aready (q.s.M.clock+i) 5 (by decide);rw[ae a];by_cases b:q.s.M.clock+i<dO q.s.M.aready (q.s.M.clock+i) 5
  ·refine⟨n,(zfH ⟨{ q.s.M.lat i with mready:=r },n,l⟩ (show (q.s.M.lat i).clock<(q.s.M.lat i).aready by rw[e];exact b)).trans ?_⟩
   rw[zvq _ _ b,<- e]
  ·have c:dO q.s.M.aready (q.s.M.clock+i) 5=q.s.M.clock+i:=by omega
   have f:q.s.M.aux.Waits=Γ/\(q.s.M.rung && q.s.M.aux.May)=ξ:=by
    rcases h.ar with m|⟨_,g|g⟩
    ·exact absurd m a
    ·rw[Bb (by omega)] at c
     omega
    ·exact g
   refine⟨n,(zh8 ⟨{ q.s.M.lat i with mready:=r },n,l⟩ a (show ¬ (q.s.M.lat i).clock<(q.s.M.lat i).aready by rw[e];exact b) f.1 f.2).trans ?_⟩;rw[zvo _ _ c];rfl
def zvr{q:Cs}{d i:Nat}(h:Idle q d)(h1:1<=i)(hi:i<d):Cs.like [] [] [] (q.lat i).clock (q.lat (i+1)):=by
 have j:=zkT h.b (i:=i) (by have:=h.ln;omega);have f:(q.s.M.lat i).pressed q.co=q.s.M.lat i:=by
  rcases h.co with e|⟨x,r,e,p⟩
  ·rw[e];rfl
  ·rw[e]
   show (if x.c<=q.s.M.clock+i then _ else _)=_;rw[ae (by omega)]
 have k:(q.s.M.lat i).coming q.co=q.co:=by
  rcases h.co with e|⟨x,r,e,p⟩
  ·rw[e];rfl
  ·rw[e]
   show (if x.c<=q.s.M.clock+i then _ else _)=_;rw[ae (by omega)]
 have m:(q.s.M.lat i).line=[]:=by
  unfold Mach.line;rw[ae (λv=>by
   have h2:(q.s.M.b.lat i).a=0:=v.1;rw[j.2.1] at h2;have:=h.b.a0;omega)]
 obtain⟨w,y⟩:=zxN h h1 hi q.s.n q.s.l;obtain⟨z,B⟩:=zzW h h1 hi w q.s.l (dO q.s.M.mready (q.s.M.clock+(i+1:Nat)) 3);have o:(q.lat i).now.s=⟨{ q.s.M.lat i with mready:=dO q.s.M.mready (q.s.M.clock+(i+1:Nat)) 3,aready:=if q.s.M.held then q.s.M.aready else dO q.s.M.aready (q.s.M.clock+(i+1:Nat)) 5 },z,q.s.l⟩:=by
  show (Bst.stepMain ⟨(q.s.M.lat i).pressed q.co,q.s.n,q.s.l⟩).stepAux=_;rw[f,y,B]
 have E:(q.lat i).clock.s.M=q.s.M.lat (i+1):=by
  show (q.lat i).now.s.M.goOn=_;rw[o];have F:=zm3 h.t.1 h.t.2 i;have H:(q.s.M.s.ticks i).ticks 1=q.s.M.s.ticks (i+1):=Sd.ticks_add _ _ _;have I:q.s.M.clock+(i:Int)+1=q.s.M.clock+((i+1:Nat):Int):=by omega
  unfold Mach.goOn;show ({ q.s.M with mready:=_,aready:=_,t:=(⟨(q.s.M.t.run i).r,oA (q.s.M.t.run i).r (q.s.M.t.run i).c (q.s.M.t.run i).on,(q.s.M.t.run i).on,oR (q.s.M.t.run i).c (q.s.M.t.run i).on (q.s.M.t.run i).g⟩:TM),s:=(q.s.M.s.ticks i).ticks 1,b:=(q.s.M.b.lat i).one,clock:=q.s.M.clock+(i:Int)+1 }:Mach)=_;rw[F,H,j.1,I];rfl
 refine⟨⟨E,?_⟩,?_,?_,?_⟩
 ·show (q.lat i).now.s.l=[]++q.s.l
  rw[o];rfl
 ·show (q.s.M.lat i).coming q.co=q.co
  exact k
 ·show q.ln++((q.s.M.lat i).pressed q.co).line=[]++q.ln
  rw[f,m,cH,iH]
 ·show (q.sm++q.s.M.smp i)++((q.s.M.lat i).pressed q.co).sample=[]++(q.sm++q.s.M.smp (i+1))
  rw[f,iH,bK];congr 1;exact zzV q.s.M i h1
def zi5(k:Cs){d:Nat}(h:Idle k.now d):∀ i:Nat,i<d->Cs.like [] [] [] (k.clocks (i+1)) (k.now.lat (i+1))
 | 0,p=>by
  obtain⟨q,r⟩:∃ q,q=k.now:=⟨_,D⟩
  have x:k.clocks 1={ q with s:=⟨q.s.M.goOn,q.s.n,q.s.l⟩ }:=by rw[r];rfl
  rw[x];rw[<- r] at h ⊢;have j:q.s.M.b.lat (0:Nat)=q.s.M.b:=by
   have:=zsV q.s.M.b.l q.s.M.b.a q.s.M.b.f q.s.M.b.g ⟨h.b.l0,h.b.l1⟩ ⟨h.b.a0,h.b.a1⟩;show (⟨lC q.s.M.b.l q.s.M.b.a 0,kA q.s.M.b.l q.s.M.b.a 0,pd q.s.M.b.l q.s.M.b.a q.s.M.b.g 0,lS q.s.M.b.l q.s.M.b.a q.s.M.b.f 0⟩:Bem)=_;rw[this.1,this.2.1,this.2.2.1,this.2.2.2]
  have c:=(zkT h.b (i:=0) (by have:=h.ln;omega)).1;rw[j] at c;have v:=zm3 h.t.1 h.t.2 0;have m:q.s.M.t.run (0:Nat)=q.s.M.t:=TM.run_zero _ h.t.2.1;rw[m] at v;have y:q.s.M.goOn=q.s.M.lat 1:=by
   have e1:dO q.s.M.mready (q.s.M.clock+(1:Nat)) 3=q.s.M.mready:=Bb (by have:=h.mr;omega);have e2:(if q.s.M.held then q.s.M.aready else dO q.s.M.aready (q.s.M.clock+(1:Nat)) 5)=q.s.M.aready:=by
    split
    ·rfl
    ·rename_i z
     rcases h.ar with w|⟨w,_⟩
     ·exact absurd w z
     ·exact Bb (by omega)
   unfold Mach.goOn Mach.lat;rw[e1,e2,v,c];rfl
  have o:q.s.M.smp 1=[]:=by
   unfold Mach.smp;have e:lB q.s.M.s 1=one q.s.M.s:=by show []++one q.s.M.s=_;rfl
   rw[e];unfold one;split <;> rfl
  refine⟨⟨y,by show q.s.l=[]++q.s.l;rfl⟩,D,by show q.ln=[]++q.ln;rfl,?_⟩;show q.sm=[]++(q.sm++q.s.M.smp 1)
  rw[o,cH,iH]
 | i+1,p=>zi4 (ziG (zi5 k h i (by omega))) (zvr h (by omega) p)
end Go.Proofs.YthghjlinhokimaaGreatDoor
namespace Go.Proofs.YthghjlinhokimaaGreatDoor.C
section
variable {σ : Type} {m : Mem σ}
def cyc_pos:∀ k,k<32->k≠30->1<=K.cyc k:=by decide
def step_pos(hb:∀ s a,0<=(m.rd s a).1/\(m.rd s a).1<=255)(c:Cpu)(s:σ)(r:Bool):1<=(step m c s r).n:=by
 unfold step;split
 ·exact show (1:Int)<=6 by decide
 ·split
  ·exact show (1:Int)<=1 by decide
  ·have d:0<=word1 m c s/\word1 m c s<=65535:=by
    show 0<=(m.rd s c.PC).1*256+(m.rd (m.rd s c.PC).2 ((c.PC+1)%65536)).1/\(m.rd s c.PC).1*256+(m.rd (m.rd s c.PC).2 ((c.PC+1)%65536)).1<=65535;have h1:=hb s c.PC;have h2:=hb (m.rd s c.PC).2 ((c.PC+1)%65536);omega
   have b:O.rk (word1 m c s)<32/\O.rk (word1 m c s)≠30:=by unfold O.rk O.rOp;omega
   have hc:=cyc_pos _ b.1 b.2;unfold order;rcases act_n (m:=m) { behind m c s with n:=K.cyc (O.rk (word1 m c s)) } (O.rk (word1 m c s)) (O.rD (word1 m c s)) (O.rS (word1 m c s)) (O.rN (word1 m c s)) (O.rW (word1 m c s) (word2 m c s)) with e|e
   ·rw[e];exact hc
   ·rw[e]
    show 1<=K.cyc (O.rk (word1 m c s))+1;omega
end
end Go.Proofs.YthghjlinhokimaaGreatDoor.C
namespace Go.Proofs.YthghjlinhokimaaGreatDoor
open Go.ChangeShapes Go.WideShapes Go.ChangeAt Go.RowKit Go.Proofs.Tryz
def zsm(M:Mach)(a:Int):(M.rdA a).2.mready=M.mready:=by
 unfold Mach.rdA;split
 ·unfold Mach.portA
  split <;> rfl
 ·rfl
def zsn(M:Mach)(a n:Int):(M.wrA a n).mready=M.mready:=by
 unfold Mach.wrA;split
 ·unfold Mach.putA
  split
  ·rfl
  ·split <;> rfl
 ·unfold Mach.memA
  split
  ·rfl
  ·split
   ·rfl
   ·split
    ·split <;> rfl
    ·rfl
def zh9(s:Bst):s.stepAux.M.mready=s.M.mready:=by
 unfold Bst.stepAux;split
 ·rfl
 ·show (C.step cL s.M.aux s s.M.rung).s.M.mready=s.M.mready
  exact C.keeps_step (m:=cL) (P:=λx=>x.M.mready=s.M.mready) (λx a h=>(zsm x.M a).trans h) (λx a b h=>(zsn x.M a _).trans h) _ _ _ D
def zia(s:Bst):s.M.clock<s.stepMain.M.mready:=by
 by_cases h:s.M.clock<s.M.mready
 ·rw[zeZ s h];exact h
 ·have hc:=zbW s
  have e:s.stepMain=(λy:C.St Bst=>(⟨{ y.s.M with main:=y.c,mready:=y.s.M.clock+3*y.n+y.s.n },y.s.n,y.s.l⟩:Bst)) (C.step bT s.M.main ⟨s.M,0,s.l⟩ (s.M.t.g || s.M.b.g)):=by
   unfold Bst.stepMain;rw[ae h]
  have d:=C.step_pos (m:=bT) (λs a=>⟨dL _ (by decide),by show (s.M.rdM a).1%256<=255;omega⟩) s.M.main ⟨s.M,0,s.l⟩ (s.M.t.g || s.M.b.g);have f:0<=(C.step bT s.M.main ⟨s.M,0,s.l⟩ (s.M.t.g || s.M.b.g)).s.n :=
   C.keeps_step (m:=bT) (P:=λx=>0<=x.n) (λx a h=>h) (λx a b h=>by
    have:=(AE a (b%256) ⟨dL _ (by decide),by omega⟩).1;show 0<=x.n+kt a (b%256);omega) _ _ _ (jH 0)
  rw[e] at hc ⊢
  revert hc d f
  generalize C.step bT s.M.main ⟨s.M,0,s.l⟩ (s.M.t.g || s.M.b.g)=y;intro hc d f;have i:y.s.M.clock=s.M.clock:=hc;show s.M.clock<y.s.M.clock+3*y.n+y.s.n;omega
def zkU(s:Bst):s.stepAux.M.held=Γ \/ s.M.clock<s.stepAux.M.aready:=by
 by_cases h1:s.M.held=Γ
 ·rw[zfG s h1];exact aj h1
 ·right
  by_cases h:s.M.clock<s.M.aready
  ·rw[zfH s h];exact h
  ·have hc:=zc1 s
   have e:s.stepAux=(λy:C.St Bst=>(⟨{ y.s.M with aux:=y.c,aready:=y.s.M.clock+5*y.n },y.s.n,y.s.l⟩:Bst)) (C.step cL s.M.aux s s.M.rung):=by
    unfold Bst.stepAux;rw[ae (λd=>d.elim h1 h)]
   have b:=C.step_pos (m:=cL) (λs a=>⟨dL _ (by decide),by show (s.M.rdA a).1%256<=255;omega⟩) s.M.aux s s.M.rung;rw[e] at hc ⊢
   revert hc b
   generalize C.step cL s.M.aux s s.M.rung=y;intro hc b;have f:y.s.M.clock=s.M.clock:=hc;show s.M.clock<y.s.M.clock+5*y.n;omega
def ze0(k:Cs):k.now.s.M.clock<k.now.s.M.mready/\(k.now.s.M.held=Γ \/ k.now.s.M.clock<k.now.s.M.aready):=by
 obtain⟨s,a⟩:∃ s:Bst,s=⟨k.s.M.pressed k.co,k.s.n,k.s.l⟩:=⟨_,D⟩
 have e:k.now.s=s.stepMain.stepAux:=by rw[a];rfl
 rw[e,zc1,zbW,zh9];refine⟨zia s,?_⟩;have h:=zkU s.stepMain;rw[zbW] at h;exact h
def zg6(M:Mach):∀(l:List Inp) (x:Inp) (r:List Inp),M.coming l=x::r->M.clock<x.c
 | [],x,r,h=>by cases h
 | y::l,x,r,h=>by
  unfold Mach.coming at h;split at h
  ·exact zg6 M l x r h
  ·rename_i a
   cases h;omega
/-! ### when something is due next -/
def nn:Int:=9223372036854775807
def Cs.nxP(q:Cs):Int:=match q.co with
 | []=>nn
 | x::_=>x.c
def Mach.sleeps(M:Mach):Bool:=M.main.Waits && !((M.t.g || M.b.g) && M.main.May)
def Mach.sleepsA(M:Mach):Bool:=M.aux.Waits && !(M.rung && M.aux.May)
def Mach.nxM(M:Mach):Int:=if M.sleeps=ξ then M.mready else if (M.main.May && M.t.on)=Γ then M.clock+(M.t.c+1) else nn
def Mach.nxA(M:Mach):Int:=if (M.held || M.sleepsA)=Γ then nn else M.aready
def Cs.nxt(q:Cs)(e:Int):Int:=min (min (min (min e q.nxP) (q.s.M.clock+(64-q.s.M.b.a))) q.s.M.nxM) q.s.M.nxA
def zvs{q:Cs}{e:Int}(v:q.s.M.clock<q.s.M.mready)(i:q.s.M.held=Γ \/ q.s.M.clock<q.s.M.aready)(k:∀ x r,q.co=x::r->q.s.M.clock<x.c)(I:q.s.M.clock<e)(L:e<=200000)(hb:BOk q.s.M.b.l q.s.M.b.a q.s.M.b.f)(z:(0<=q.s.M.t.r/\q.s.M.t.r<=65535)/\(0<=q.s.M.t.c/\q.s.M.t.c<=65535))(B:q.s.M.s.fit)(E:0<=q.s.M.clock):∃ d:Nat,1<=d/\q.nxt e=q.s.M.clock+d/\q.s.M.clock+d<=e/\Idle q d:=by
 have N:q.s.M.clock<q.nxP:=by
  unfold Cs.nxP;split
  ·unfold nn;omega
  ·rename_i x r h;exact k x r h
 have P:q.s.M.clock<q.s.M.nxM:=by
  unfold Mach.nxM nn;split
  ·exact v
  ·split <;> omega
 have R:q.s.M.clock<q.s.M.nxA:=by
  unfold Mach.nxA nn;split
  ·omega
  ·rename_i h
   rcases i with i|i
   ·rw[i] at h;simp at h
   ·exact i
 have T:=hb.a0;have h1:=hb.a1;have F:q.nxt e<=e/\q.nxt e<=q.nxP/\q.nxt e<=q.s.M.clock+(64-q.s.M.b.a)/\q.nxt e<=q.s.M.nxM/\q.nxt e<=q.s.M.nxA/\q.s.M.clock<q.nxt e:=by unfold Cs.nxt;omega
 obtain⟨m1,m,U,n,w,m6⟩:=F;refine⟨(q.nxt e-q.s.M.clock).toNat,by omega,by omega,by omega,⟨?_,by omega,v,?_,?_,hb,z,B⟩⟩
 ·cases o:q.co with
  | nil=>exact aj D
  | cons x r =>
   refine ao ⟨x,r,D,?_⟩;unfold Cs.nxP at m;rw[o] at m;have H:q.nxt e<=x.c:=m;omega
 ·unfold Mach.nxM at n
  split at n
  ·exact aj (by omega)
  ·rename_i j
   right;unfold Mach.sleeps at j;have y:q.s.M.main.Waits=Γ/\((q.s.M.t.g || q.s.M.b.g) && q.s.M.main.May)=ξ:=by
    cases e1:q.s.M.main.Waits <;> cases e2:((q.s.M.t.g || q.s.M.b.g) && q.s.M.main.May) <;> simp_all
   refine⟨y.1,?_⟩;cases e1:q.s.M.main.May
   ·exact aj D
   ·right
    have h2:=y.2;rw[e1,Bool.and_true] at h2;refine⟨h2,λp=>?_⟩;rw[e1,p,am (show (Γ && Γ)=Γ from D)] at n;omega
 ·unfold Mach.nxA at w
  cases e1:q.s.M.held
  ·right
   rcases i with i|i
   ·rw[e1] at i;cases i
   ·refine⟨i,?_⟩
    split at w
    ·rename_i j
     right;rw[e1,lY] at j;unfold Mach.sleepsA at j;cases e2:q.s.M.aux.Waits <;> cases e3:(q.s.M.rung && q.s.M.aux.May) <;> simp_all
    ·exact aj (by omega)
  ·exact aj D
def zxO{k:Cs}{e:Int}(i:k.now.s.M.clock<e)(j:e<=200000)(hb:BOk k.now.s.M.b.l k.now.s.M.b.a k.now.s.M.b.f)(m:(0<=k.now.s.M.t.r/\k.now.s.M.t.r<=65535)/\(0<=k.now.s.M.t.c/\k.now.s.M.t.c<=65535))(n:k.now.s.M.s.fit)(g:0<=k.now.s.M.clock):∃ d:Nat,1<=d/\k.now.nxt e=k.now.s.M.clock+d/\k.now.s.M.clock+d<=e/\Idle k.now d :=
 zvs (ze0 k).1 (ze0 k).2 (λx r h=>by rw[sZ];exact zg6 _ _ x r h) i j hb m n g
def zzX{k0 a:Cs}{j d:Nat}(h:Cs.like [] [] [] (k0.clocks j) a)(h1:1<=d)(b:Idle a.now d):Cs.like [] [] [] (k0.clocks (j+d)) (a.now.lat d):=by
 obtain⟨i,rfl⟩:∃ i,d=i+1:=⟨d-1,by omega⟩
 rw[zfe];exact zi4 (zd6 h (i+1)) (zi5 a b i (by omega))
def Bem.run(b:Bem)(d:Int):Bem:=if pL b.l b.a b.f then b.lat d else ⟨0,0,ξ,0⟩
def Bem.tol(b:Bem):Int:=if pL b.l b.a b.f then 64-b.a else 1
def zyk{b:Bem}(h:BOr b.l b.a b.f):1<=b.tol/\b.tol<=64:=by
 have:=h.a0;have:=h.a1;unfold Bem.tol;split <;> omega
def zzY{b:Bem}(h:BOr b.l b.a b.f){d:Int}(e:0<=d)(h1:d<=64):BOr (b.run d).l (b.run d).a (b.run d).f:=by
 unfold Bem.run;split
 ·rename_i hb
  have c:=(qo _ _ _).1 hb;have:=c.l0;have:=c.l1;have:=c.a0;have:=c.a1;have:=c.f0;have:=c.f1;refine⟨?_,?_,?_,?_,?_,?_⟩ <;> simp only[Bem.lat,lC,kA,lS] <;> omega
 ·exact⟨by decide,by decide,by decide,by decide,by decide,by decide⟩
def zzZ(b:Bem):1+(if pL b.one.l b.one.a b.one.f=Γ then (64-b.one.a)%64 else 0)=b.tol:=by
 by_cases h:pL b.l b.a b.f=Γ
 ·have e:b.one=⟨lC b.l b.a 1,kA b.l b.a 1,pd b.l b.a b.g 1,lS b.l b.a b.f 1⟩:=by unfold Bem.one;rw[am h]
  have c:=(qo _ _ _).1 h;have:=c.l0;have:=c.l1;have:=c.a0;have:=c.a1;have:=c.f0;have:=c.f1;rw[e];dsimp only;unfold Bem.tol;rw[am h];split
  ·unfold kA;omega
  ·rename_i d
   by_cases i:b.a=63
   ·omega
   ·exact absurd ((qo _ _ _).2 ⟨by unfold lC;omega,by unfold lC;omega,by unfold kA;omega,by unfold kA;omega,by unfold lS;omega,by unfold lS;omega⟩) d
 ·have e:b.one=⟨0,0,ξ,0⟩:=by unfold Bem.one;rw[ae h]
  rw[e];unfold Bem.tol;rw[ae h];decide
def Cs.nxtG(q:Cs)(e:Int):Int:=min (min (min (min e q.nxP) (q.s.M.clock+q.s.M.b.tol)) q.s.M.nxM) q.s.M.nxA
def zz0{q:Cs}(e:Int)(h:BOk q.s.M.b.l q.s.M.b.a q.s.M.b.f):q.nxtG e=q.nxt e:=by
 unfold Cs.nxtG Cs.nxt Bem.tol;rw[am ((qo _ _ _).2 h)]
def zxP{q:Cs}{e:Int}(i:q.s.M.clock<q.s.M.mready)(d:q.s.M.held=Γ \/ q.s.M.clock<q.s.M.aready)(g:∀ x r,q.co=x::r->q.s.M.clock<x.c)(j:q.s.M.clock<e)(k:e<=200000)(hb:BOr q.s.M.b.l q.s.M.b.a q.s.M.b.f)(m:0<=q.s.M.t.c):q.s.M.clock<q.nxtG e/\q.nxtG e<=e/\q.nxtG e<=q.s.M.clock+64:=by
 have n:q.s.M.clock<q.nxP:=by
  unfold Cs.nxP;split
  ·unfold nn;omega
  ·rename_i x r h;exact g x r h
 have o:q.s.M.clock<q.s.M.nxM:=by
  unfold Mach.nxM nn;split
  ·exact i
  ·split <;> omega
 have p:q.s.M.clock<q.s.M.nxA:=by
  unfold Mach.nxA nn;split
  ·omega
  ·rename_i h
   rcases d with d|d
   ·rw[d] at h;simp at h
   ·exact d
 have v:=zyk hb;unfold Cs.nxtG;omega
def zvt{k:Cs}{e:Int}(d:k.now.s.M.clock<e)(g:e<=200000)(hb:BOr k.now.s.M.b.l k.now.s.M.b.a k.now.s.M.b.f)(i:0<=k.now.s.M.t.c):k.now.s.M.clock<k.now.nxtG e/\k.now.nxtG e<=e/\k.now.nxtG e<=k.now.s.M.clock+64 :=
 zxP (ze0 k).1 (ze0 k).2 (λx r h=>by rw[sZ];exact zg6 _ _ x r h) d g hb i
/-! ### each part by itself -/
def Mach.cA(M:Mach)(tt:Int):Mach:={ M with mready:=dO M.mready tt 3 }
def Mach.cB(M:Mach)(tt:Int):Mach:={ M with aready:=if M.held then M.aready else dO M.aready tt 5 }
def Mach.cT(M:Mach)(tt:Int):Mach:={ M with t:=M.t.run (tt-M.clock) }
def Mach.cE(M:Mach)(tt:Int):Mach:={ M with b:=M.b.run (tt-M.clock) }
def Mach.cS(M:Mach)(tt:Int):Mach:={ M with s:=M.s.ticks (tt-M.clock).toNat }
def Mach.cC(M:Mach)(tt:Int):Mach:={ M with clock:=tt }
def Mach.latT(M:Mach)(tt:Int):Mach:={ M with mready:=dO M.mready tt 3,aready:=if M.held then M.aready else dO M.aready tt 5,t:=M.t.run (tt-M.clock),b:=M.b.run (tt-M.clock),s:=M.s.ticks (tt-M.clock).toNat,clock:=tt }
def zso(M:Mach)(tt:Int):(((((M.cA tt).cB tt).cT tt).cE tt).cS tt).cC tt=M.latT tt:=by
 unfold Mach.cC Mach.cS Mach.cE Mach.cT Mach.cB Mach.cA Mach.latT;rfl
def Cs.latT(q:Cs)(tt:Int):Cs:={ q with s:=⟨q.s.M.latT tt,q.s.n,q.s.l⟩,sm:=q.sm++q.s.M.smp (tt-q.s.M.clock).toNat }
def Cs.event(k:Cs)(e:Int):Cs:=k.now.latT (k.now.nxtG e)
def zxQ{q:Cs}(d:Nat)(h:BOk q.s.M.b.l q.s.M.b.a q.s.M.b.f):q.latT (q.s.M.clock+d)=q.lat d:=by
 have e1:q.s.M.clock+(d:Int)-q.s.M.clock=d:=by omega
 have e2:q.s.M.b.run d=q.s.M.b.lat d:=by unfold Bem.run;rw[am ((qo _ _ _).2 h)]
 have e3:(d:Int).toNat=d:=by omega
 unfold Cs.latT Cs.lat Mach.latT Mach.lat;rw[e1,e2,e3]
def zqE{r c y m:Int}(a:0<y)(b:0<=r)(d:r<=m)(hc:c+y<=m):0<=dO r c y/\dO r c y<=m:=by
 unfold dO;split
 ·omega
 ·have h1:=iM (c-r+y-1) y
  have h2:=dE (c-r+y-1) a;have h3:=dL (c-r+y-1) (show y≠0 by omega);rw[rm] at h1;omega
section
variable {M : Mach} {tt : Int}
def zBy(h:M.fit)(h1:tt<=M.clock+64):(M.cA tt).fit:=by
 have e1:=h.mready;have e2:=h.clock;have e3:0<=dO M.mready tt 3/\dO M.mready tt 3<=M.clock+20000:=zqE (by decide) (by omega) (by omega) (by omega);exact { h with main:=h.main,mready:=e3 }
def zBz(h:M.fit)(h1:tt<=M.clock+64):(M.cB tt).fit:=by
 have e1:=h.aready;have e2:=h.clock;have e3:0<=(if M.held then M.aready else dO M.aready tt 5)/\(if M.held then M.aready else dO M.aready tt 5)<=M.clock+20000:=by
  split
  ·assumption
  ·exact zqE (by decide) (by omega) (by omega) (by omega)
 exact { h with main:=h.main,aready:=e3 }
def zBA(h:M.fit)(a:M.clock<=tt):(M.cT tt).fit:={ h with main:=h.main,tc:=BH _ _ _ _ h.tr h.tc (by omega) }
def zBB(h:M.fit)(a:M.clock<=tt)(h1:tt<=M.clock+64):(M.cE tt).fit:={ h with main:=h.main,b:=zzY h.b (by omega) (by omega) }
def zBC(h:M.fit)(a:M.clock<=tt)(h1:tt<=200000):(M.cC tt).fit:={ h with main:=h.main,clock:=by have:=h.clock;exact⟨show 0<=tt by omega,h1⟩,mready:=by have:=h.mready;exact⟨this.1,show M.mready<=tt+20000 by omega⟩,aready:=by have:=h.aready;exact⟨this.1,show M.aready<=tt+20000 by omega⟩ }
end
/-! ### a run from event tt event is one clock by clock -/
def Ad(k0:Cs)(n:Nat)(k:Cs):Prop:=∃ j:Nat,j<=n/\Cs.like [] [] [] (k0.clocks j) k/\k.s.M.clock=k0.s.M.clock+j
def Ad.zero(k0:Cs)(n:Nat):Ad k0 n k0:=⟨0,bh _,zvm _,by simp⟩
def Ad.step{k0 k:Cs}{n:Nat}(h:Ad k0 n k)(hb:BOk k0.s.M.b.l k0.s.M.b.a k0.s.M.b.f)(p:k0.s.M.b.f<=19900)(z:n<=20000)(q:k0.s.M.clock+n<=200000)(r:k.s.M.clock<k0.s.M.clock+n)(c:k.now.s.M.fit):Ad k0 n (k.event (k0.s.M.clock+n)):=by
 obtain⟨j,B,m,hc⟩:=h;have t:=zcy k0 hb p j (by omega);have v:=zgw k;have x:=m.s.M;have hB:BOk k.now.s.M.b.l k.now.s.M.b.a k.now.s.M.b.f:=by
  refine⟨c.b.l0,c.b.l1,c.b.a0,c.b.a1,c.b.f0,?_⟩;rw[v.f,<- x,t.f];have:=hb.l0;have:=hb.l1;have:=hb.a0;have:=hb.a1;unfold lS;omega
 have y:k.now.s.M.s.fit:={ c.s with w:=c.w }
 have g:=sZ k;have i:=c.clock.1;obtain⟨d,d1,d2,d3,d4⟩:=zxO (k:=k) (e:=k0.s.M.clock+n) (by omega) q hB ⟨c.tr,c.tc⟩ y i;have o:k.event (k0.s.M.clock+n)=k.now.lat d:=by
  unfold Cs.event;rw[zz0 _ hB,d2,zxQ d hB]
 refine⟨j+d,by omega,?_,?_⟩
 ·rw[o]
  exact zzX m d1 d4
 ·rw[o]
  show k.now.s.M.clock+(d:Int)=_;rw[g,hc]
  push_cast
  omega
def Ad.bd{F:Fx}{N:Nat}(e:Fb F N){k0 k:Cs}{n:Nat}(h:Ad k0 n k)(a:k0.s.l=[]/\k0.ln=[]/\k0.sm=[])(f:n<=20000):k.ln.length<=20000/\k.sm.length<=20000/\k.s.l.length<=80000:=by
 obtain⟨j,g,b,hc⟩:=h;have c:=zgv e k0 (by rw[a.1];simp) j (by omega);have e1:(k0.clocks j).ln=k.ln:=by simpa using b.ln
 have e2:(k0.clocks j).sm=k.sm:=by simpa using b.sm
 have e3:(k0.clocks j).s.l=k.s.l:=by simpa using b.s.l
 have d:=c.ln;have t2:=c.sm;have t3:=c.l;rw[e1,a.2.1] at d;rw[e2,a.2.2] at t2;rw[e3,a.1] at t3;simp only[fY] at d t2 t3;omega
def Ad.fin{k0 k:Cs}{n:Nat}(h:Ad k0 n k)(b:¬ k.s.M.clock<k0.s.M.clock+n):Cs.like [] [] [] (k0.clocks n) k:=by
 obtain⟨j,c,a,hc⟩:=h;have:j=n:=by omega
 rw[<- this];exact a
def xS{W w1:u}{b:Nat}{r c:Int}{on g:Bool}(h:W.cell? ⟨b,0,G⟩=A (J Y r)/\W.cell? ⟨b,1,G⟩=A (J Y c)/\W.cell? ⟨b,2,G⟩=A (ν on)/\W.cell? ⟨b,3,G⟩=A (ν g))(hb:Below W.heap.size W w1):w1.cell? ⟨b,0,G⟩=A (J Y r)/\w1.cell? ⟨b,1,G⟩=A (J Y c)/\w1.cell? ⟨b,2,G⟩=A (ν on)/\w1.cell? ⟨b,3,G⟩=A (ν g):=by
 have a:=aC W _ h.1;exact⟨(hb.cell (p:=⟨b,0,G⟩) a).trans h.1,(hb.cell (p:=⟨b,1,G⟩) a).trans h.2.1,(hb.cell (p:=⟨b,2,G⟩) a).trans h.2.2.1,(hb.cell (p:=⟨b,3,G⟩) a).trans h.2.2.2⟩
def zzz(r c n:Int)(on g:Bool)(w:u)(j:0<=r/\r<=65535)(hc:0<=c/\c<=65535)(k:0<=n/\n<=20000):Δ ω 165 #[ac #[J Y r,J Y c,ν on,ν g],J Q n] w λe w'=>e=μ (Ψ #[ac #[J Y r,J Y (qh r c on n),ν on,ν (qm c on g n)],J Q 0])/\Below w.heap.size w w':=by
 cases on
 ·go_enter func165,ntmps165
  go_wp2;go_region_held3 (λw'=>w'.cell? ⟨w.heap.size,0,G⟩=A (J Y r)/\w'.cell? ⟨w.heap.size,1,G⟩=A (J Y c)/\w'.cell? ⟨w.heap.size,2,G⟩=A (ν ξ)/\w'.cell? ⟨w.heap.size,3,G⟩=A (ν g))
   (first
     | with_reducible exact xS (by assumption) (by assumption)
     | (go_keep;done))
   (first
   | (go_at_call 227;refine(zly _ _).mono ?_;rintro e w0 ⟨rfl,rfl⟩)
   | (go_at_call 115;refine(zjF _ _ _ _ _).mono ?_;rintro e w1 ⟨rfl,a⟩;obtain⟨k1,f1⟩:=cj a;have l:w.heap.size+1<w1.heap.size:=Θ (by simp) a.size))
  go_wp2;have b:=mW (bw (stA (aR ((w.alloc (χ #[J Y r,J Y c,ν ξ,ν g] 31)).alloc (χ #[J Y 0,J Y 0,ν ξ,ν ξ] 31))) _).drew a);have d:=pQ r c ξ g b.1 b.2;refine Pl.cutB (λι=>Below w.heap.size w ι/\ι.rangeAt (w.heap.size+1) 0 [J Y r,J Y c,ν ξ,ν g]) d ?_;rintro ι ⟨f,h⟩;have i:=tT ι _ _ _ _ _ h;refine Ξ (v:=Ψ #[ac #[J Y r,J Y c,ν ξ,ν g],J Q 0]) ?_ D ⟨D,f⟩;simp only[results,results165];simp;show (aE (Sem.run ω (loadVar 31 ⟨w.heap.size+1,0,G⟩) ι) _)=_;rw[i];rfl
 ·go_enter func165,ntmps165
  go_wp2;go_region_held3 (λw'=>w'.cell? ⟨w.heap.size,0,G⟩=A (J Y r)/\w'.cell? ⟨w.heap.size,1,G⟩=A (J Y c)/\w'.cell? ⟨w.heap.size,2,G⟩=A (ν Γ)/\w'.cell? ⟨w.heap.size,3,G⟩=A (ν g))
   (first
     | with_reducible exact xS (by assumption) (by assumption)
     | (go_keep;done))
   (first
   | (go_at_call 227;refine(zly _ _).mono ?_;rintro e w0 ⟨rfl,rfl⟩)
   | (go_at_call 115;refine(zrm _ _ _ _ _ _ j hc k (Pl.new _ _ _ _ (by simp)) (by simp)).mono ?_;rintro e w1 ⟨rfl,a⟩;obtain⟨k1,f1⟩:=cj a;have l:w.heap.size+1<w1.heap.size:=Θ (by simp) a.size))
  go_wp2;have b:=mW (bw (stA (aR ((w.alloc (χ #[J Y r,J Y c,ν Γ,ν g] 31)).alloc (χ #[J Y 0,J Y 0,ν ξ,ν ξ] 31))) _).drew a);have d:=pQ r (qh r c Γ n) Γ (qm c Γ g n) b.1 b.2;refine Pl.cutB (λι=>Below w.heap.size w ι/\ι.rangeAt (w.heap.size+1) 0 [J Y r,J Y (qh r c Γ n),ν Γ,ν (qm c Γ g n)]) d ?_;rintro ι ⟨f,h⟩;have i:=tT ι _ _ _ _ _ h;refine Ξ (v:=Ψ #[ac #[J Y r,J Y (qh r c Γ n),ν Γ,ν (qm c Γ g n)],J Q 0]) ?_ D ⟨D,f⟩;simp only[results,results165];simp;show (aE (Sem.run ω (loadVar 31 ⟨w.heap.size+1,0,G⟩) ι) _)=_;rw[i];rfl
def Ct.asleep(c:C.Cpu)(g:Bool)(w:u):Δ ω 225 #[ac (bY c).toArray,ν g] w λe w'=>e=μ (ν (c.Waits && !(g && c.May)))/\Below w.heap.size w w':=by
 have hB:=Bx.new w (bY c) 25 (b:=w.heap.size) D;have a:=hB.at 14 (ν c.Waits) D;have d:=hB.at 13 (ν c.May) D;have i:=hB.z;obtain⟨x,f⟩:∃ x,x=c.Waits:=⟨_,D⟩
 obtain⟨y,h⟩:∃ y,y=c.May:=⟨_,D⟩
 rw[<- f] at a ⊢;rw[<- h] at d ⊢;clear f h hB;cases x <;> cases g <;> cases y
 all_goals
  go_enter func225,ntmps225;go_wp2;go_ret;exact⟨D,stA (aR w) _⟩
def Ct.nextPress{B:Nat}{w:u}{v:π}(q:Cs)(h:bP B w v q.co):Δ ω 154 #[v] w λe w'=>e=μ (J Q q.nxP)/\w=w':=by
 obtain⟨s,l,ln,sm⟩:=q;cases l with
 | nil =>
  obtain⟨a,k,rfl⟩:=h.len;go_enter func154,ntmps154;go_wp2;go_ret;exact⟨D,D⟩
 | cons x d =>
  rcases h with⟨e,_⟩|⟨g,o,i,rfl,h1,h2,h3,h4⟩
  ·cases e
  ·obtain⟨f,_,_⟩:=h4 0 x D
   have j:w.cell? ⟨g,o,G⟩=A (J Q x.c):=f;have m:(((d.length:Int)+1) == 0)=ξ:=by simp;omega
   have b:(0:Int)<(d.length:Int)+1:=by omega
   clear f h4 h1 h2;go_enter func154,ntmps154;go_wp2;go_ret;exact⟨D,D⟩
def Ct.toLine(b:Bem)(w:u)(h:BOr b.l b.a b.f):Δ ω 156 #[ac #[J Q b.l,J Q b.a,ν b.g,J Q b.f]] w λe w'=>e=μ (J Q b.tol)/\Below w.heap.size w w':=by
 obtain⟨x,i⟩:∃ x:Int,x=if pL b.one.l b.one.a b.one.f=Γ then (64-b.one.a)%64 else 0:=⟨_,D⟩
 have n:∀ w,Δ ω 224 #[ac #[J Q b.one.l,J Q b.one.a,ν b.one.g,J Q b.one.f]] w λe w'=>(∃ y,e=μ (Ψ #[J Q x,J Q y]))/\Below w.heap.size w w':=λw=>by
  rw[i];by_cases j:pL b.one.l b.one.a b.one.f=Γ
  ·rw[am j]
   refine(znQ _ _ _ _ w ((qo _ _ _).1 j)).mono ?_;rintro e w1 ⟨rfl,hb⟩;exact⟨⟨_,D⟩,hb⟩
  ·rw[ae j]
   refine(zq8 _ _ _ _ w (λy=>j ((qo _ _ _).2 y))).mono ?_;rintro e w1 ⟨rfl,hb⟩;exact⟨⟨_,D⟩,hb⟩
 have r:0<=x/\x<=64:=by rw[i];split <;> omega
 have o:1+x=b.tol:=by rw[i];exact zzZ b
 have s:IntKind.i64.wrap (1+x)=1+x:=by rw[aH];omega
 rw[<- o];have H:=hid h;have p:=hid n;obtain⟨b1,c⟩:∃ b1,b1=b.one:=⟨_,D⟩
 have q:∀ w,Δ ω 65 #[ac #[J Q b.l,J Q b.a,ν b.g,J Q b.f],J Q 1] w λe w'=>∃ x,e=μ (Ψ #[ac #[J Q b1.l,J Q b1.a,ν b1.g,J Q b1.f],J Q x])/\Below w.heap.size w w':=λw=>by
  rw[c];exact Lk.run1 b w H.out
 rw[<- c] at p;have t:=hid q;clear h n i o q c;go_enter func156,ntmps156;go_wp2_with (first
  | (go_at_call 65;refine(t.out _).mono ?_;rintro e w1 ⟨x1,rfl,c⟩;have k:=hid c;have v:w.heap.size<w1.heap.size:=Θ (by simp) c.size;clear c)
  | (go_at_call 224;refine(p.out _).mono ?_;rintro e w2 ⟨⟨x2,rfl⟩,d⟩;have m:=hid d;clear d))
 go_ret;exact⟨D,bw (stA (bw (stA (aR w) _) k.out) _) m.out⟩
def Ct.sleeps(r c y:Int)(a:y=3 \/ y=5)(k:0<=r/\r<=1000000)(hc:0<=c/\c<=1000000)(w:u):Δ ω 162 #[J Q r,J Q c,J Q y] w λe w'=>e=μ (J Q (dO r c y))/\w=w':=by
 by_cases h:c<=r
 ·rw[Bb h]
  go_enter func162,ntmps162;go_wp2;go_ret;exact⟨D,D⟩
 ·have g:r<c:=by omega
  obtain⟨d,b⟩:∃ d,d=(c-r+y-1)/y:=⟨_,D⟩
  have i:0<=d/\d<=1000000:=by
   rw[b];rcases a with rfl|rfl <;> omega
  have f:dO r c y=r+d*y:=by unfold dO;rw[ae h,b]
  rw[f];have e1:Int.tdiv (c-r+y-1) y=d:=by
   rw[b];exact aF (by rcases a with rfl|rfl <;> omega)
  have w1:IntKind.i64.wrap (c-r)=c-r:=by rw[aH];omega
  have w2:IntKind.i64.wrap (c-r+y)=c-r+y:=by rw[aH];rcases a with rfl|rfl <;> omega
  have l:IntKind.i64.wrap (c-r+y-1)=c-r+y-1:=by rw[aH];rcases a with rfl|rfl <;> omega
  have w4:IntKind.i64.wrap d=d:=by rw[aH];omega
  have m:IntKind.i64.wrap (d*y)=d*y:=by rw[aH];rcases a with rfl|rfl <;> omega
  have n:IntKind.i64.wrap (r+d*y)=r+d*y:=by rw[aH];rcases a with rfl|rfl <;> omega
  have j:(y == 0)=ξ:=by rcases a with rfl|rfl <;> rfl
  clear b f h;go_enter func162,ntmps162;go_wp2;go_ret;exact⟨D,D⟩
section
variable {F : Fx} {N c : Nat} {vco vln vsm : π} {w w1 : u} {k : Cs} {M : Mach} {tk : Tk}
def Bd.tmR(h:Bd F w M tk):w.rangeAt F.g 41 [J Y M.t.r,J Y M.t.c,ν M.t.on,ν M.t.g]:=λi v hi=>by
 refine h.at (41+i) v ?_;have a:=(ay.1 hi).1;have hc:i=0 \/ i=1 \/ i=2 \/ i=3:=by simp at a;omega
 rcases hc with rfl|rfl|rfl|rfl <;> exact hi
def Bd.bmR(h:Bd F w M tk):w.rangeAt F.g 61 [J Q M.b.l,J Q M.b.a,ν M.b.g,J Q M.b.f]:=λi v hi=>by
 refine h.at (61+i) v ?_;have c:=(ay.1 hi).1;have hc:i=0 \/ i=1 \/ i=2 \/ i=3:=by simp at c;omega
 rcases hc with rfl|rfl|rfl|rfl <;> exact hi
def Bd.sm{a bg:Bool}(h:Bd F w M tk)(e1:M.t.g=a)(e2:M.b.g=bg):w.rangeAt F.g 0 (bY M.main)/\w.cell? ⟨F.g,44,G⟩=A (ν a)/\w.cell? ⟨F.g,63,G⟩=A (ν bg):=by
 subst e1 e2;exact⟨h.mainR,h.at 44 _ D,h.at 63 _ D⟩
def Bd.st4(h:Bd F w M tk):w.cell? ⟨F.g,72,G⟩=A (J Q M.clock)/\w.rangeAt F.g 41 [J Y M.t.r,J Y M.t.c,ν M.t.on,ν M.t.g]:=⟨h.at 72 _ rfl,h.tmR⟩
def Bd.sl(h:Bd F w M tk):w.cell? ⟨F.g,72,G⟩=A (J Q M.clock)/\w.rangeAt F.g 61 [J Q M.b.l,J Q M.b.a,ν M.b.g,J Q M.b.f]:=⟨h.at 72 _ rfl,h.bmR⟩
def Bd.sa{x:Bool}(h:Bd F w M tk)(e:M.held=x):w.cell? ⟨F.g,68,G⟩=A (ν x)/\w.rangeAt F.g 15 (bY M.aux)/\w.cell? ⟨F.g,71,G⟩=A (ν M.rung):=by
 subst e;exact⟨h.at 68 _ D,h.auxR,h.at 71 _ D⟩
def Ct.nextMain(h:Bd F w M tk):Δ ω 158 #[pt F.g 0] w λe w'=>e=μ (J Q M.nxM)/\Below w.heap.size w w':=by
 obtain⟨tg,q⟩:∃ b,M.t.g=b:=⟨_,D⟩
 obtain⟨bg,s⟩:∃ b,M.b.g=b:=⟨_,D⟩
 obtain⟨mm,x⟩:∃ b,M.main.May=b:=⟨_,D⟩
 obtain⟨on,n⟩:∃ b,M.t.on=b:=⟨_,D⟩
 obtain⟨z,T⟩:∃ b,M.sleeps=b:=⟨_,D⟩
 have E:∀ W,Δ ω 225 #[ac (bY M.main).toArray,ν (tg || bg)] W λe w'=>e=μ (ν z)/\Below W.heap.size W w':=λW=>by
  rw[<- T,<- q,<- s];exact Ct.asleep M.main _ W
 have hX:M.nxM=if z=ξ then M.mready else if (mm && on)=Γ then M.clock+(M.t.c+1) else nn:=by unfold Mach.nxM;rw[T,x,n]
 have hT:on=Γ->∀ W,Δ ω 226 #[ac #[J Y M.t.r,J Y M.t.c,ν M.t.on,ν M.t.g]] W λe w'=>e=μ (J Q (M.t.c+1))/\Below W.heap.size W w':=λe0 W=>by
  refine(zij M.t.r M.t.c M.t.on M.t.g W h.fit.tc).mono ?_;rintro e w1 ⟨rfl,hb⟩;rw[n,e0];exact⟨D,hb⟩
 have y:IntKind.i64.wrap (M.clock+(M.t.c+1))=M.clock+(M.t.c+1):=by
  have:=h.fit.clock;have h2:0<=M.t.c/\M.t.c<=65535:=h.fit.tc;rw[aH];omega
 rw[hX];have H:=hid h;have k:=hid q;have l:=hid s;have I:=hid x;have L:=hid n;have U:=hid hT;have V:=hid y;clear h q s x n T hX hT y;have z0:=H.out.bx.z;go_enter func158,ntmps158;go_upto_region 1 with fail
 cases tg
 case' false =>
  simp only[lY] at E;have X:=hid E;clear E;refine wp_region_held_drew (S:=λw'=>w'.rangeAt F.g 0 (bY M.main)/\w'.cell? ⟨F.g,44,G⟩=A (ν ξ)/\w'.cell? ⟨F.g,63,G⟩=A (ν bg)) (by kernel_rfl) (H.out.drew.sm k.out l.out) ?_;intro a;refine dy 0 ⟨A 4,_,_,_,_,G⟩ a ?_;simp only[ag,xA,xB,xC];refine dy 1 ⟨A 5,_,_,_,_,G⟩ a ?_;simp only[ag,xA,xB,xC];refine dy 2 ⟨A 6,_,_,_,_,G⟩ a ?_;simp only[ag,xA,xB,xC];refine jW 3 (ac (bY M.main).toArray) D (λw' d=>ml 25 _ D F.g 0 D (bY M.main) _ d.1 underlying25 D pO) a ?_;refine dy 4 ⟨A 8,_,_,_,_,G⟩ a ?_;simp only[ag,xA,xB,xC];refine dy 5 ⟨A 9,_,_,_,_,G⟩ a ?_;simp only[ag,xA,xB,xC];refine dy 6 ⟨A 10,_,_,_,_,G⟩ a ?_;simp only[ag,xA,xB,xC];refine dy 7 ⟨A 11,_,_,_,_,G⟩ a ?_;simp only[ag,xA,xB,xC];refine nU 8 (λ_ d=>d.2.1) a ?_;refine dy 9 ⟨A 13,_,_,_,_,G⟩ a ?_;simp only[ag,xA,xB,xC];refine dy 10 ⟨A 14,_,_,_,_,A (9,ξ)⟩ a ?_;simp only[ag,xA,xB,xC];refine dy 11 ⟨A 15,_,_,_,_,A (9,ξ)⟩ a ?_
  simp only[ag,xA,xB,xC];refine dy 12 ⟨A 16,_,_,_,_,A (9,ξ)⟩ a ?_;simp only[ag,xA,xB,xC];refine dy 13 ⟨A 17,_,_,_,_,A (9,ξ)⟩ a ?_;simp only[ag,xA,xB,xC];refine nU 14 (λ_ d=>d.2.2) a ?_;refine dy 15 ⟨A 19,_,_,_,_,G⟩ a ?_;simp only[ag,xA,xB,xC];refine wpAnyH_ready (rs:=[16]) (by kernel_rfl) (by simp) ?_;refine AllReadyH.cons (o:=⟨A 20,_,_,_,_,G⟩) D (λK p=>?_) AllReadyH.nil;go_simp;go_at_call 225
  refine(X.out _).mono ?_;rintro e w1 ⟨rfl,j⟩;have f:=hid (H.out.drew.kept j);have m:=hid (bw (aR w).drew j);clear j;try go_wp2_with fail
  refine gL p (f.out.sm k.out l.out) (λ_=>?_);clear p K a;have a:=f.out.sm k.out l.out;refine dy 17 ⟨A 21,_,_,_,_,G⟩ a ?_;simp only[ag,xA,xB,xC];refine dy 18 ⟨A 3,_,_,_,_,G⟩ a ?_;simp only[ag,xA,xB,xC];refine wpAnyH_done (by kernel_rfl) ?_ _
 case' true =>
  simp only[oI] at E;have X:=hid E;clear E;refine wp_region_held_drew (S:=λw'=>w'.rangeAt F.g 0 (bY M.main)/\w'.cell? ⟨F.g,44,G⟩=A (ν Γ)/\w'.cell? ⟨F.g,63,G⟩=A (ν bg)) (by kernel_rfl) (H.out.drew.sm k.out l.out) ?_;intro a;refine dy 0 ⟨A 4,_,_,_,_,G⟩ a ?_;simp only[ag,xA,xB,xC];refine dy 1 ⟨A 5,_,_,_,_,G⟩ a ?_;simp only[ag,xA,xB,xC];refine dy 2 ⟨A 6,_,_,_,_,G⟩ a ?_;simp only[ag,xA,xB,xC];refine jW 3 (ac (bY M.main).toArray) D (λw' d=>ml 25 _ D F.g 0 D (bY M.main) _ d.1 underlying25 D pO) a ?_;refine dy 4 ⟨A 8,_,_,_,_,G⟩ a ?_;simp only[ag,xA,xB,xC];refine dy 5 ⟨A 9,_,_,_,_,G⟩ a ?_;simp only[ag,xA,xB,xC];refine dy 6 ⟨A 10,_,_,_,_,G⟩ a ?_;simp only[ag,xA,xB,xC];refine dy 7 ⟨A 11,_,_,_,_,G⟩ a ?_;simp only[ag,xA,xB,xC];refine nU 8 (λ_ d=>d.2.1) a ?_;refine dy 9 ⟨A 13,_,_,_,_,G⟩ a ?_;simp only[ag,xA,xB,xC];refine wpAnyH_take (i:=10) (oi:=⟨A 14,_,_,_,_,A (9,ξ)⟩) (v:=dF) D (by kernel_rfl) (by kernel_rfl) (by kernel_rfl) (λ_ _ _ h=>h) (ao ⟨by rfl,D⟩) a ?_
  simp only[ag,xA,xB,xC];refine wpAnyH_take (i:=11) (oi:=⟨A 15,_,_,_,_,A (9,ξ)⟩) (v:=dF) D (by kernel_rfl) (by kernel_rfl) (by kernel_rfl) (λ_ _ _ h=>h) (ao ⟨by rfl,D⟩) a ?_;simp only[ag,xA,xB,xC];refine wpAnyH_take (i:=12) (oi:=⟨A 16,_,_,_,_,A (9,ξ)⟩) (v:=dF) D (by kernel_rfl) (by kernel_rfl) (by kernel_rfl) (λ_ _ _ h=>h) (ao ⟨by rfl,D⟩) a ?_;simp only[ag,xA,xB,xC];refine wpAnyH_take (i:=13) (oi:=⟨A 17,_,_,_,_,A (9,ξ)⟩) (v:=dF) D (by kernel_rfl) (by kernel_rfl) (by kernel_rfl) (λ_ _ _ h=>h) (ao ⟨by rfl,D⟩) a ?_;simp only[ag,xA,xB,xC];refine wpAnyH_take (i:=14) (oi:=⟨A 18,_,_,_,_,A (9,ξ)⟩) (v:=dF) D (by kernel_rfl) (by kernel_rfl) (by kernel_rfl) (λ_ _ _ h=>h) (ao ⟨by rfl,D⟩) a ?_;simp only[ag,xA,xB,xC];refine dy 15 ⟨A 19,_,_,_,_,G⟩ a ?_;simp only[ag,xA,xB,xC];refine wpAnyH_ready (rs:=[16]) (by kernel_rfl) (by simp) ?_;refine AllReadyH.cons (o:=⟨A 20,_,_,_,_,G⟩) D (λK p=>?_) AllReadyH.nil
  go_simp;go_at_call 225
  refine(X.out _).mono ?_;rintro e w1 ⟨rfl,j⟩;have f:=hid (H.out.drew.kept j);have m:=hid (bw (aR w).drew j);clear j;try go_wp2_with fail
  refine gL p (f.out.sm k.out l.out) (λ_=>?_);clear p K a;have a:=f.out.sm k.out l.out;refine dy 17 ⟨A 21,_,_,_,_,G⟩ a ?_;simp only[ag,xA,xB,xC];refine dy 18 ⟨A 3,_,_,_,_,G⟩ a ?_;simp only[ag,xA,xB,xC];refine wpAnyH_done (by kernel_rfl) ?_ _
 all_goals
  clear a;have zz:=f.out.bx.z;cases z
  ·have m73:=f.out.at 73 (J Q M.mready) D
   go_wp2;go_ret;exact⟨D,m.out⟩
  ·cases mm
   ·have N:w1.cell? ⟨F.g,13,G⟩=A (ν ξ):=by rw[<- I.out];exact f.out.at 13 (ν M.main.May) D
    go_wp2;go_ret;exact⟨D,m.out⟩
   ·have N:w1.cell? ⟨F.g,13,G⟩=A (ν Γ):=by rw[<- I.out];exact f.out.at 13 (ν M.main.May) D
    cases on
    ·have P:w1.cell? ⟨F.g,43,G⟩=A (ν ξ):=by rw[<- L.out];exact f.out.at 43 (ν M.t.on) D
     go_wp2;go_ret;exact⟨D,m.out⟩
    ·have P:w1.cell? ⟨F.g,43,G⟩=A (ν Γ):=by rw[<- L.out];exact f.out.at 43 (ν M.t.on) D
     have HT:=hid (U.out D);go_upto_region 4 with fail
     have y:=V.out;clear N P;refine wp_region_held_drew (S:=λw'=>w'.cell? ⟨F.g,72,G⟩=A (J Q M.clock)/\w'.rangeAt F.g 41 [J Y M.t.r,J Y M.t.c,ν M.t.on,ν M.t.g]) (by kernel_rfl) (f.out.drew.st4) ?_;intro a;refine dy 0 ⟨A 39,_,_,_,_,G⟩ a ?_;simp only[ag,xA,xB,xC];refine dy 1 ⟨A 40,_,_,_,_,G⟩ a ?_;simp only[ag,xA,xB,xC];refine dy 2 ⟨A 41,_,_,_,_,G⟩ a ?_;simp only[ag,xA,xB,xC];refine nU 3 (λ_ d=>d.1) a ?_;refine dy 4 ⟨A 43,_,_,_,_,G⟩ a ?_;simp only[ag,xA,xB,xC];refine dy 5 ⟨A 44,_,_,_,_,G⟩ a ?_;simp only[ag,xA,xB,xC];refine dy 6 ⟨A 45,_,_,_,_,G⟩ a ?_;simp only[ag,xA,xB,xC];refine jW 7 (ac ([J Y M.t.r,J Y M.t.c,ν M.t.on,ν M.t.g]).toArray) D (λw' d=>ml 31 _ D F.g 41 D ([J Y M.t.r,J Y M.t.c,ν M.t.on,ν M.t.g]) _ d.2 underlying31 D zdy) a ?_;refine wpAnyH_ready (rs:=[8]) (by kernel_rfl) (by simp) ?_;refine AllReadyH.cons (o:=⟨A 47,_,_,_,_,G⟩) D (λK p=>?_) AllReadyH.nil;go_simp;go_at_call 226
     refine(HT.out _).mono ?_;rintro e w2 ⟨rfl,B⟩;have R:=hid (f.out.drew.kept B);have Z:=hid (bw m.out.drew B);clear B;try go_wp2_with fail
     refine gL p (R.out.st4) (λ_=>?_);clear p K a;have a:=R.out.st4;refine dy 9 ⟨A 48,_,_,_,_,G⟩ a ?_;simp only[ag,xA,xB,xC];refine dy 10 ⟨A 2,_,_,_,_,G⟩ a ?_;simp only[ag,xA,xB,xC];refine wpAnyH_done (by kernel_rfl) ?_ _;go_wp2;go_ret;exact⟨D,Z.out⟩
def Ct.nextAux(h:Bd F w M tk):Δ ω 160 #[pt F.g 0] w λe w'=>e=μ (J Q M.nxA)/\Below w.heap.size w w':=by
 obtain⟨x,k⟩:∃ b,M.held=b:=⟨_,D⟩
 obtain⟨z,l⟩:∃ b,M.sleepsA=b:=⟨_,D⟩
 have n:∀ W,Δ ω 225 #[ac (bY M.aux).toArray,ν M.rung] W λe w'=>e=μ (ν z)/\Below W.heap.size W w':=λW=>by
  rw[<- l];exact Ct.asleep M.aux _ W
 have p:M.nxA=if (x || z)=Γ then nn else M.aready:=by unfold Mach.nxA;rw[l,k]
 rw[p];have H:=hid h;have j:=hid k;have r:=hid n;clear h k l p n;have z0:=H.out.bx.z;go_enter func160,ntmps160;go_upto_region 1 with fail
 cases x
 ·skip
  refine wp_region_held_drew (S:=λw'=>w'.cell? ⟨F.g,68,G⟩=A (ν ξ)/\w'.rangeAt F.g 15 (bY M.aux)/\w'.cell? ⟨F.g,71,G⟩=A (ν M.rung)) (by kernel_rfl) (H.out.drew.sa j.out) ?_;intro a;refine dy 0 ⟨A 3,_,_,_,_,G⟩ a ?_;simp only[ag,xA,xB,xC];refine dy 1 ⟨A 4,_,_,_,_,G⟩ a ?_;simp only[ag,xA,xB,xC];refine dy 2 ⟨A 5,_,_,_,_,G⟩ a ?_;simp only[ag,xA,xB,xC];refine nU 3 (λ_ c=>c.1) a ?_;refine dy 4 ⟨A 7,_,_,_,_,G⟩ a ?_;simp only[ag,xA,xB,xC];refine dy 5 ⟨A 8,_,_,_,_,A (4,ξ)⟩ a ?_;simp only[ag,xA,xB,xC];refine dy 6 ⟨A 9,_,_,_,_,A (4,ξ)⟩ a ?_;simp only[ag,xA,xB,xC];refine dy 7 ⟨A 10,_,_,_,_,A (4,ξ)⟩ a ?_;simp only[ag,xA,xB,xC];refine jW 8 (ac (bY M.aux).toArray) D (λw' c=>ml 25 _ D F.g 15 D (bY M.aux) _ c.2.1 underlying25 D pO) a ?_;refine dy 9 ⟨A 12,_,_,_,_,A (4,ξ)⟩ a ?_;simp only[ag,xA,xB,xC];refine dy 10 ⟨A 13,_,_,_,_,A (4,ξ)⟩ a ?_;simp only[ag,xA,xB,xC];refine dy 11 ⟨A 14,_,_,_,_,A (4,ξ)⟩ a ?_;simp only[ag,xA,xB,xC]
  refine nU 12 (λ_ c=>c.2.2) a ?_;refine wpAnyH_ready (rs:=[13]) (by kernel_rfl) (by simp) ?_;refine AllReadyH.cons (o:=⟨A 16,_,_,_,_,A (4,ξ)⟩) D (λK q=>?_) AllReadyH.nil;go_simp;go_at_call 225
  refine(r.out _).mono ?_;rintro e w1 ⟨rfl,f⟩;have d:=hid (H.out.drew.kept f);have m:=hid (bw (aR w).drew f);clear f;try go_wp2_with fail
  refine gL q (d.out.sa j.out) (λ_=>?_);clear q K a;have a:=d.out.sa j.out;refine dy 14 ⟨A 17,_,_,_,_,G⟩ a ?_;simp only[ag,xA,xB,xC];refine wpAnyH_done (by kernel_rfl) ?_ _;clear a;have t:=d.out.bx.z;have s:=d.out.at 74 (J Q M.aready) D;cases z;all_goals
   go_wp2;go_ret;exact⟨D,m.out⟩
 ·skip
  refine wp_region_held_drew (S:=λw'=>w'.cell? ⟨F.g,68,G⟩=A (ν Γ)/\w'.rangeAt F.g 15 (bY M.aux)/\w'.cell? ⟨F.g,71,G⟩=A (ν M.rung)) (by kernel_rfl) (H.out.drew.sa j.out) ?_;intro a;refine dy 0 ⟨A 3,_,_,_,_,G⟩ a ?_;simp only[ag,xA,xB,xC];refine dy 1 ⟨A 4,_,_,_,_,G⟩ a ?_;simp only[ag,xA,xB,xC];refine dy 2 ⟨A 5,_,_,_,_,G⟩ a ?_;simp only[ag,xA,xB,xC];refine nU 3 (λ_ c=>c.1) a ?_;refine dy 4 ⟨A 7,_,_,_,_,G⟩ a ?_;simp only[ag,xA,xB,xC];refine wpAnyH_take (i:=5) (oi:=⟨A 8,_,_,_,_,A (4,ξ)⟩) (v:=dF) D (by kernel_rfl) (by kernel_rfl) (by kernel_rfl) (λ_ _ _ h=>h) (ao ⟨by rfl,D⟩) a ?_;simp only[ag,xA,xB,xC];refine wpAnyH_take (i:=6) (oi:=⟨A 9,_,_,_,_,A (4,ξ)⟩) (v:=dF) D (by kernel_rfl) (by kernel_rfl) (by kernel_rfl) (λ_ _ _ h=>h) (ao ⟨by rfl,D⟩) a ?_;simp only[ag,xA,xB,xC];refine wpAnyH_take (i:=7) (oi:=⟨A 10,_,_,_,_,A (4,ξ)⟩) (v:=dF) D (by kernel_rfl) (by kernel_rfl) (by kernel_rfl) (λ_ _ _ h=>h) (ao ⟨by rfl,D⟩) a ?_
  simp only[ag,xA,xB,xC];refine wpAnyH_take (i:=8) (oi:=⟨A 11,_,_,_,_,A (4,ξ)⟩) (v:=dF) D (by kernel_rfl) (by kernel_rfl) (by kernel_rfl) (λ_ _ _ h=>h) (ao ⟨by rfl,D⟩) a ?_;simp only[ag,xA,xB,xC];refine wpAnyH_take (i:=9) (oi:=⟨A 12,_,_,_,_,A (4,ξ)⟩) (v:=dF) D (by kernel_rfl) (by kernel_rfl) (by kernel_rfl) (λ_ _ _ h=>h) (ao ⟨by rfl,D⟩) a ?_;simp only[ag,xA,xB,xC];refine wpAnyH_take (i:=10) (oi:=⟨A 13,_,_,_,_,A (4,ξ)⟩) (v:=dF) D (by kernel_rfl) (by kernel_rfl) (by kernel_rfl) (λ_ _ _ h=>h) (ao ⟨by rfl,D⟩) a ?_;simp only[ag,xA,xB,xC];refine wpAnyH_take (i:=11) (oi:=⟨A 14,_,_,_,_,A (4,ξ)⟩) (v:=dF) D (by kernel_rfl) (by kernel_rfl) (by kernel_rfl) (λ_ _ _ h=>h) (ao ⟨by rfl,D⟩) a ?_;simp only[ag,xA,xB,xC];refine wpAnyH_take (i:=12) (oi:=⟨A 15,_,_,_,_,A (4,ξ)⟩) (v:=dF) D (by kernel_rfl) (by kernel_rfl) (by kernel_rfl) (λ_ _ _ h=>h) (ao ⟨by rfl,D⟩) a ?_;simp only[ag,xA,xB,xC];refine wpAnyH_take (i:=13) (oi:=⟨A 16,_,_,_,_,A (4,ξ)⟩) (v:=dF) D (by kernel_rfl) (by kernel_rfl) (by kernel_rfl) (λ_ _ _ h=>h) (ao ⟨by rfl,D⟩) a ?_
  simp only[ag,xA,xB,xC];refine dy 14 ⟨A 17,_,_,_,_,G⟩ a ?_;simp only[ag,xA,xB,xC];refine wpAnyH_done (by kernel_rfl) ?_ _;go_wp2;go_ret;exact⟨D,(aR w).drew⟩
def Ct.ev1{b:Nat}(h:CI F N c vco vln vsm w k)(hb:w.cell? ⟨b,0,G⟩=A (pt c 0)):Δ ω 153 #[pt b 0] w λe w'=>e=μ (J Q k.nxP)/\Below w.heap.size w w':=by
 have d:=aC w _ hb;have k1:=h.cb.bx.at 1 vco D;have f:=h.cb.z;have a:=hid h.co;clear h;go_enter func153,ntmps153;go_wp2_with (go_at_call 154;refine(Ct.nextPress k a.out).mono ?_;rintro e w1 ⟨rfl,rfl⟩)
 go_ret;exact⟨D,aR w⟩
def Ct.ev2{b:Nat}(h:Bd F w M tk)(hb:w.cell? ⟨b,0,G⟩=A (pt F.g 0)):Δ ω 155 #[pt b 0] w λe w'=>e=μ (J Q (M.clock+M.b.tol))/\Below w.heap.size w w':=by
 have r:=aC w _ hb;have z0:=h.bx.z;have s:IntKind.i64.wrap (M.clock+M.b.tol)=M.clock+M.b.tol:=by
  have:=h.fit.clock;have:=zyk h.fit.b;rw[aH];omega
 have H:=hid h;have m:=hid hb;clear h hb;go_enter func155,ntmps155;go_upto_region 1 with fail
 refine wp_region_held_drew (S:=λw'=>w'.cell? ⟨b,0,G⟩=A (pt F.g 0)/\w'.cell? ⟨F.g,72,G⟩=A (J Q M.clock)/\w'.rangeAt F.g 61 [J Q M.b.l,J Q M.b.a,ν M.b.g,J Q M.b.f]) (by kernel_rfl) (⟨m.out,H.out.drew.sl⟩) ?_;intro d;refine nU 0 (λ_ c=>c.1) d ?_;refine dy 1 ⟨A 3,_,_,_,_,G⟩ d ?_;simp only[ag,xA,xB,xC];refine dy 2 ⟨A 4,_,_,_,_,G⟩ d ?_;simp only[ag,xA,xB,xC];refine nU 3 (λ_ c=>c.2.1) d ?_;refine nU 4 (λ_ c=>c.1) d ?_;refine dy 5 ⟨A 7,_,_,_,_,G⟩ d ?_;simp only[ag,xA,xB,xC];refine dy 6 ⟨A 8,_,_,_,_,G⟩ d ?_;simp only[ag,xA,xB,xC];refine jW 7 (ac ([J Q M.b.l,J Q M.b.a,ν M.b.g,J Q M.b.f]).toArray) D (λw' c=>ml 38 _ D F.g 61 D ([J Q M.b.l,J Q M.b.a,ν M.b.g,J Q M.b.f]) _ c.2.2 underlying38 D zer) d ?_;refine wpAnyH_ready (rs:=[8]) (by kernel_rfl) (by simp) ?_;refine AllReadyH.cons (o:=⟨A 10,_,_,_,_,G⟩) D (λK q=>?_) AllReadyH.nil;go_simp;go_at_call 156
 refine(Ct.toLine M.b _ H.out.fit.b).mono ?_;rintro e w1 ⟨rfl,i⟩;have j:=hid (H.out.drew.kept i);have n:=hid (bw (aR w).drew i);have k:=hid ((i.cell (p:=⟨b,0,G⟩) (aC w _ m.out)).trans m.out);clear i;try go_wp2_with fail
 refine gL q (And.intro k.out j.out.sl) (λ_=>?_);clear q K d;have d:=And.intro k.out j.out.sl;refine dy 9 ⟨A 11,_,_,_,_,G⟩ d ?_;simp only[ag,xA,xB,xC];refine dy 10 ⟨A 1,_,_,_,_,G⟩ d ?_;simp only[ag,xA,xB,xC];refine wpAnyH_done (by kernel_rfl) ?_ _;go_wp2;go_ret;exact⟨D,n.out⟩
def Ct.ev3{b:Nat}(h:Bd F w M tk)(hb:w.cell? ⟨b,0,G⟩=A (pt F.g 0)):Δ ω 157 #[pt b 0] w λe w'=>e=μ (J Q M.nxM)/\Below w.heap.size w w':=by
 have c:=aC w _ hb;have H:=hid h;clear h;go_enter func157,ntmps157;go_wp2_with (go_at_call 158;refine(Ct.nextMain H.out).mono ?_;rintro e w1 ⟨rfl,a⟩)
 go_ret;exact⟨D,a⟩
def Ct.ev4{b:Nat}(h:Bd F w M tk)(hb:w.cell? ⟨b,0,G⟩=A (pt F.g 0)):Δ ω 159 #[pt b 0] w λe w'=>e=μ (J Q M.nxA)/\Below w.heap.size w w':=by
 have c:=aC w _ hb;have H:=hid h;clear h;go_enter func159,ntmps159;go_wp2_with (go_at_call 160;refine(Ct.nextAux H.out).mono ?_;rintro e w1 ⟨rfl,a⟩)
 go_ret;exact⟨D,a⟩
end
section
variable {F : Fx} {w : u} {M : Mach} {tk : Tk} {b : Nat} {tt : Int}
def Ct.runB(x:Bem)(n:Int)(w:u)(c:0<=n/\n<=20000):Δ ω 65 #[ac #[J Q x.l,J Q x.a,ν x.g,J Q x.f],J Q n] w λe w'=>∃ y,e=μ (Ψ #[ac #[J Q (x.run n).l,J Q (x.run n).a,ν (x.run n).g,J Q (x.run n).f],J Q y])/\Below w.heap.size w w':=by
 unfold Bem.run;by_cases b:pL x.l x.a x.f=Γ
 ·rw[am b]
  refine(ziC x.l x.a x.f n x.g w ((qo _ _ _).1 b) c).mono ?_;rintro e w1 ⟨rfl,hb⟩;exact⟨_,D,hb⟩
 ·rw[ae b]
  refine(ziD x.l x.a x.f n x.g w (aj (λy=>b ((qo _ _ _).2 y)))).mono ?_;rintro e w1 ⟨rfl,hb⟩;exact⟨_,D,hb⟩
def Ct.runT(h:M.fit)(n:Int)(w:u)(a:0<=n/\n<=20000):Δ ω 165 #[ac #[J Y M.t.r,J Y M.t.c,ν M.t.on,ν M.t.g],J Q n] w λe w'=>∃ y,e=μ (Ψ #[ac #[J Y M.t.r,J Y (qh M.t.r M.t.c M.t.on n),ν M.t.on,ν (qm M.t.c M.t.on M.t.g n)],J Q y])/\Below w.heap.size w w':=by
 refine(zzz M.t.r M.t.c n M.t.on M.t.g w h.tr h.tc a).mono ?_;rintro e w1 ⟨rfl,hb⟩;exact⟨_,D,hb⟩
def Ct.pt1(h:Bd F w M tk)(hb:w.cell? ⟨b,0,G⟩=A (pt F.g 0))(m:M.clock<=tt/\tt<=M.clock+64):Δ ω 161 #[J Q tt,pt b 0] w λe w'=>e=μ (Ψ #[])/\Bd F w' (M.cA tt) tk/\Bt F w w':=by
 have k:=h.at 73 (J Q M.mready) D;have r:=h.bx.z;have s:=h.bx.f 73;have n:=aC w _ hb;have d:∀ W,Δ ω 162 #[J Q M.mready,J Q tt,J Q 3] W λe w'=>e=μ (J Q (dO M.mready tt 3))/\W=w':=λW=>Ct.sleeps _ _ 3 (aj D) (by have:=h.fit.mready;have:=h.fit.clock;omega) (by have:=h.fit.clock;omega) W
 have H:=hid h;have p:=hid m;have l:=hid d;have q:bG (w.cell? ⟨b,0,G⟩=A (pt F.g 0)/\w.cell? ⟨F.g,73,G⟩=A (J Q M.mready)):=hid ⟨hb,k⟩;clear h m d;go_enter func161,ntmps161;go_upto_region 0 with fail
 refine qp (S:=λw'=>w'.cell? ⟨b,0,G⟩=A (pt F.g 0)/\w'.cell? ⟨F.g,73,G⟩=A (J Q M.mready)) (st:=9) (by kernel_rfl) ?_;have c:=q.out;refine kU [] 0 (λ_ a=>a.1) c ?_;refine kU [] 1 (λ_ a=>a.1) c ?_;refine b8 2 (λ_=>c) ?_;refine b8 3 (λ_=>c) ?_;refine kU [] 4 (λ_ a=>a.2) c ?_;refine b8 5 (λ_=>c) ?_;refine wz (i:=6) (o:=⟨A 9,_,_,_,_,G⟩) (by kernel_rfl) D (λK j=>?_);go_simp;go_at_call 162
 refine(l.out _).mono ?_;rintro e w1 ⟨rfl,rfl⟩;try go_wp2_with fail
 refine jV j (λ_=>c) ?_;clear j K;refine b8 7 (λ_=>c) ?_;refine b8 8 (λ_=>c) ?_;refine wz (i:=9) (o:=⟨G,_,_,_,_,G⟩) (by kernel_rfl) D (λK j=>?_);go_simp;refine j.out _ _ (λh=>by simp at h) ?_;clear j K;refine pq (by kernel_rfl) ?_ _;go_wp2;go_end0;exact⟨D,H.out.drew.put (M':=M.cA tt) (tk':=tk) 73 _ (by omega) D ⟨D,D,D,D,D⟩ (zBy H.out.fit p.out.2),Bt.set H.out.nd (Bt.kept (Bt.refl F w) H.out.big (aR w).drew) 73 _⟩
def Ct.pt2(h:Bd F w M tk)(hb:w.cell? ⟨b,0,G⟩=A (pt F.g 0))(n:M.clock<=tt/\tt<=M.clock+64):Δ ω 163 #[J Q tt,pt b 0] w λe w'=>e=μ (Ψ #[])/\Bd F w' (M.cB tt) tk/\Bt F w w':=by
 have y:=h.bx.z;have s:=aC w _ hb;obtain⟨x,j⟩:∃ b,M.held=b:=⟨_,D⟩
 have t:w.cell? ⟨F.g,68,G⟩=A (ν x):=by rw[<- j];exact h.at 68 (ν M.held) D
 cases x
 ·have p:=h.at 74 (J Q M.aready) D
  have B:=h.bx.f 74;have k:∀ W,Δ ω 162 #[J Q M.aready,J Q tt,J Q 5] W λe w'=>e=μ (J Q (dO M.aready tt 5))/\W=w':=λW=>Ct.sleeps _ _ 5 (ao D) (by have:=h.fit.aready;have:=h.fit.clock;omega) (by have:=h.fit.clock;omega) W
  have l:M.cB tt={ M with aready:=dO M.aready tt 5 }:=by unfold Mach.cB;rw[j];rfl
  have a:=zBz (M:=M) (tt:=tt) h.fit n.2;rw[l] at a ⊢;have H:=hid h;have q:=hid a;have r:=hid k;have v:bG (w.cell? ⟨b,0,G⟩=A (pt F.g 0)/\w.cell? ⟨F.g,74,G⟩=A (J Q M.aready)):=hid ⟨hb,p⟩;clear h n k a l j;go_enter func163,ntmps163;go_upto_region 1 with fail
  refine qp (S:=λw'=>w'.cell? ⟨b,0,G⟩=A (pt F.g 0)/\w'.cell? ⟨F.g,74,G⟩=A (J Q M.aready)) (st:=9) (by kernel_rfl) ?_;have d:=v.out;refine kU [] 0 (λ_ c=>c.1) d ?_;refine kU [] 1 (λ_ c=>c.1) d ?_;refine b8 2 (λ_=>d) ?_;refine b8 3 (λ_=>d) ?_;refine kU [] 4 (λ_ c=>c.2) d ?_;refine b8 5 (λ_=>d) ?_;refine wz (i:=6) (o:=⟨A 14,_,_,_,_,G⟩) (by kernel_rfl) D (λK m=>?_);go_simp;go_at_call 162
  refine(r.out _).mono ?_;rintro e w1 ⟨rfl,rfl⟩;try go_wp2_with fail
  refine jV m (λ_=>d) ?_;clear m K;refine b8 7 (λ_=>d) ?_;refine b8 8 (λ_=>d) ?_;refine wz (i:=9) (o:=⟨G,_,_,_,_,G⟩) (by kernel_rfl) D (λK m=>?_);go_simp;refine m.out _ _ (λh=>by simp at h) ?_;clear m K;refine pq (by kernel_rfl) ?_ _;go_wp2;go_end0;exact⟨D,H.out.drew.put (M':={ M with aready:=dO M.aready tt 5 }) (tk':=tk) 74 _ (by omega) D ⟨D,D,D,D,D⟩ q.out,Bt.set H.out.nd (Bt.kept (Bt.refl F w) H.out.big (aR w).drew) 74 _⟩
 ·have l:M.cB tt=M:=by unfold Mach.cB;rw[am j]
  rw[l];have H:=hid h;clear h n l j;go_enter func163,ntmps163;go_wp2;go_end0;exact⟨D,H.out,Bt.refl F w⟩
def Ct.pt3(h:Bd F w M tk)(hb:w.cell? ⟨b,0,G⟩=A (pt F.g 0))(q:M.clock<=tt/\tt<=M.clock+64):Δ ω 164 #[J Q tt,pt b 0] w λe w'=>e=μ (Ψ #[])/\Bd F w' (M.cT tt) tk/\Bt F w w':=by
 have v:IntKind.i64.wrap (tt-M.clock)=tt-M.clock:=by rw[aH];omega
 have H:=hid h;have s:=hid q;have m:bG (w.cell? ⟨b,0,G⟩=A (pt F.g 0)/\w.cell? ⟨F.g,72,G⟩=A (J Q M.clock)/\w.rangeAt F.g 41 [J Y M.t.r,J Y M.t.c,ν M.t.on,ν M.t.g]):=hid ⟨hb,h.st4⟩;clear h q hb;go_enter func164,ntmps164;go_upto_region 0 with fail
 refine qp (S:=λw'=>w'.cell? ⟨b,0,G⟩=A (pt F.g 0)/\w'.cell? ⟨F.g,72,G⟩=A (J Q M.clock)/\w'.rangeAt F.g 41 [J Y M.t.r,J Y M.t.c,ν M.t.on,ν M.t.g]) (st:=17) (by kernel_rfl) ?_;have d:=m.out;refine kU [] 0 (λ_ a=>a.1) d ?_;refine kU [] 1 (λ_ a=>a.1) d ?_;refine b8 2 (λ_=>d) ?_;refine b8 3 (λ_=>d) ?_;refine sf [] 4 (ac ([J Y M.t.r,J Y M.t.c,ν M.t.on,ν M.t.g]).toArray) D (λw' a=>ml 31 _ D F.g 41 D ([J Y M.t.r,J Y M.t.c,ν M.t.on,ν M.t.g]) _ a.2.2 underlying31 D zdy) d ?_;refine b8 5 (λ_=>d) ?_;refine kU [] 6 (λ_ a=>a.1) d ?_;refine b8 7 (λ_=>d) ?_;refine b8 8 (λ_=>d) ?_;refine kU [] 9 (λ_ a=>a.2.1) d ?_;refine b8 10 (λ_=>d) ?_;refine wz (i:=11) (o:=⟨A 15,_,_,_,_,G⟩) (by kernel_rfl) D (λK k=>?_);go_simp;go_at_call 165
 refine(Ct.runT H.out.fit (tt-M.clock) _ (by have:=s.out;omega)).mono ?_;rintro e w1 ⟨x,rfl,f⟩;have j:=hid (H.out.drew.kept f);have n:=hid (bw (aR w).drew f);have l:bG (w1.cell? ⟨b,0,G⟩=A (pt F.g 0)/\w1.cell? ⟨F.g,72,G⟩=A (J Q M.clock)/\w1.rangeAt F.g 41 [J Y M.t.r,J Y M.t.c,ν M.t.on,ν M.t.g]):=hid ⟨(f.cell (p:=⟨b,0,G⟩) (aC w _ m.out.1)).trans m.out.1,j.out.at 72 _ D,j.out.tmR⟩;clear f;try go_wp2_with fail
 refine jV k (λ_=>l.out) ?_;clear k K;clear d;have d:=l.out;refine b8 12 (λ_=>d) ?_;refine b8 13 (λ_=>d) ?_;refine b8 14 (λ_=>d) ?_;refine b8 15 (λ_=>d) ?_;refine b8 16 (λ_=>d) ?_;refine wz (i:=17) (o:=⟨G,_,_,_,_,G⟩) (by kernel_rfl) D (λK k=>?_);refine pH D 31 _ _ D F.g 41 ([J Y M.t.r,J Y (qh M.t.r M.t.c M.t.on (tt-M.clock)),ν M.t.on,ν (qm M.t.c M.t.on M.t.g (tt-M.clock))]).toArray D D (Bx.there j.out.bx 41 4 (by rw[Fx.len];omega)) zdy (by simp[bi]) ?_;refine k.out _ _ (λh=>by simp at h) ?_;clear k K;refine pq (by kernel_rfl) ?_ _;go_wp2;go_end0;exact⟨D,j.out.puts (M':=M.cT tt) (tk':=tk) 41 [J Y M.t.r,J Y (qh M.t.r M.t.c M.t.on (tt-M.clock)),ν M.t.on,ν (qm M.t.c M.t.on M.t.g (tt-M.clock))] (by simp) D ⟨D,D,D,D,D⟩ (zBA H.out.fit s.out.1),Bt.sets H.out.nd [J Y M.t.r,J Y (qh M.t.r M.t.c M.t.on (tt-M.clock)),ν M.t.on,ν (qm M.t.c M.t.on M.t.g (tt-M.clock))] 41 _ (Bt.kept (Bt.refl F w) H.out.big n.out)⟩
def Ct.pt4(h:Bd F w M tk)(hb:w.cell? ⟨b,0,G⟩=A (pt F.g 0))(r:M.clock<=tt/\tt<=M.clock+64):Δ ω 166 #[J Q tt,pt b 0] w λe w'=>e=μ (Ψ #[])/\Bd F w' (M.cE tt) tk/\Bt F w w':=by
 have E:IntKind.i64.wrap (tt-M.clock)=tt-M.clock:=by rw[aH];omega
 obtain⟨b1,j⟩:∃ x,x=M.b.run (tt-M.clock):=⟨_,D⟩
 have z:∀ W,Δ ω 65 #[ac #[J Q M.b.l,J Q M.b.a,ν M.b.g,J Q M.b.f],J Q (tt-M.clock)] W λe w'=>∃ y,e=μ (Ψ #[ac #[J Q b1.l,J Q b1.a,ν b1.g,J Q b1.f],J Q y])/\Below W.heap.size W w':=λW=>by
  rw[j];exact Ct.runB M.b _ W (by omega)
 have B:M.cE tt={ M with b:=b1 }:=by unfold Mach.cE;rw[j]
 have k:=zBB (M:=M) (tt:=tt) h.fit r.1 r.2;rw[B] at k ⊢;have H:=hid h;have s:=hid k;have I:=hid z;have t:bG (w.cell? ⟨b,0,G⟩=A (pt F.g 0)/\w.cell? ⟨F.g,72,G⟩=A (J Q M.clock)/\w.rangeAt F.g 61 [J Q M.b.l,J Q M.b.a,ν M.b.g,J Q M.b.f]):=hid ⟨hb,h.sl⟩;clear h r hb z j B k;go_enter func166,ntmps166;go_upto_region 0 with fail
 refine qp (S:=λw'=>w'.cell? ⟨b,0,G⟩=A (pt F.g 0)/\w'.cell? ⟨F.g,72,G⟩=A (J Q M.clock)/\w'.rangeAt F.g 61 [J Q M.b.l,J Q M.b.a,ν M.b.g,J Q M.b.f]) (st:=17) (by kernel_rfl) ?_;have d:=t.out;refine kU [] 0 (λ_ c=>c.1) d ?_;refine kU [] 1 (λ_ c=>c.1) d ?_;refine b8 2 (λ_=>d) ?_;refine b8 3 (λ_=>d) ?_;refine sf [] 4 (ac ([J Q M.b.l,J Q M.b.a,ν M.b.g,J Q M.b.f]).toArray) D (λw' c=>ml 38 _ D F.g 61 D ([J Q M.b.l,J Q M.b.a,ν M.b.g,J Q M.b.f]) _ c.2.2 underlying38 D zer) d ?_;refine b8 5 (λ_=>d) ?_;refine kU [] 6 (λ_ c=>c.1) d ?_;refine b8 7 (λ_=>d) ?_;refine b8 8 (λ_=>d) ?_;refine kU [] 9 (λ_ c=>c.2.1) d ?_;refine b8 10 (λ_=>d) ?_;refine wz (i:=11) (o:=⟨A 15,_,_,_,_,G⟩) (by kernel_rfl) D (λK n=>?_);go_simp;go_at_call 65
 refine(I.out _).mono ?_;rintro e w1 ⟨L,rfl,j⟩;have m:=hid (H.out.drew.kept j);have v:=hid (bw (aR w).drew j);have q:bG (w1.cell? ⟨b,0,G⟩=A (pt F.g 0)/\w1.cell? ⟨F.g,72,G⟩=A (J Q M.clock)/\w1.rangeAt F.g 61 [J Q M.b.l,J Q M.b.a,ν M.b.g,J Q M.b.f]):=hid ⟨(j.cell (p:=⟨b,0,G⟩) (aC w _ t.out.1)).trans t.out.1,m.out.at 72 _ D,m.out.bmR⟩;clear j;try go_wp2_with fail
 refine jV n (λ_=>q.out) ?_;clear n K;clear d;have d:=q.out;refine b8 12 (λ_=>d) ?_;refine b8 13 (λ_=>d) ?_;refine b8 14 (λ_=>d) ?_;refine b8 15 (λ_=>d) ?_;refine b8 16 (λ_=>d) ?_;refine wz (i:=17) (o:=⟨G,_,_,_,_,G⟩) (by kernel_rfl) D (λK n=>?_);refine pH D 38 _ _ D F.g 61 ([J Q b1.l,J Q b1.a,ν b1.g,J Q b1.f]).toArray D D (Bx.there m.out.bx 61 4 (by rw[Fx.len];omega)) zer (by simp[bi]) ?_;refine n.out _ _ (λh=>by simp at h) ?_;clear n K;refine pq (by kernel_rfl) ?_ _;go_wp2;go_end0;exact⟨D,m.out.puts (M':={ M with b:=b1 }) (tk':=tk) 61 [J Q b1.l,J Q b1.a,ν b1.g,J Q b1.f] (by simp) D ⟨D,D,D,D,D⟩ s.out,Bt.sets H.out.nd [J Q b1.l,J Q b1.a,ν b1.g,J Q b1.f] 61 _ (Bt.kept (Bt.refl F w) H.out.big v.out)⟩
end
def zvu{ι:u}{v:π}{l:List UInt8}{B:Nat}(h:sliceAt ι v l)(b:∀ k,v.ownBlock=A k->k≠B)(o:Nat)(vs:List π):sliceAt (ι.setCells B o vs) v l:=by
 rcases h with h|⟨g,o',a,h1,h2,h3,h4⟩
 ·exact aj h
 ·have d:g≠B:=b g (by rw[h1];rfl)
  exact ao ⟨g,o',a,h1,h2,by rw[pN];exact h3,λj c e=>(Φ (w:=ι) (ji d _ _ _)).trans (h4 j c e)⟩
def zsp{ι:u}{g o a:Nat}{x:UInt8}{b:List UInt8}(h:sliceAt ι (κ (A ⟨g,o,G⟩) (x::b).length a) (x::b)):sliceAt ι (.slice (if a=1 then A ⟨g,o,G⟩ else A ⟨g,o+1,G⟩) b.length (a-1)) b:=by
 rcases h with⟨_,_,_,e⟩|⟨g',o',c,e,h2,h3,h4⟩
 ·cases e
 ·cases e
  by_cases d:b=[]
  ·subst d
   exact aj ⟨_,_,D,D⟩
  ·have k:0<b.length:=by
    cases b with
    | nil=>exact absurd D d
    | cons=>simp
   have f:b.length+1<=a:=h2;rw[ae (by omega)];refine ao ⟨g,o+1,a-1,D,by omega,h3,λj y i=>?_⟩;have:=h4 (j+1) y i;rw[show o+1+j=o+(j+1) by omega];exact this
def appG{ops:Array cG}{rest:List cG}{o:cG}{a:Act}{w:u}{η:Exit->Act->u->Prop}(k:o.guard=G)(s x:Operand)(H:o.op=.call { callee:=.builtin .append,args:=#[s,x],argTypes:=#[26,26] })
 (B:Nat) (v:π) (xs:List UInt8) (I:a.eval s=v) (b:w.ownsRow B 5 1 v xs.length (gJ xs)) (q:π) (L:a.eval x=q) (l:List UInt8) (M:sliceAt w q l) (hb:xs.length+l.length<=100000) (hB:B<=w.heap.size)
 (h:∀ v' w',w'.ownsRow B 5 1 v' (xs++l).length (gJ (xs++l))->w.grownBy w' v.ownBlock->dg ω ops η rest (a.put o.dst v') w'):dg ω ops η (o::rest) a w:=by
 obtain⟨i0,m,r,t,y⟩:=info_parts Aq;by_cases d:l=[]
 ·subst d
  have z:∃ i c,q=κ i 0 c:=by
   rcases M with⟨i,c,h1,_⟩|⟨g,o',c,h1,_⟩
   ·exact⟨i,c,h1⟩
   ·exact⟨_,c,h1⟩
  obtain⟨i,c,rfl⟩:=z;refine gj k λK R=>?_
  have n:=rP B i0 m o.type v xs.length (gJ xs) b i c;unfold Oper.wp;simp[execOp,H,resolve,invoke,builtin,I,L,n,aE];exact R _ _ (h v w (by simpa using b) ⟨D,D,D,ψ _,λ_ _ _=>D⟩)
 ·rcases M with⟨i,c,_,h2⟩|⟨g,o',c,h1,h2,h3,h4⟩
  ·exact absurd h2 d
  ·have p:0<l.length:=by cases l with|nil=>exact absurd rfl d|cons _ _=>simp
   refine wpList_append_lies _ k s x _ H B 5 i0 _ 1 1 underlying26 m r t y D (by omega) v xs.length (gJ xs) I b ⟨g,o',G⟩ l.length c (gJ l) (L.trans h1) (by simp[gJ]) (λj θ N=>?_) (λθ P=>?_) p (by unfold dI;omega) (by omega) hB w.heap.size D ?_
   ·simp only[gJ,bn,gn] at N
    obtain⟨cc,E,F⟩:=N;rw[<- F,show (⟨g,o',G⟩:cK).add j=⟨g,o'+j,G⟩ by unfold Addr.add;split <;> simp_all];exact h4 j cc E
   ·simp only[gJ,gc] at P
    obtain⟨cc,_,rfl⟩:=P;rfl
   ·intro g' T w' e f _ _
    refine h _ w' ?_ f;rw[az,<- ze5];exact e
section
variable {F : Fx} {N c : Nat} {vco vln vsm : π} {w w1 ι Y' : u} {k : Cs} {M : Mach} {tk : Tk} {d B : Nat} {v : π} {tt : Int}
def Bd.ss5(h:Bd F w M tk):w.rangeAt F.g 45 (dq M.s)/\w.cell? ⟨F.g,72,G⟩=A (J Q M.clock):=⟨h.sndR,h.at 72 _ rfl⟩
structure SV (F : Fx) (N c : Nat) (vco vln vsm : π) (k : Cs) (M : Mach) (tk : Tk) (w : u) (ι : u) : Prop where
 ci:CI F N c vco vln vsm ι k
 bd:Bd F ι M tk
 low:Below w.heap.size w ι
def SV.kept'(a:Fb F N)(h:SV F N c vco vln vsm k M tk w ι)(hb:Below ι.heap.size ι Y'):SV F N c vco vln vsm k M tk w Y':=⟨h.ci.keep a hb,h.bd.kept hb,bw h.low hb⟩
structure SWc (F : Fx) (N c : Nat) (vco vln vsm : π) (k : Cs) (M : Mach) (tk : Tk) (w : u) (d B : Nat) (v : π) (ι : u) : Prop extends SV F N c vco vln vsm k M tk w ι where
 bx:Bx ι B (dq (M.s.ticks d))
 bz:w.heap.size<=B
 sl:sliceAt ι v (lB M.s d)
def zvv{L:List π}{x:Sd}(h:Bx ι B L)(a:L.length=16):Bx (ι.setCells B 0 (dq x)) B (dq x):=by
 have:=h.puts 0 (dq x) (by rw[a];simp[dq]);rw[mK _ _ (by rw[a];simp[dq])] at this;exact this
def SWc.mk1(a:Fb F N)(h:SV F N c vco vln vsm k M tk w ι)(e:sliceAt ι v (lB M.s d)):SWc F N c vco vln vsm k M tk w d ι.heap.size v ((ι.alloc (χ zs.toArray 36)).setCells ι.heap.size 0 (dq (M.s.ticks d))):=by
 have hb:Below ι.heap.size ι ((ι.alloc (χ zs.toArray 36)).setCells ι.heap.size 0 (dq (M.s.ticks d))):=Bl.puts (stA (aR ι) _) (ψ _) _;exact⟨h.kept' a hb,zvv (Bx.new ι zs 36 (b:=ι.heap.size) D) (by simp[zs]),h.low.size,e.kept hb⟩
def SWc.mk2(a:Fb F N)(h:SV F N c vco vln vsm k M tk w w)(hb:Below (w.drew.alloc (χ zs.toArray 36)).heap.size (w.drew.alloc (χ zs.toArray 36)) w1)(f:sliceAt w1 v (lB M.s d))(g:∀ k,v.ownBlock=A k->(w.drew.alloc (χ zs.toArray 36)).heap.size+2<=k):SWc F N c vco vln vsm k M tk w d w.heap.size v (w1.setCells w.heap.size 0 (dq (M.s.ticks d))):=by
 have h1:Below w.heap.size w w1:=bw (stA (aR w).drew (χ zs.toArray 36)) hb;have h2:Below w.heap.size w (w1.setCells w.heap.size 0 (dq (M.s.ticks d))):=Bl.puts h1 (ψ _) _;exact⟨h.kept' a h2,zvv ((Bx.new w.drew zs 36 (b:=w.heap.size) D).kept hb) (by simp[zs]),ψ _,zvu f (λj e=>by have:=g j e;simp at this;omega) _ _⟩
structure SX (F : Fx) (N c : Nat) (vco vln vsm : π) (k : Cs) (w : u) (x : Sd) (B : Nat) (ι : u) : Prop where
 ci:CI F N c vco vln vsm ι k
 bx:Bx ι B (dq x)
 low:Below F.B w ι
 kp:Kp N c w ι
def SWc.grown{v':π}{xs:List UInt8}(f:Fb F N)(b:c<w.heap.size/\(∀ j,vsm.ownBlock=A j->j<w.heap.size)/\F.B<=w.heap.size)(h:SWc F N c vco vln vsm k M tk w d B v ι)(g:Y'.ownsRow N 5 1 v' xs.length (gJ xs))(a:ι.grownBy Y' vsm.ownBlock):SX F N c vco vln v' { k with sm:=xs } w (M.s.ticks d) B (Y'.setCell ⟨c,3,G⟩ v'):=by
 obtain⟨r1,r2⟩:=h.ci.grow3 f g a;have i:=h.bz;exact⟨r1,(h.bx.same a.size (a.block B h.bx.z (λe=>by have:=b.2.1 _ e.symm;omega))).far (by omega) _,(h.low.mono b.2.2).trans r2,(Kp.of h.low).trans ((Kp.grown (ao D) h.ci.sm a).trans (Kp.set 3 _))⟩
def Ct.soundTo(hF:Fb F N)(h:CI F N c vco vln vsm w k)(hl:k.sm.length<=90000)(ht:k.s.M.clock+1<=tt/\tt<=k.s.M.clock+64):Δ ω 168 #[pt c 0,J Q tt] w λe w'=>e=μ (Ψ #[])/\(∃ vsm',CI F N c vco vln vsm' w' { k with s:=⟨k.s.M.cS tt,k.s.n,k.s.l⟩,sm:=k.sm++k.s.M.smp (tt-k.s.M.clock).toNat }/\Below F.B w w')/\Kp N c w w':=by
 obtain⟨tv,hB⟩:=h.i.bd;obtain⟨M,hM⟩:∃ M,M=k.s.M:=⟨_,D⟩
 rw[<- hM] at hB ht ⊢;obtain⟨d,hd⟩:∃ d:Nat,d=(tt-M.clock).toNat:=⟨_,D⟩
 have hdt:tt-M.clock=d:=by omega
 have he:M.cS tt={ M with s:=M.s.ticks d }:=by unfold Mach.cS;rw[<- hd]
 rw[he,<- hd];have HD:bG (1<=d/\d<=64):=hid (by omega);have hwr:IntKind.i64.wrap (tt-M.clock)=(d:Int):=by rw[aH];omega
 obtain⟨tk,htk⟩:∃ tk:Tk,tk=⟨k.s.n,k.s.l,tv⟩:=⟨_,D⟩
 rw[<- htk] at hB;have H:bG M.s.fit:={ hB.fit.s with w:=hB.fit.w }
 have k0:=h.cb.bx.at 0 _ D;have kz:=h.cb.z;have mz0:=hB.bx.z;have HW:bG (c<w.heap.size/\(∀ j,vsm.ownBlock=A j->j<w.heap.size)/\F.B<=w.heap.size):=hid ⟨kz,λj e=>(jE h.sm j e).2.1,h.i.big⟩;have H0:bG (SV F N c vco vln vsm k M tk w w):=hid ⟨h,hB,aR w⟩;have HF:=hid hF;have HL:=hid hl;have HM:=hid hM;have HTK:=hid htk;clear hF h hl hB hM ht hd hdt he htk;go_enter func168,ntmps168;go_upto_region 1 with fail
 clear k0 kz mz0;go_cut [0,1,4,5,6] (λu0 u1 u4 u5 u6 ι=>u0=pt c 0/\u1=J Q tt/\u4=pt F.g 0 /\ ∃ B,u6=pt B 0/\SWc F N c vco vln vsm k M tk w d B u5 ι)
 case first =>
  refine wp_region_held_drew (S:=λw'=>w'.rangeAt F.g 45 (dq M.s)/\w'.cell? ⟨F.g,72,G⟩=A (J Q M.clock)) (by kernel_rfl) (H0.out.bd.drew.ss5) ?_;intro t;refine dy 0 ⟨A 13,_,_,_,_,G⟩ t ?_;simp only[ag,xA,xB,xC];refine dy 1 ⟨A 14,_,_,_,_,G⟩ t ?_;simp only[ag,xA,xB,xC];refine dy 2 ⟨A 15,_,_,_,_,G⟩ t ?_;simp only[ag,xA,xB,xC];refine jW 3 (ac (dq M.s).toArray) D (λw' hSw=>ml 36 _ D F.g 45 D (dq M.s) _ hSw.1 underlying36 D nh) t ?_;refine dy 4 ⟨A 17,_,_,_,_,G⟩ t ?_;simp only[ag,xA,xB,xC];refine dy 5 ⟨A 18,_,_,_,_,G⟩ t ?_;simp only[ag,xA,xB,xC];refine dy 6 ⟨A 19,_,_,_,_,G⟩ t ?_;simp only[ag,xA,xB,xC];refine dy 7 ⟨A 20,_,_,_,_,G⟩ t ?_;simp only[ag,xA,xB,xC];refine nU 8 (λ_ hSw=>hSw.2) t ?_;refine dy 9 ⟨A 22,_,_,_,_,G⟩ t ?_;simp only[ag,xA,xB,xC];refine wpAnyH_ready (rs:=[10,15]) (by kernel_rfl) (by simp) ?_;refine AllReadyH.cons (o:=⟨A 23,_,_,_,_,G⟩) D (λK I=>?_) (AllReadyH.cons (o:=⟨A 6,_,_,_,_,G⟩) D (λK I=>?_) AllReadyH.nil)
  ·go_simp
   go_at_call 64
   refine(zcZ M.s d _ H.out (by have:=HD.out;omega)).mono ?_;rintro e w1 ⟨v1,rfl,hs1,ho1,hb1⟩;have HS1:=hid hs1;have y:=hid ho1;have HB1:=hid hb1;clear hs1 ho1 hb1;try go_wp2_with fail
   have r:=hid (H0.out.kept' HF.out (bw (aR w).drew HB1.out));refine gL I (r.out.bd.ss5) (λ_=>?_);clear I K t;have t:=r.out.bd.ss5;refine dy 11 ⟨A 12,_,_,_,_,G⟩ t ?_;simp only[ag,xA,xB,xC];refine dy 12 ⟨A 24,_,_,_,_,G⟩ t ?_;simp only[ag,xA,xB,xC];refine dy 13 ⟨A 25,_,_,_,_,G⟩ t ?_;simp only[ag,xA,xB,xC];refine dy 14 ⟨A 26,_,_,_,_,G⟩ t ?_;simp only[ag,xA,xB,xC];refine wpAnyH_ready (rs:=[15]) (by kernel_rfl) (by simp) ?_;refine AllReadyH.cons (o:=⟨A 6,_,_,_,_,G⟩) D (λK I=>?_) AllReadyH.nil;go_simp;have HG2:=hid (r.out.kept' HF.out (stA (aR w1) (χ zs.toArray 36)));refine gL I (HG2.out.bd.ss5) (λ_=>?_);clear I K t;have t:=HG2.out.bd.ss5;refine dy 16 ⟨A 5,_,_,_,_,G⟩ t ?_;simp only[ag,xA,xB,xC];refine wpAnyH_ready (rs:=[17]) (by kernel_rfl) (by simp) ?_;refine AllReadyH.cons (o:=⟨G,_,_,_,_,G⟩) D (λK I=>?_) AllReadyH.nil;refine pH D 36 _ _ D w1.heap.size 0 (dq (M.s.ticks d)).toArray D D ((Bx.new w1 zs 36 (b:=w1.heap.size) D).there 0 16 (by simp[zs])) nh (kH (M.s.ticks d)) ?_
   have X:=hid (SWc.mk1 HF.out r.out HS1.out);refine I.out _ _ (X.out.bd.ss5) (λ_=>?_);clear I K t;have t:=X.out.bd.ss5;refine dy 18 ⟨A 7,_,_,_,_,G⟩ t ?_;simp only[ag,xA,xB,xC];refine wpAnyH_done (by kernel_rfl) ?_ _;go_wp2_with fail
   go_meet;exact⟨D,D,D,_,D,X.out⟩
  ·go_simp
   have r:=hid (H0.out.kept' HF.out (stA (aR w).drew (χ zs.toArray 36)));refine gL I (r.out.bd.ss5) (λ_=>?_);clear I K t;have t:=r.out.bd.ss5;refine wpAnyH_ready (rs:=[10]) (by kernel_rfl) (by simp) ?_;refine AllReadyH.cons (o:=⟨A 23,_,_,_,_,G⟩) D (λK I=>?_) AllReadyH.nil;go_simp;go_at_call 64
   refine(zcZ M.s d _ H.out (by have:=HD.out;omega)).mono ?_;rintro e w1 ⟨v1,rfl,hs1,ho1,hb1⟩;have HS1:=hid hs1;have y:=hid ho1;have HB1:=hid hb1;clear hs1 ho1 hb1;try go_wp2_with fail
   have HG2:=hid (r.out.kept' HF.out HB1.out);refine gL I (HG2.out.bd.ss5) (λ_=>?_);clear I K t;have t:=HG2.out.bd.ss5;refine dy 11 ⟨A 12,_,_,_,_,G⟩ t ?_;simp only[ag,xA,xB,xC];refine dy 12 ⟨A 24,_,_,_,_,G⟩ t ?_;simp only[ag,xA,xB,xC];refine dy 13 ⟨A 25,_,_,_,_,G⟩ t ?_;simp only[ag,xA,xB,xC];refine dy 14 ⟨A 26,_,_,_,_,G⟩ t ?_;simp only[ag,xA,xB,xC];refine dy 16 ⟨A 5,_,_,_,_,G⟩ t ?_;simp only[ag,xA,xB,xC];refine wpAnyH_ready (rs:=[17]) (by kernel_rfl) (by simp) ?_;refine AllReadyH.cons (o:=⟨G,_,_,_,_,G⟩) D (λK I=>?_) AllReadyH.nil;refine pH D 36 _ _ D w.heap.size 0 (dq (M.s.ticks d)).toArray D D (((Bx.new w.drew zs 36 (b:=w.heap.size) D).kept HB1.out).there 0 16 (by simp[zs])) nh (kH (M.s.ticks d)) ?_;have X:=hid (SWc.mk2 HF.out H0.out HB1.out HS1.out y.out);refine I.out _ _ (X.out.bd.ss5) (λ_=>?_);clear I K t;have t:=X.out.bd.ss5;refine dy 18 ⟨A 7,_,_,_,_,G⟩ t ?_;simp only[ag,xA,xB,xC];refine wpAnyH_done (by kernel_rfl) ?_ _
   go_wp2_with fail
   go_meet;exact⟨D,D,D,_,D,X.out⟩
 case rest =>
  obtain⟨rfl,rfl,rfl,B,rfl,hW⟩:=hcut;have E:=hid hW;have hbd:(lB M.s d).length<=64:=by have:=zjt M.s d;have:=HD.out;omega
  have mz:=hW.bd.bx.z;have kz:=hW.ci.cb.z;have k3:=hW.ci.cb.bx.at 3 vsm D;have hNs:N<=wc.heap.size:=hW.ci.i.N;have HN:=hid hNs;by_cases hw0:M.s.w=0
  ·have m60:wc.cell? ⟨F.g,60,G⟩=A (J Q 0):=by rw[<- hw0];exact hW.bd.at 60 (J Q M.s.w) D
   obtain⟨x,tl,hx⟩:∃ x tl,lB M.s d=x::tl:=by
    obtain⟨j,rfl⟩:∃ j,d=1+j:=⟨d-1,by have:=HD.out;omega⟩
    have e1:lB M.s 1=[sm M.s]:=by
     show []++one M.s=_;unfold one;rw[am hw0];rfl
    exact⟨_,_,by rw[Ap,e1];rfl⟩
   have hsm:M.smp d=tl:=by unfold Mach.smp;rw[am hw0,hx];rfl
   have HSM:=hid hsm;have hsl:=hW.sl;rw[hx] at hsl hbd;rcases hsl with⟨_,_,_,e⟩|⟨g,o,cap,rfl,g1,g2,g3⟩
   ·cases e
   ·have HTL:=hid (zsp (ao ⟨g,o,cap,D,g1,g2,g3⟩))
    have hlen:((x::tl).length:Int)=(tl.length:Int)+1:=by simp
    have hlen0:(0:Int)<(tl.length:Int)+1:=by omega
    have HBD:bG (k.sm.length+tl.length<=100000):=hid (by have:=HL.out;simp at hbd;omega);have v:tl.length+1<=cap:=g1;clear hW hbd hw0 hx hsm g1 g2 g3 hNs;rcases(by omega:cap=1 \/ 2<=cap) with rfl|hc2
    ·obtain rfl:tl=[]:=fM (by omega)
     have P:bG (sliceAt wc (κ (A ⟨g,o,G⟩) 0 0) []):=hid (by have:=HTL.out;rw[am D] at this;exact this);clear HTL;go_upto_region 5 with(at_builtin;refine appG (by rfl) _ _ (by rfl) N _ k.sm (by rfl) E.out.ci.sm _ (by rfl) [] P.out HBD.out HN.out ?_;intro v3 W1 a v;obtain⟨a3,n3,c3,e3⟩:=zp4 a;subst e3;have y:=hid a;have r:=hid v;have p:=E.out.ci.cb.same (v.block c E.out.ci.cb.z (λe=>mL E.out.ci.sm E.out.ci.cb.blk (by decide) e.symm));have q3:=p.bx.at 3 vsm D;have qz:=p.z;have qf:=p.bx.f 3;clear p a v)
     refine Pl.cutW (SX F N c vco vln (κ a3 n3 c3) { k with sm:=k.sm++[] } w (M.s.ticks d) B) (SWc.grown HF.out HW.out E.out y.out r.out) ?_;intro Z R;have HZ:=hid R;obtain⟨T,U⟩:=R.ci.i.bd;have q:Bd F Z M ⟨k.s.n,k.s.l,T⟩:=by rw[HM.out];exact U
     have HB3:=hid q;have W:NM F N Z k.s ⟨{ M with s:=M.s.ticks d },k.s.n,k.s.l⟩ (Z.setCells F.g 45 (dq (M.s.ticks d))):=NM.of (s':=⟨{ M with s:=M.s.ticks d },k.s.n,k.s.l⟩) HF.out R.ci.i R.ci.i.n (q.puts (M':={ M with s:=M.s.ticks d }) (tk':=⟨k.s.n,k.s.l,T⟩) 45 (dq (M.s.ticks d)) (by simp[dq]) (F.putSnd M _ _) ⟨D,D,D,D,D⟩ { q.fit with main:=q.fit.main,s:=(Sd.ticks_fit H.out d).took,w:=(Sd.ticks_fit H.out d).w }) (Bt.sets q.nd _ 45 _ (Bt.refl F Z));have HNM:=hid W;clear R U q W q3 qz qf E y r P k3 kz mz m60;go_wp2_with (first
      | (refine wpList_load_mid D 36 _ D B 0 D (dq (M.s.ticks d)) _ HZ.out.bx.c underlying36 D nh ?_)
      | (refine wpList_store_mid D 36 _ _ D F.g 45 (dq (M.s.ticks d)).toArray D D (Bx.there HB3.out.bx 45 16 (by rw[Fx.len];omega)) nh (kH (M.s.ticks d)) ?_
         refine Pl.cutL (λV=>NM F N Z k.s ⟨{ M with s:=M.s.ticks d },k.s.n,k.s.l⟩ V) HNM.out ?_;intro V hV;have HV:=hid hV;clear hV))
     go_end0;rw[HSM.out];exact⟨D,⟨⟨_,HZ.out.ci.step HV.out⟩,HZ.out.low.trans HV.out.m.below⟩,HZ.out.kp.trans HV.out.kp⟩
    ·obtain⟨m,rfl⟩:∃ m,cap=m+2:=⟨cap-2,by omega⟩
     have P:bG (sliceAt wc (κ (A ⟨g,o+1,G⟩) tl.length (m+1)) tl):=hid (by have:=HTL.out;rw[ae (by omega)] at this;exact this);clear HTL hc2;go_upto_region 5 with(at_builtin;refine appG (by rfl) _ _ (by rfl) N _ k.sm (by rfl) E.out.ci.sm _ (by rfl) tl P.out HBD.out HN.out ?_;intro v3 W1 a v;obtain⟨a3,n3,c3,e3⟩:=zp4 a;subst e3;have y:=hid a;have r:=hid v;have p:=E.out.ci.cb.same (v.block c E.out.ci.cb.z (λe=>mL E.out.ci.sm E.out.ci.cb.blk (by decide) e.symm));have q3:=p.bx.at 3 vsm D;have qz:=p.z;have qf:=p.bx.f 3;clear p a v)
     refine Pl.cutW (SX F N c vco vln (κ a3 n3 c3) { k with sm:=k.sm++tl } w (M.s.ticks d) B) (SWc.grown HF.out HW.out E.out y.out r.out) ?_;intro Z R;have HZ:=hid R;obtain⟨T,U⟩:=R.ci.i.bd;have q:Bd F Z M ⟨k.s.n,k.s.l,T⟩:=by rw[HM.out];exact U
     have HB3:=hid q;have W:NM F N Z k.s ⟨{ M with s:=M.s.ticks d },k.s.n,k.s.l⟩ (Z.setCells F.g 45 (dq (M.s.ticks d))):=NM.of (s':=⟨{ M with s:=M.s.ticks d },k.s.n,k.s.l⟩) HF.out R.ci.i R.ci.i.n (q.puts (M':={ M with s:=M.s.ticks d }) (tk':=⟨k.s.n,k.s.l,T⟩) 45 (dq (M.s.ticks d)) (by simp[dq]) (F.putSnd M _ _) ⟨D,D,D,D,D⟩ { q.fit with main:=q.fit.main,s:=(Sd.ticks_fit H.out d).took,w:=(Sd.ticks_fit H.out d).w }) (Bt.sets q.nd _ 45 _ (Bt.refl F Z));have HNM:=hid W;clear R U q W q3 qz qf E y r P k3 kz mz m60;go_wp2_with (first
      | (refine wpList_load_mid D 36 _ D B 0 D (dq (M.s.ticks d)) _ HZ.out.bx.c underlying36 D nh ?_)
      | (refine wpList_store_mid D 36 _ _ D F.g 45 (dq (M.s.ticks d)).toArray D D (Bx.there HB3.out.bx 45 16 (by rw[Fx.len];omega)) nh (kH (M.s.ticks d)) ?_
         refine Pl.cutL (λV=>NM F N Z k.s ⟨{ M with s:=M.s.ticks d },k.s.n,k.s.l⟩ V) HNM.out ?_;intro V hV;have HV:=hid hV;clear hV))
     go_end0;rw[HSM.out];exact⟨D,⟨⟨_,HZ.out.ci.step HV.out⟩,HZ.out.low.trans HV.out.m.below⟩,HZ.out.kp.trans HV.out.kp⟩
  ·have hw':(M.s.w == 0)=ξ:=by simpa using hw0
   have m60:=hW.bd.at 60 (J Q M.s.w) D;have hsm:M.smp d=lB M.s d:=by unfold Mach.smp;rw[ae hw0]
   obtain⟨L,hL⟩:∃ L,L=lB M.s d:=⟨_,D⟩
   rw[<- hL] at hsm;have HSM:=hid hsm;have P:bG (sliceAt wc u5 L):=hid (by rw[hL];exact hW.sl);rw[<- hL] at hbd;have HBD:bG (k.sm.length+L.length<=100000):=hid (by have:=HL.out;omega);clear hW hbd hw0 hsm hL hNs;go_upto_region 5 with(at_builtin;refine appG (by rfl) _ _ (by rfl) N _ k.sm (by rfl) E.out.ci.sm _ (by rfl) L P.out HBD.out HN.out ?_;intro v3 W1 a v;obtain⟨a3,n3,c3,e3⟩:=zp4 a;subst e3;have y:=hid a;have r:=hid v;have p:=E.out.ci.cb.same (v.block c E.out.ci.cb.z (λe=>mL E.out.ci.sm E.out.ci.cb.blk (by decide) e.symm));have q3:=p.bx.at 3 vsm D;have qz:=p.z;have qf:=p.bx.f 3;clear p a v)
   refine Pl.cutW (SX F N c vco vln (κ a3 n3 c3) { k with sm:=k.sm++L } w (M.s.ticks d) B) (SWc.grown HF.out HW.out E.out y.out r.out) ?_;intro Z R;have HZ:=hid R;obtain⟨T,U⟩:=R.ci.i.bd;have q:Bd F Z M ⟨k.s.n,k.s.l,T⟩:=by rw[HM.out];exact U
   have HB3:=hid q;have W:NM F N Z k.s ⟨{ M with s:=M.s.ticks d },k.s.n,k.s.l⟩ (Z.setCells F.g 45 (dq (M.s.ticks d))):=NM.of (s':=⟨{ M with s:=M.s.ticks d },k.s.n,k.s.l⟩) HF.out R.ci.i R.ci.i.n (q.puts (M':={ M with s:=M.s.ticks d }) (tk':=⟨k.s.n,k.s.l,T⟩) 45 (dq (M.s.ticks d)) (by simp[dq]) (F.putSnd M _ _) ⟨D,D,D,D,D⟩ { q.fit with main:=q.fit.main,s:=(Sd.ticks_fit H.out d).took,w:=(Sd.ticks_fit H.out d).w }) (Bt.sets q.nd _ 45 _ (Bt.refl F Z));have HNM:=hid W;clear R U q W q3 qz qf E y r P k3 kz mz m60;go_wp2_with (first
    | (refine wpList_load_mid D 36 _ D B 0 D (dq (M.s.ticks d)) _ HZ.out.bx.c underlying36 D nh ?_)
    | (refine wpList_store_mid D 36 _ _ D F.g 45 (dq (M.s.ticks d)).toArray D D (Bx.there HB3.out.bx 45 16 (by rw[Fx.len];omega)) nh (kH (M.s.ticks d)) ?_
       refine Pl.cutL (λV=>NM F N Z k.s ⟨{ M with s:=M.s.ticks d },k.s.n,k.s.l⟩ V) HNM.out ?_;intro V hV;have HV:=hid hV;clear hV))
   go_end0;rw[HSM.out];exact⟨D,⟨⟨_,HZ.out.ci.step HV.out⟩,HZ.out.low.trans HV.out.m.below⟩,HZ.out.kp.trans HV.out.kp⟩
end
def ig:List UInt8:=[0,6,0,0,0,0,17,0,128,0,49,33,216,0]
def vm:C.Cpu:=⟨[0,0,0,0,0,0,0,0],6,ξ,ξ,ξ,ξ,ξ,ξ⟩
def yL:C.Cpu:=⟨[0,32768,0,0,0,0,0,0],10,ξ,ξ,ξ,ξ,ξ,ξ⟩
def yN:C.Cpu:=⟨[0,32768,0,0,0,0,0,0],12,ξ,ξ,ξ,ξ,ξ,ξ⟩
def tB:C.Cpu:=⟨[0,32768,0,0,0,0,0,0],14,ξ,ξ,ξ,ξ,ξ,Γ⟩
section
variable (main aux : C.Cpu) (arom ram own video : List UInt8) (p0 p1 : Pd) (t : TM) (s : Sd) (b : Bem) (fr tt : Int) (granted held : Bool) (m0 m1 : Int) (rung : Bool) (clock mready aready : Int) (l : List Wt)
def zw5:C.order bT vm ⟨⟨main,aux,ig,arom,ram,own,video,p0,p1,t,s,b,fr,tt,granted,held,m0,m1,rung,clock,mready,aready⟩,0,l⟩=⟨yL,⟨⟨main,aux,ig,arom,ram,own,video,p0,p1,t,s,b,fr,tt,granted,held,m0,m1,rung,clock,mready,aready⟩,0,l⟩,2⟩:=by kernel_rfl
def zw6:C.order bT yL ⟨⟨main,aux,ig,arom,ram,own,video,p0,p1,t,s,b,fr,tt,granted,held,m0,m1,rung,clock,mready,aready⟩,0,l⟩=⟨yN,⟨⟨main,aux,ig,arom,lF ram 1 0,own,video,p0,p1,t,s,b,fr,tt,granted,held,m0,m1,rung,clock,mready,aready⟩,0,l⟩,2⟩:=by kernel_rfl
def zw7:C.order bT yN ⟨⟨main,aux,ig,arom,ram,own,video,p0,p1,t,s,b,fr,tt,granted,held,m0,m1,rung,clock,mready,aready⟩,0,l⟩=⟨tB,⟨⟨main,aux,ig,arom,ram,own,video,p0,p1,t,s,b,fr,tt,granted,held,m0,m1,rung,clock,mready,aready⟩,0,l⟩,1⟩:=by kernel_rfl
end
structure Lkm (M : Mach) (c : C.Cpu) (clock mready : Int) : Prop where
 rom:M.mrom=ig
 held:M.held=Γ
 main:M.main=c
 clock:M.clock=clock
 ready:M.mready=mready
def zqh{σ:Type}{m:C.Mem σ}(c:C.Cpu)(s:σ)(r:Bool)(h1:c.Waits=ξ)(h2:c.May=ξ):C.step m c s r=C.order m c s:=by
 unfold C.step;rw[h2,nD,ae (by simp),h1,ae (by simp)]
def zS{k:Cs}{c e:C.Cpu}{d r f:Int}(h:Lkm k.s.M c d r)(b:k.co=[])(a:Lkm (Bst.stepMain k.s).M e d f):Lkm k.clock.s.M e (d+1) f/\k.clock.co=[]:=by
 have g:k.s.M.pressed k.co=k.s.M:=by rw[b];rfl
 have i:(Bst.stepMain k.s).stepAux=Bst.stepMain k.s:=by
  unfold Bst.stepAux;rw[am (aj a.held)]
 have j:k.now.s=Bst.stepMain k.s:=by
  show (Bst.stepMain ⟨k.s.M.pressed k.co,k.s.n,k.s.l⟩).stepAux=_;rw[g,i]
 have m:k.clock.s.M=(Bst.stepMain k.s).M.goOn:=by show k.now.s.M.goOn=_;rw[j]
 refine⟨?_,by show k.s.M.coming k.co=[];rw[b];rfl⟩;rw[m];exact⟨a.rom,a.held,a.main,by show (Bst.stepMain k.s).M.clock+1=_;rw[a.clock],a.ready⟩
def zuA{s:Bst}{c:C.Cpu}{a r:Int}(h:Lkm s.M c a r)(b:a<r):Lkm (Bst.stepMain s).M c a r:=by
 unfold Bst.stepMain;rw[am (by rw[h.clock,h.ready];exact b)];exact h
def vC{s:Bst}{c f:C.Cpu}{d r n:Int}(h:Lkm s.M c d r)(g:¬ d<r)(j:c.Waits=ξ)(k:c.May=ξ)
 (m:∀(main aux:C.Cpu) (arom ram own video:List UInt8) (p0 p1:Pd) (t:TM) (s:Sd) (b:Bem) (fr tt:Int) (granted held:Bool) (m0 m1:Int) (rung:Bool) (clock mready aready:Int) (l:List Wt),
   ∃ a,C.order bT c ⟨⟨main,aux,ig,arom,ram,own,video,p0,p1,t,s,b,fr,tt,granted,held,m0,m1,rung,clock,mready,aready⟩,0,l⟩=⟨f,⟨⟨main,aux,ig,arom,a,own,video,p0,p1,t,s,b,fr,tt,granted,held,m0,m1,rung,clock,mready,aready⟩,0,l⟩,n⟩):Lkm (Bst.stepMain s).M f d (d+3*n):=by
 unfold Bst.stepMain;rw[ae (by rw[h.clock,h.ready];exact g)];obtain⟨⟨main,aux,mrom,arom,ram,own,video,p0,p1,t,o,b,fr,tt,granted,held,m0,m1,rung,clock,mready,aready⟩,p,l⟩:=s;obtain⟨h1,h2,h3,h4,i⟩:=h;dsimp only at h1 h2 h3 h4 i g ⊢;subst h1 h2 h3 h4 i;obtain⟨a,e⟩:=m main aux arom ram own video p0 p1 t o b fr tt granted Γ m0 m1 rung clock mready aready l;rw[zqh _ _ _ j k,e];exact⟨D,D,D,D,by show clock+3*n+0=_;omega⟩
def zzB{s:Bst}{a r:Int}(h:Lkm s.M tB a r):∃ c,Lkm (Bst.stepMain s).M tB a c:=by
 unfold Bst.stepMain;split
 ·exact⟨r,h⟩
 ·have d:=h.main
  show ∃ c,Lkm { (C.step bT s.M.main ⟨s.M,0,s.l⟩ (s.M.t.g || s.M.b.g)).s.M with main:=_,mready:=_ } tB a c;rw[d,zrQ (m:=bT) tB ⟨s.M,0,s.l⟩ _ D D];exact⟨_,h.rom,h.held,D,h.clock,D⟩
def zzC(k0:Cs)(i:Lkm k0.s.M vm 0 0)(b:k0.co=[])(j:Nat):(k0.clocks j).co=[]/\((j=0->Lkm (k0.clocks j).s.M vm 0 0)/\(1<=j/\j<=6->Lkm (k0.clocks j).s.M yL j 6)/\(7<=j/\j<=12->Lkm (k0.clocks j).s.M yN j 12)/\(13<=j->∃ r,Lkm (k0.clocks j).s.M tB j r)):=by
 induction j with
 | zero=>exact⟨b,λ_=>i,λh=>by omega,λh=>by omega,λh=>by omega⟩
 | succ j l =>
  obtain⟨hc,i0,c,i2,i3⟩:=l;obtain⟨k,f⟩:∃ k,k=k0.clocks j:=⟨_,D⟩
  have e:k0.clocks (j+1)=k.clock:=by rw[f];rfl
  rw[<- f] at hc i0 c i2 i3;rw[e];have m:((j+1:Nat):Int)=(j:Int)+1:=by omega
  rw[m];have d:k.clock.co=[]:=by show k.s.M.coming k.co=[];rw[hc];rfl
  refine⟨d,λh=>by omega,λh=>?_,λh=>?_,λh=>?_⟩
  ·by_cases a:j=0
   ·subst a
    have g:=i0 D;exact(zS g hc (vC (n:=2) g (by decide) D D (λ_ _ _ ram _ _ _ _ _ _ _ _ _ _ _ _ _ _ _ _ _ _=>⟨ram,zw5 ..⟩))).1
   ·have g:=c (by omega)
    exact(zS g hc (zuA g (by omega))).1
  ·by_cases a:j=6
   ·subst a
    have g:=c (by omega);exact(zS g hc (vC (n:=2) g (by decide) D D (λ_ _ _ ram _ _ _ _ _ _ _ _ _ _ _ _ _ _ _ _ _ _=>⟨lF ram 1 0,zw6 ..⟩))).1
   ·have g:=i2 (by omega)
    exact(zS g hc (zuA g (by omega))).1
  ·by_cases a:j=12
   ·subst a
    have g:=i2 (by omega);exact⟨_,(zS g hc (vC (n:=1) g (by decide) D D (λ_ _ _ ram _ _ _ _ _ _ _ _ _ _ _ _ _ _ _ _ _ _=>⟨ram,zw7 ..⟩))).1⟩
   ·obtain⟨r,g⟩:=i3 (by omega)
    obtain⟨o,g'⟩:=zzB g;exact⟨o,(zS g hc g').1⟩
def dA:Cs:=⟨⟨dv ig [],0,[]⟩,[],[],[]⟩
def zw8:Lkm dA.s.M vm 0 0:=⟨D,D,by show gM ((dr ig []).lookM 0) ((dr ig []).lookM 1)=vm;decide +kernel,D,D⟩
def zyc:(dA.clocks 64).ln.length=1/\(dA.clocks 64).sm.length=4/\(dA.clocks 64).s.M.main.Waits=Γ/\(dA.clocks 64).s.M.clock=64/\(dA.clocks 64).s.M.b.l=1:=by
 have hb:BOk dA.s.M.b.l dA.s.M.b.a dA.s.M.b.f:=⟨show (0:Int)<=0 by decide,show (0:Int)<=9 by decide,show (0:Int)<=0 by decide,show (0:Int)<=63 by decide,show (0:Int)<=0 by decide,show (0:Int)<=20000 by decide⟩
 have c:dA.s.M.b.f<=19000:=show (0:Int)<=19000 by decide
 have h1:=zR dA hb c 64 (by omega);have h2:=zgx dA hb c 64 (by omega);have h3:=zeM dA hb c D 64 (by omega);obtain⟨_,_,_,_,h4⟩:=zzC dA zw8 D 64;obtain⟨r,h4⟩:=h4 (by omega);refine⟨?_,?_,?_,h4.clock,?_⟩
 ·have:((dA.clocks 64).ln.map (λx=>(x.f,x.l))).length=1:=by rw[h3];decide +kernel
  rwa [bf] at this
 ·rw[h2]
  have:(lB dA.s.M.s 64).length=4:=by
   have d:=(zlm (s:=dA.s.M.s) { zok.s with w:=(by decide:0<=(0:Int)/\(0:Int)<=15) } 64).1;rw[show dA.s.M.s.w=0 from D,am (by decide)] at d;omega
  rw[this];rfl
 ·rw[h4.main];rfl
 ·rw[h1.l];decide +kernel
def sF{H:Type}{enc:aJ × π->H}{P:bX}{w:u}{base:Nat}{spare:Nat->Bool}{held:Bool}{n i o:Nat}{ty:aJ}{cs:List π}{xs:List (fF H × List dZ)}
 (h:dh enc P w base spare held n ty ((cs.drop o).take (P.cellsOf ty))=xs[i]?) (hi:i<xs.length) (hc:P.cellsOf ty=1) (b:P.underlying ty=A .bool) {v:π} (c:cs[o]?=A v):∃ a:Bool,v=.bool a:=by
 obtain⟨y,d⟩:=fld h hi hc c;obtain⟨a,e,_⟩:=DataW.trod_bool b d;simp only[eF,and_true] at e;exact⟨a,e⟩
def zff{H:Type}{enc:aJ × π->H}{w:u}{base:Nat}{spare:Nat->Bool}{held:Bool}{m:Nat}{c0 c1 c2 c3 c4:π}{x:fF H × List dZ}(h:dh enc ω w base spare held m 33 [c0,c1,c2,c3,c4]=A x):∃ v:Vc,[c0,c1,c2,c3,c4]=sV v/\v.ok:=by
 have c:Tryz.prog.cellsOf 22=1:=by kernel_rfl
 have hB:Tryz.prog.cellsOf 4=1:=by kernel_rfl
 have d:Tryz.prog.cellsOf 5=1:=by kernel_rfl
 obtain⟨xs,n,_,_,_,b,a⟩:=eh underlying33 h;have e:xs.length=5:=b;obtain⟨a0,rfl,w0⟩:=oo (ty:=22) (o:=0) (v:=c0) (a 0 _ D) (by omega) c underlying22 D;obtain⟨a1,rfl,w1⟩:=oo (ty:=22) (o:=1) (v:=c1) (a 1 _ D) (by omega) c underlying22 D;obtain⟨a2,rfl,w2⟩:=oo (ty:=5) (o:=2) (v:=c2) (a 2 _ D) (by omega) d underlying5 D;obtain⟨b3,rfl⟩:=sF (ty:=4) (o:=3) (v:=c3) (a 3 _ D) (by omega) hB underlying4 D;obtain⟨a4,rfl,w4⟩:=oo (ty:=22) (o:=4) (v:=c4) (a 4 _ D) (by omega) c underlying22 D;exact⟨⟨a0,a1,a2,b3,a4⟩,D,ee w0,ee w1,kV w2,ee w4⟩
def CG{s:List π}(h:s.length=2):∃ c0 c1,s=[c0,c1]:=by
 match s,h with
 | [c0,c1],_=>exact⟨c0,c1,D⟩
def xU{s:List π}(h:s.length=4):∃ c0 c1 c2 c3,s=[c0,c1,c2,c3]:=by
 match s,h with
 | [c0,c1,c2,c3],_=>exact⟨c0,c1,c2,c3,D⟩
def CH{s:List π}(h:s.length=6):∃ c0 c1 c2 c3 c4 c5,s=[c0,c1,c2,c3,c4,c5]:=by
 match s,h with
 | [c0,c1,c2,c3,c4,c5],_=>exact⟨c0,c1,c2,c3,c4,c5,D⟩
def yT{s:List π}(h:s.length=15):∃ c0 c1 c2 c3 c4 c5 f g i c9 a b c d e,s=[c0,c1,c2,c3,c4,c5,f,g,i,c9,a,b,c,d,e]:=by
 match s,h with
 | [c0,c1,c2,c3,c4,c5,f,g,i,c9,a,b,c,d,e],_=>exact⟨c0,c1,c2,c3,c4,c5,f,g,i,c9,a,b,c,d,e,D⟩
def yU{s:List π}(h:s.length=16):∃ c0 c1 c2 c3 c4 c5 g i j c9 a b c d e f,s=[c0,c1,c2,c3,c4,c5,g,i,j,c9,a,b,c,d,e,f]:=by
 match s,h with
 | [c0,c1,c2,c3,c4,c5,g,i,j,c9,a,b,c,d,e,f],_=>exact⟨c0,c1,c2,c3,c4,c5,g,i,j,c9,a,b,c,d,e,f,D⟩
section
variable {H : Type} {enc : aJ × π -> H} {w : u} {base : Nat} {spare : Nat -> Bool} {held : Bool} {n : Nat} {x : fF H × List dZ} {s : List π}
def zuI(h:dh enc ω w base spare held n 25 s=A x)(E:s.length=15):∃ c:C.Cpu,s=bY c/\c.ok:=by
 have a:Tryz.prog.cellsOf 22=1:=by kernel_rfl
 have hB:Tryz.prog.cellsOf 4=1:=by kernel_rfl
 have T:Tryz.prog.cellsOf 5=1:=by kernel_rfl
 have U:Tryz.prog.cellsOf 3=1:=by kernel_rfl
 have e:Tryz.prog.cellsOf 23=8:=by kernel_rfl
 obtain⟨c0,c1,c2,c3,c4,c5,r,t,y,c9,f,g,i,j,l,rfl⟩:=yT E;obtain⟨xs,m,_,_,_,p,b⟩:=eh underlying25 h;have F:xs.length=8:=p;have g0:dh enc ω w base spare held m 23 (([c0,c1,c2,c3,c4,c5,r,t,y,c9,f,g,i,j,l].drop 0).take (Tryz.prog.cellsOf 23))=xs[0]?:=b 0 _ D;rw[aq (by omega)] at g0;obtain⟨ys,k,_,_,_,H,d⟩:=ki underlying23 g0;obtain⟨a0,rfl,w0⟩:=oo (o:=0*Tryz.prog.cellsOf 22) (v:=c0) (d 0 (by omega)) (by omega) a underlying22 (by rw[a,e];rfl);obtain⟨a1,rfl,w1⟩:=oo (o:=1*Tryz.prog.cellsOf 22) (v:=c1) (d 1 (by omega)) (by omega) a underlying22 (by rw[a,e];rfl);obtain⟨a2,rfl,w2⟩:=oo (o:=2*Tryz.prog.cellsOf 22) (v:=c2) (d 2 (by omega)) (by omega) a underlying22 (by rw[a,e];rfl);obtain⟨a3,rfl,I⟩:=oo (o:=3*Tryz.prog.cellsOf 22) (v:=c3) (d 3 (by omega)) (by omega) a underlying22 (by rw[a,e];rfl);obtain⟨a4,rfl,w4⟩:=oo (o:=4*Tryz.prog.cellsOf 22) (v:=c4) (d 4 (by omega)) (by omega) a underlying22 (by rw[a,e];rfl)
 obtain⟨a5,rfl,L⟩:=oo (o:=5*Tryz.prog.cellsOf 22) (v:=c5) (d 5 (by omega)) (by omega) a underlying22 (by rw[a,e];rfl);obtain⟨M,rfl,N⟩:=oo (o:=6*Tryz.prog.cellsOf 22) (v:=r) (d 6 (by omega)) (by omega) a underlying22 (by rw[a,e];rfl);obtain⟨P,rfl,w7⟩:=oo (o:=7*Tryz.prog.cellsOf 22) (v:=t) (d 7 (by omega)) (by omega) a underlying22 (by rw[a,e];rfl);obtain⟨R,rfl,q⟩:=oo (ty:=22) (o:=8) (v:=y) (b 1 _ D) (by omega) a underlying22 D;obtain⟨b0,rfl⟩:=sF (ty:=4) (o:=9) (v:=c9) (b 2 _ D) (by omega) hB underlying4 D;obtain⟨b1,rfl⟩:=sF (ty:=4) (o:=10) (v:=f) (b 3 _ D) (by omega) hB underlying4 D;obtain⟨b2,rfl⟩:=sF (ty:=4) (o:=11) (v:=g) (b 4 _ D) (by omega) hB underlying4 D;obtain⟨b3,rfl⟩:=sF (ty:=4) (o:=12) (v:=i) (b 5 _ D) (by omega) hB underlying4 D;obtain⟨b4,rfl⟩:=sF (ty:=4) (o:=13) (v:=j) (b 6 _ D) (by omega) hB underlying4 D;obtain⟨b5,rfl⟩:=sF (ty:=4) (o:=14) (v:=l) (b 7 _ D) (by omega) hB underlying4 D
 refine⟨⟨[a0,a1,a2,a3,a4,a5,M,P],R,b0,b1,b2,b3,b4,b5⟩,D,D,λz B=>?_,(ee q).1,(ee q).2⟩;simp only[bp,cz,gC] at B;rcases B with rfl|rfl|rfl|rfl|rfl|rfl|rfl|rfl
 ·exact ee w0
 ·exact ee w1
 ·exact ee w2
 ·exact ee I
 ·exact ee w4
 ·exact ee L
 ·exact ee N
 ·exact ee w7
def zuJ(h:dh enc ω w base spare held n 28 s=A x)(g:s.length=3):∃ p:Pd,s=[.int au p.d,.bool p.l,.int au p.s]/\p.ok:=by
 have i:Tryz.prog.cellsOf 22=1:=by kernel_rfl
 have hB:Tryz.prog.cellsOf 4=1:=by kernel_rfl
 have f:Tryz.prog.cellsOf 5=1:=by kernel_rfl
 have j:Tryz.prog.cellsOf 3=1:=by kernel_rfl
 obtain⟨c0,c1,c2,rfl⟩:=xT g;obtain⟨xs,m,_,_,_,b,a⟩:=eh underlying28 h;have k:xs.length=3:=b;obtain⟨a0,rfl,c⟩:=oo (ty:=5) (o:=0) (v:=c0) (a 0 _ D) (by omega) f underlying5 D;obtain⟨b1,rfl⟩:=sF (ty:=4) (o:=1) (v:=c1) (a 1 _ D) (by omega) hB underlying4 D;obtain⟨a2,rfl,e⟩:=oo (ty:=5) (o:=2) (v:=c2) (a 2 _ D) (by omega) f underlying5 D;exact⟨⟨a0,b1,a2⟩,D,kV c,kV e⟩
def zxc(h:dh enc ω w base spare held n 29 s=A x)(e:s.length=6):∃ p q:Pd,s=[.int au p.d,.bool p.l,.int au p.s,.int au q.d,.bool q.l,.int au q.s]/\p.ok/\q.ok:=by
 have f:Tryz.prog.cellsOf 28=3:=by kernel_rfl
 obtain⟨c0,c1,c2,c3,c4,c5,rfl⟩:=CH e;obtain⟨ys,m,_,_,_,g,a⟩:=ki underlying29 h;have b:=a 0 (by omega);have c:=a 1 (by omega);rw[f,aq (by omega)] at b c;obtain⟨p,ep,hp⟩:=zuJ (s:=[c0,c1,c2]) b D;obtain⟨q,eq,i⟩:=zuJ (s:=[c3,c4,c5]) c D;simp only[eF,and_true] at ep eq;obtain⟨rfl,rfl,rfl⟩:=ep;obtain⟨rfl,rfl,rfl⟩:=eq;exact⟨p,q,D,hp,i⟩
def zuK(h:dh enc ω w base spare held n 31 s=A x)(i:s.length=4):∃ t:TM,s=[.int Y t.r,.int Y t.c,.bool t.on,.bool t.g]/\je t.r/\je t.c:=by
 have f:Tryz.prog.cellsOf 22=1:=by kernel_rfl
 have hB:Tryz.prog.cellsOf 4=1:=by kernel_rfl
 have j:Tryz.prog.cellsOf 5=1:=by kernel_rfl
 have k:Tryz.prog.cellsOf 3=1:=by kernel_rfl
 obtain⟨c0,c1,c2,c3,rfl⟩:=xU i;obtain⟨xs,m,_,_,_,b,a⟩:=eh underlying31 h;have l:xs.length=4:=b;obtain⟨a0,rfl,d⟩:=oo (ty:=22) (o:=0) (v:=c0) (a 0 _ D) (by omega) f underlying22 D;obtain⟨a1,rfl,e⟩:=oo (ty:=22) (o:=1) (v:=c1) (a 1 _ D) (by omega) f underlying22 D;obtain⟨b2,rfl⟩:=sF (ty:=4) (o:=2) (v:=c2) (a 2 _ D) (by omega) hB underlying4 D;obtain⟨b3,rfl⟩:=sF (ty:=4) (o:=3) (v:=c3) (a 3 _ D) (by omega) hB underlying4 D;exact⟨⟨a0,a1,b2,b3⟩,D,ee d,ee e⟩
def zxd(h:dh enc ω w base spare held n 38 s=A x)(i:s.length=4):∃ b:Bem,s=[.int Q b.l,.int Q b.a,.bool b.g,.int Q b.f]:=by
 have q:Tryz.prog.cellsOf 22=1:=by kernel_rfl
 have hB:Tryz.prog.cellsOf 4=1:=by kernel_rfl
 have r:Tryz.prog.cellsOf 5=1:=by kernel_rfl
 have e:Tryz.prog.cellsOf 3=1:=by kernel_rfl
 obtain⟨c0,c1,c2,c3,rfl⟩:=xU i;obtain⟨xs,m,_,_,_,d,c⟩:=eh underlying38 h;have t:xs.length=4:=d;obtain⟨a0,rfl,j⟩:=oo (ty:=3) (o:=0) (v:=c0) (c 0 _ D) (by omega) e underlying3 D;obtain⟨a1,rfl,k⟩:=oo (ty:=3) (o:=1) (v:=c1) (c 1 _ D) (by omega) e underlying3 D;obtain⟨b2,rfl⟩:=sF (ty:=4) (o:=2) (v:=c2) (c 2 _ D) (by omega) hB underlying4 D;obtain⟨a3,rfl,p⟩:=oo (ty:=3) (o:=3) (v:=c3) (c 3 _ D) (by omega) e underlying3 D;exact⟨⟨a0,a1,b2,a3⟩,D⟩
def zxe(h:dh enc ω w base spare held n 39 s=A x)(e:s.length=2):∃ a b:Int,s=[.int au a,.int au b]/\bd8 a/\bd8 b:=by
 have g:Tryz.prog.cellsOf 22=1:=by kernel_rfl
 have hB:Tryz.prog.cellsOf 4=1:=by kernel_rfl
 have d:Tryz.prog.cellsOf 5=1:=by kernel_rfl
 have i:Tryz.prog.cellsOf 3=1:=by kernel_rfl
 obtain⟨c0,c1,rfl⟩:=CG e;obtain⟨ys,k,_,_,_,f,c⟩:=ki underlying39 h;obtain⟨a0,rfl,w0⟩:=oo (o:=0*Tryz.prog.cellsOf 5) (v:=c0) (c 0 (by omega)) (by omega) d underlying5 (by rw[d];rfl);obtain⟨a1,rfl,w1⟩:=oo (o:=1*Tryz.prog.cellsOf 5) (v:=c1) (c 1 (by omega)) (by omega) d underlying5 (by rw[d];rfl);exact⟨a0,a1,D,kV w0,kV w1⟩
def zuL(h:dh enc ω w base spare held n 36 s=A x)(H:s.length=16):∃ d:Sd,s=dq d/\d.ok:=by
 have X:Tryz.prog.cellsOf 22=1:=by kernel_rfl
 have hB:Tryz.prog.cellsOf 4=1:=by kernel_rfl
 have Z:Tryz.prog.cellsOf 5=1:=by kernel_rfl
 have I:Tryz.prog.cellsOf 3=1:=by kernel_rfl
 have L:Tryz.prog.cellsOf 33=5:=by kernel_rfl
 have M:Tryz.prog.cellsOf 34=15:=by kernel_rfl
 obtain⟨c0,c1,c2,c3,c4,c5,q,r,t,c9,b,c,e,f,g,i,rfl⟩:=yU H;obtain⟨xs,k,_,_,_,j,l⟩:=eh underlying36 h;have N:xs.length=2:=j;have g0:dh enc ω w base spare held k 34 (([c0,c1,c2,c3,c4,c5,q,r,t,c9,b,c,e,f,g,i].drop 0).take (Tryz.prog.cellsOf 34))=xs[0]?:=l 0 _ D;rw[aq (by omega),M] at g0;obtain⟨ys,m,_,_,_,P,a⟩:=ki zd0 g0;have y:=a 0 (by omega);have z:=a 1 (by omega);have B:=a 2 (by omega);rw[L,aq (by omega)] at y z B;obtain⟨R,E,T⟩:=zff (c0:=c0) (c1:=c1) (c2:=c2) (c3:=c3) (c4:=c4) y;obtain⟨U,eb,hb⟩:=zff (c0:=c5) (c1:=q) (c2:=r) (c3:=t) (c4:=c9) z;obtain⟨V,F,hc⟩:=zff (c0:=b) (c1:=c) (c2:=e) (c3:=f) (c4:=g) B;obtain⟨p,rfl,W⟩:=oo (ty:=3) (o:=15) (v:=i) (l 1 _ D) (by omega) I underlying3 D;simp only[eF,and_true] at E eb F;obtain⟨rfl,rfl,rfl,rfl,rfl⟩:=E;obtain⟨rfl,rfl,rfl,rfl,rfl⟩:=eb;obtain⟨rfl,rfl,rfl,rfl,rfl⟩:=F;exact⟨⟨R,U,V,p⟩,D,⟨T,hb,hc⟩⟩
end
def tQ{H:Type}{enc:aJ × π->H}{P:bX}{w:u}{base:Nat}{spare:Nat->Bool}{held:Bool}{n i o k:Nat}{ty:aJ}{cs:List π}{xs:List (fF H × List dZ)}
 (h:dh enc P w base spare held n ty ((cs.drop o).take (P.cellsOf ty))=xs[i]?) (hi:i<xs.length:=by omega) (hc:P.cellsOf ty=k:=by kernel_rfl):∃ y,dh enc P w base spare held n ty ((cs.drop o).take k)=A y:=by
 rw[hc,aq hi] at h;exact⟨_,h⟩
def qQ{l R:List π}{n k m:Nat}(a:n+k=m)(h:l.drop m=R):l.drop n=(l.drop n).take k++R:=by
 subst a;rw[<- h,<- fJ];exact(mY k _).symm
def zuM{l:List π}{n k:Nat}(h:l.length<=n+k):l.drop n=(l.drop n).take k:=(dY (by rw[cW];omega)).symm
def s7{cs:List π}(o:Nat)(h:o<cs.length:=by omega):∃ v,cs[o]?=A v/\(cs.drop o).take 1=[v]:=⟨cs[o],aq h,by rw[og,mV,aq h];rfl⟩
def zeP{H:Type}{enc:aJ × π->H}{W:u}{base:Nat}{v:π}{d:fF H}{p:List dZ}(hv:bU ω W .any base 41 v)(h:DataW.Trod enc ω W 0 (λ_=>Γ) Γ 41 v d p):∃(M:Mach) (S:Sl),v=ac (υ M S).toArray/\M.ok/\cf W S M /\ ∀ j,j<5->(M.byt j).length<=dI:=by
 have hU:Tryz.prog.cellsOf 22=1:=by kernel_rfl
 have hB:Tryz.prog.cellsOf 4=1:=by kernel_rfl
 have hE:Tryz.prog.cellsOf 5=1:=by kernel_rfl
 have e:Tryz.prog.cellsOf 3=1:=by kernel_rfl
 have hM:Tryz.prog.cellsOf 41=75:=by kernel_rfl
 obtain⟨cs,rfl,f⟩:=okWide_struct underlying41 hv;obtain⟨l⟩:=cs;have b:l.length=75:=f.trans hM;obtain⟨fuel,g⟩:=h;have hf:dh enc ω W 0 (λ_=>Γ) Γ fuel 41 l=A (d,p):=g;obtain⟨xs,m,_,_,_,c,a⟩:=eh underlying41 hf;have hx:xs.length=20:=c;obtain⟨y0,g0⟩:=tQ (ty:=25) (o:=0) (k:=15) (a 0 _ D);obtain⟨m0,e0,k0⟩:=zuI g0 (by simp[b]);obtain⟨y1,g1⟩:=tQ (ty:=25) (o:=15) (k:=15) (a 1 _ D);obtain⟨m1,e1,k1⟩:=zuI g1 (by simp[b]);obtain⟨u2,r2,e2⟩:=s7 (cs:=l) 30;obtain⟨y2,g2⟩:=tQ (ty:=26) (o:=30) (k:=1) (a 2 _ D);rw[e2] at g2;obtain⟨m2,k2,q2⟩:=yu g2;obtain⟨u3,r3,e3⟩:=s7 (cs:=l) 31;obtain⟨y3,g3⟩:=tQ (ty:=26) (o:=31) (k:=1) (a 3 _ D);rw[e3] at g3;obtain⟨m3,k3,q3⟩:=yu g3;obtain⟨u4,r4,e4⟩:=s7 (cs:=l) 32;obtain⟨y4,g4⟩:=tQ (ty:=26) (o:=32) (k:=1) (a 4 _ D);rw[e4] at g4;obtain⟨m4,k4,q4⟩:=yu g4;obtain⟨u5,r5,e5⟩:=s7 (cs:=l) 33;obtain⟨y5,g5⟩:=tQ (ty:=26) (o:=33) (k:=1) (a 5 _ D);rw[e5] at g5;obtain⟨m5,k5,q5⟩:=yu g5;obtain⟨u6,r6,e6⟩:=s7 (cs:=l) 34
 obtain⟨y6,g6⟩:=tQ (ty:=26) (o:=34) (k:=1) (a 6 _ D);rw[e6] at g6;obtain⟨m6,k6,q6⟩:=yu g6;obtain⟨y7,g7⟩:=tQ (ty:=29) (o:=35) (k:=6) (a 7 _ D);obtain⟨m7,n7,e7,k7,q7⟩:=zxc g7 (by simp[b]);obtain⟨y8,g8⟩:=tQ (ty:=31) (o:=41) (k:=4) (a 8 _ D);obtain⟨m8,e8,k8,q8⟩:=zuK g8 (by simp[b]);obtain⟨y9,g9⟩:=tQ (ty:=36) (o:=45) (k:=16) (a 9 _ D);obtain⟨m9,e9,k9⟩:=zuL g9 (by simp[b]);obtain⟨y10,i⟩:=tQ (ty:=38) (o:=61) (k:=4) (a 10 _ D);obtain⟨q,r⟩:=zxd i (by simp[b]);obtain⟨u11,s,t⟩:=s7 (cs:=l) 65;obtain⟨w,rfl,x⟩:=oo (ty:=22) (o:=65) (a 11 _ D) (by omega) hU underlying22 s;obtain⟨u12,y,z⟩:=s7 (cs:=l) 66;obtain⟨B,rfl,E⟩:=oo (ty:=22) (o:=66) (a 12 _ D) (by omega) hU underlying22 y;obtain⟨u13,F,I⟩:=s7 (cs:=l) 67;obtain⟨L,rfl⟩:=sF (ty:=4) (o:=67) (a 13 _ D) (by omega) hB underlying4 F;obtain⟨u14,N,P⟩:=s7 (cs:=l) 68;obtain⟨R,rfl⟩:=sF (ty:=4) (o:=68) (a 14 _ D) (by omega) hB underlying4 N;obtain⟨y15,g15⟩:=tQ (ty:=39) (o:=69) (k:=2) (a 15 _ D)
 obtain⟨m15,T,U,V,X⟩:=zxe g15 (by simp[b]);obtain⟨u16,Z,e16⟩:=s7 (cs:=l) 71;obtain⟨m16,rfl⟩:=sF (ty:=4) (o:=71) (a 16 _ D) (by omega) hB underlying4 Z;obtain⟨u17,r17,e17⟩:=s7 (cs:=l) 72;obtain⟨m17,rfl,w17⟩:=oo (ty:=3) (o:=72) (a 17 _ D) (by omega) e underlying3 r17;obtain⟨u18,r18,e18⟩:=s7 (cs:=l) 73;obtain⟨m18,rfl,w18⟩:=oo (ty:=3) (o:=73) (a 18 _ D) (by omega) e underlying3 r18;obtain⟨u19,r19,e19⟩:=s7 (cs:=l) 74;obtain⟨m19,rfl,w19⟩:=oo (ty:=3) (o:=74) (a 19 _ D) (by omega) e underlying3 r19;have hL:l=(l.drop 0).take 15++((l.drop 15).take 15++((l.drop 30).take 1++((l.drop 31).take 1++((l.drop 32).take 1++((l.drop 33).take 1++((l.drop 34).take 1++((l.drop 35).take 6++((l.drop 41).take 4++((l.drop 45).take 16++((l.drop 61).take 4++((l.drop 65).take 1++((l.drop 66).take 1++((l.drop 67).take 1++((l.drop 68).take 1++((l.drop 69).take 2++((l.drop 71).take 1++((l.drop 72).take 1++((l.drop 73).take 1++((l.drop 74).take 1))))))))))))))))))) :=
  List.drop_zero.symm.trans (qQ (n:=0) (m:=15) D (qQ (n:=15) (m:=30) D (qQ (n:=30) (m:=31) D (qQ (n:=31) (m:=32) D (qQ (n:=32) (m:=33) D (qQ (n:=33) (m:=34) D (qQ (n:=34) (m:=35) D (qQ (n:=35) (m:=41) D (qQ (n:=41) (m:=45) D (qQ (n:=45) (m:=61) D (qQ (n:=61) (m:=65) D (qQ (n:=65) (m:=66) D (qQ (n:=66) (m:=67) D (qQ (n:=67) (m:=68) D (qQ (n:=68) (m:=69) D (qQ (n:=69) (m:=71) D (qQ (n:=71) (m:=72) D (qQ (n:=72) (m:=73) D (qQ (n:=73) (m:=74) D (zuM (by omega)))))))))))))))))))))
 rw[e0,e1,e2,e3,e4,e5,e6,e7,e8,e9,r,t,z,I,P,U,e16,e17,e18,e19] at hL;refine⟨⟨m0,m1,m2,m3,m4,m5,m6,m7,n7,m8,m9,q,w,B,L,R,m15,T,m16,m17,m18,m19⟩,⟨u2,u3,u4,u5,u6⟩,by rw[hL];rfl,⟨k0,k1,k7,q7,k8,q8,k9,ee x,ee E,V,X⟩,λj hj=>?_,λj hj=>?_⟩
 ·rcases five hj with rfl|rfl|rfl|rfl|rfl
  ·exact k2
  ·exact k3
  ·exact k4
  ·exact k5
  ·exact k6
 ·rcases five hj with rfl|rfl|rfl|rfl|rfl
  ·exact q2
  ·exact q3
  ·exact q4
  ·exact q5
  ·exact q6
def Gd.isSl{F:Gx}{W:u}{M:Mach}{tk:Tk}(h:Gd F W M tk):F.S.isSl:=λj b=>by
 obtain⟨a,c,e⟩:=h.slAt.lens j b;exact⟨_,_,_,e⟩
end Go.Proofs.YthghjlinhokimaaGreatDoor
