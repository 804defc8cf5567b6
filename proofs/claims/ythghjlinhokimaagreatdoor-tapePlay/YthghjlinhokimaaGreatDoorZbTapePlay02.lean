/-
  Parts of a proof, joined.
-/
import Derived.Test.YthghjlinhokimaaGreatDoorZbA
import Derived.Test.YthghjlinhokimaaGreatDoorZbTapePlay00
import Derived.Test.YthghjlinhokimaaGreatDoorZbTapePlay01
import Derived.Lib.ItoaLen
set_option linter.all false
set_option maxRecDepth 100000
set_option maxHeartbeats 6400000
open Option renaming none->G,some->A
open Go renaming World->u,Value->π,Calls->Δ,TypeId->aJ,loadVar->bC,Program->bX,Oper->cG,wpList->dg,Operand->dk,DataW->fF,binOp->fG,laidMet->mA
open Bool renaming false->ξ,true->Γ
open Go.Proofs.Tryz renaming prog->ω
open Go.Act renaming put->ag
open List renaming replicate->ai,length->gW
open Or renaming inl->aj,inr->ao
open Go.Result renaming andThen->aE
open Go.RowKit renaming intOf->aU,Hid->bG
open Go.Lib renaming byteCells->aV,itoa->ba,cut->bA,IsBuilder->dt,decDigits->dM,TabIs->fm,countB->fT,parseUint10->fU,atoiAll->gU,split->il,pow10Tab->iZ,splitK->jA,splitB->lj,BuilderAt->lZ,parseMag->mD,strCells->mG,index->nK,countFrom->oa
open Go.Value renaming oneCell'->bi,int->J,slice->κ,bool->ν,tuple->Ψ,string->Ω,agg->ac,pointer->aB
open UInt8 renaming ofNat->bF
open Go.Sem renaming run->bL
open Go.OpenSpec renaming ofChange->bQ
open And renaming intro->dU
open Go.Instr renaming buildSlice->gx
open Nat renaming strongRecOn->pD
open Go.IntKind renaming i64->Q,u8->au
open Go.Ending renaming returned->μ
open Go.Obj renaming cells->χ
namespace Go.Proofs.YthghjlinhokimaaGreatDoor
open Go.ChangeShapes Go.WideShapes Go.ChangeAt Go.RowKit Go.Proofs.Tryz
structure Tp.F (w : u) : Prop where
 pow:fm ω w "internal/strconv.uint64pow10" .u64 iZ
 len:∃ m,w.cell? ⟨0,0,G⟩=A (J Q m)
 syn:∃ ev,w.cell? ⟨4,0,G⟩=A ev/\(ev=.nilIface \/ ∃ te pe,ev=.iface te pe)
 ran:∃ ev,w.cell? ⟨5,0,G⟩=A ev/\(ev=.nilIface \/ ∃ te pe,ev=.iface te pe)
theorem zqs:Tryz.prog.globalNamed "internal/strconv.uint64pow10" = A 6:=by kernel_rfl
theorem Tp.F.kept{w w':u}(h:Tp.F w)(hb:Below w.heap.size w w'):Tp.F w':=by
 obtain⟨t,⟨m,a⟩,⟨e1,h1,k1⟩,⟨e2,h2,k2⟩⟩:=h;exact⟨Joins.tab_stays zqs t hb (ψ _),⟨m,(hb.cell (aC w _ a)).trans a⟩,⟨e1,(hb.cell (aC w _ h1)).trans h1,k1⟩,⟨e2,(hb.cell (aC w _ h2)).trans h2,k2⟩⟩
theorem Tp.below_grow(w:u)(k:Nat)(os:Array Obj):Below w.heap.size w (Sort.grow (w.drewN k) os):=by
 have h:∀ k,Below w.heap.size w (w.drewN k):=λk=>by
  induction k with
  | zero=>exact aR w
  | succ k a=>exact a.drew
 refine(h k).trans ⟨D,D,D,by simp[Sort.grow],λi hi=>?_⟩;have:(w.drewN k).heap.size=w.heap.size:=by simp
 show ((w.drewN k).heap++os)[i]?=_;rw[lx (by omega)]
theorem zgE(n:Int)(a:-9223372036854775808<=n)(h1:n<=9223372036854775807)(w:u)(h:Tp.F w):Δ ω 104 #[J Q n] w λe w'=>e=μ (Ω (mk (ba n)))/\Below w.heap.size w w':=by
 refine(Tryz.strconv_Itoa n a h1 w h.pow).mono λe w' ⟨b,k,os,c⟩=>⟨b,?_⟩
 subst c;exact Tp.below_grow w k os
structure Tp.In where
 c:Int
 p:Int
 d:Nat
structure Tp.In.ok (x : Tp.In) : Prop where
 c0:-9223372036854775808<=x.c
 c1:x.c<=9223372036854775807
 p0:-9223372036854775808<=x.p
 p1:x.p<=9223372036854775807
 d:x.d<256
def Tp.In.line(x:Tp.In):List UInt8:=ba x.c++[32]++ba x.p++[32]++Tp.btn x.d
theorem Tp.In.line_len{x:Tp.In}(h:x.ok):x.line.length<=60:=by
 have h1:=Lib.itoa_length_le x.c h.c0 h.c1;have h2:=Lib.itoa_length_le x.p h.p0 h.p1;unfold Tp.In.line;simp only[az,cy,fY,zdM];omega
def Tp.In.val(x:Tp.In):Array π:=#[J Q x.c,J Q x.p,J au x.d]
structure Tp.Lw (w : u) (b : Nat) (c p d : Int) (w' : u) : Prop where
 low:Below w.heap.size w w'
 fc:Tp.F w'
 bx:Bx w' b [J Q c,J Q p,J au d]
theorem Tp.Lw.all{w w':u}{b:Nat}{c p d:Int}(h:Tp.Lw w b c p d w'):w'.cell? ⟨b,0,G⟩=A (J Q c)/\w'.cell? ⟨b,1,G⟩=A (J Q p)/\w'.cell? ⟨b,2,G⟩=A (J au d)/\Tp.Lw w b c p d w' :=
 ⟨h.bx.at 0 _ rfl,h.bx.at 1 _ rfl,h.bx.at 2 _ rfl,h⟩
theorem Tp.Lw.kept{w w' w1:u}{b:Nat}{c p d:Int}(h:Tp.Lw w b c p d w')(hb:Below w'.heap.size w' w1):Tp.Lw w b c p d w1:=⟨bw h.low hb,h.fc.kept hb,h.bx.kept hb⟩
theorem Tp.Lw.drew{w w':u}{b:Nat}{c p d:Int}(h:Tp.Lw w b c p d w'):Tp.Lw w b c p d w'.drew:=h.kept (aR w').drew
theorem zr3{w w' w1:u}{b:Nat}{c p d:Int}(h:w'.cell? ⟨b,0,G⟩=A (J Q c)/\w'.cell? ⟨b,1,G⟩=A (J Q p)/\w'.cell? ⟨b,2,G⟩=A (J au d)/\Tp.Lw w b c p d w')(hb:Below w'.heap.size w' w1):w1.cell? ⟨b,0,G⟩=A (J Q c)/\w1.cell? ⟨b,1,G⟩=A (J Q p)/\w1.cell? ⟨b,2,G⟩=A (J au d)/\Tp.Lw w b c p d w1:=(h.2.2.2.kept hb).all
theorem A1(a b:List UInt8):mk a++mk b=mk (a++b):=by
 apply n9;rw[mZ];simp[mk]
theorem zgF(x:Tp.In)(m:x.ok)(w:u)(j:Tp.F w):Δ ω 83 #[ac x.val] w λe w'=>e=μ (Ω (mk x.line))/\Below w.heap.size w w':=by
 obtain⟨c,p,d⟩:=x;obtain⟨c0,c1,p0,p1,k⟩:=m;simp only at c0 c1 p0 p1 k;have h1:=Lib.itoa_length_le c c0 c1;have h2:=Lib.itoa_length_le p p0 p1;have b:bG (Tp.Lw w w.heap.size c p d (w.alloc (χ #[J Q c,J Q p,J au d] 113))):=hid ⟨stA (aR w) _,j.kept (stA (aR w) _),Bx.new w [J Q c,J Q p,J au d] _ D⟩;show Δ ω 83 #[ac #[J Q c,J Q p,J au d]] w λe w'=>e=μ (Ω (mk (ba c++[32]++ba p++[32]++Tp.btn d)))/\Below w.heap.size w w'
 have e1:(mk (ba c))++(⟨#[32]⟩:ByteArray)=mk (ba c++[32]):=A1 _ [32];clear j;generalize n:ba c=ζ at *;generalize hB:ba p=B at *;generalize l:Tp.btn d=γ at *;have h3:γ.length=8:=by rw[<- l];rfl
 have o:(mk ζ).size=ζ.length:=D;have q:(mk B).size=B.length:=D;have r:(mk γ).size=γ.length:=D;have s1:¬ 9223372036854775807<(mk ζ).size+1:=by omega
 have s2:¬ 9223372036854775807<(mk ζ).size+1+(mk B).size:=by omega
 have s3:¬ 9223372036854775807<(mk ζ).size+1+(mk B).size+1:=by omega
 have s4:¬ 9223372036854775807<(mk ζ).size+1+(mk B).size+1+(mk γ).size:=by omega
 clear o q r h1 h2 h3 e1;go_enter func83,ntmps83;go_wp2;go_region_held3 (λw'=>w'.cell? ⟨w.heap.size,0,G⟩=A (J Q c)/\w'.cell? ⟨w.heap.size,1,G⟩=A (J Q p)/\w'.cell? ⟨w.heap.size,2,G⟩=A (J au d)/\Tp.Lw w w.heap.size c p d w')
  (first
    | with_reducible exact Tp.Lw.all b.out.drew
    | with_reducible exact zr3 (by assumption) (by assumption)
    | (go_keep;done))
  (first
    | (go_at_call 104;have s:=a.out;clear s;refine(zgE p p0 p1 _ a.out.fc).mono ?_;rw[hB];rintro e w2 ⟨rfl,f⟩;have g:=hid (a.out.kept f))
    | (go_at_call 104;refine(zgE c c0 c1 _ b.out.drew.fc).mono ?_;rw[n];rintro e w1 ⟨rfl,h⟩;have a:=hid (b.out.drew.kept h))
    | (go_at_call 173;refine(zhg d k _).mono ?_;rw[l];rintro e t ⟨rfl,i⟩))
 go_wp2;go_ret;refine⟨?_,(g.out.kept i).low⟩;rw[show (⟨#[32]⟩:ByteArray)=mk [32] from D,A1,A1,A1,A1];simp
def Tp.InAt(B:Nat)(w:u)(v:π)(l:List Tp.In):Prop :=
 (l=[] /\ ∃ a c,v=κ a 0 c) \/ ∃ g o b,v=κ (A ⟨g,o,G⟩) l.length b/\l.length<=b/\g<B/\g<w.heap.size /\
  ∀ j x,l[j]?=A x->w.cell? ⟨g,o+3*j,G⟩=A (J Q x.c)/\w.cell? ⟨g,o+3*j+1,G⟩=A (J Q x.p)/\w.cell? ⟨g,o+3*j+2,G⟩=A (J au x.d)
theorem Tp.InAt.kept{B:Nat}{w w1:u}{v:π}{l:List Tp.In}(h:Tp.InAt B w v l)(hb:Below B w w1):Tp.InAt B w1 v l:=by
 rcases h with h|⟨g,o,a,h1,h2,h3,h4,b⟩
 ·exact aj h
 ·refine ao ⟨g,o,a,h1,h2,h3,Θ h4 hb.size,λj x c=>?_⟩
  obtain⟨e1,e2,e3⟩:=b j x c;exact⟨(Φ (w:=w) (hb.block g h3)).trans e1,(Φ (w:=w) (hb.block g h3)).trans e2,(Φ (w:=w) (hb.block g h3)).trans e3⟩
theorem Tp.InAt.len{B:Nat}{w:u}{v:π}{l:List Tp.In}(h:Tp.InAt B w v l):∃ a c,v=κ a l.length c:=by
 rcases h with⟨rfl,a,c,rfl⟩|⟨g,o,b,h1,_⟩
 ·exact⟨a,c,D⟩
 ·exact⟨_,_,h1⟩
theorem Tp.InAt.at'{B:Nat}{w:u}{v:π}{l:List Tp.In}(h:Tp.InAt B w v l){j:Nat}{x:Tp.In}(a:l[j]?=A x):∃ g o k,v=κ (A ⟨g,o,G⟩) l.length k/\g<w.heap.size/\w.cell? ⟨g,o+j*3,G⟩=A (J Q x.c)/\w.cell? ⟨g,o+j*3+1,G⟩=A (J Q x.p)/\w.cell? ⟨g,o+j*3+2,G⟩=A (J au x.d):=by
 rcases h with⟨rfl,_⟩|⟨g,o,k,h1,h2,h3,h4,b⟩
 ·simp at a
 ·obtain⟨e1,e2,e3⟩:=b j x a
  rw[iw 3 j] at e1 e2 e3;exact⟨g,o,k,h1,h4,e1,e2,e3⟩
def Tp.chkL:List Tp.In->Int->Int
 | [],_=>0
 | x::l,a=>if x.c<a \/ 400000<x.c then 3 else if x.p=0 \/ x.p=1 then Tp.chkL l x.c else 5
def Tp.chkIn(l:List Tp.In)(a:Int):Int:=if 40<l.length then 2 else Tp.chkL l a
theorem Tp.chk3{x:Tp.In}{l:List Tp.In}{a:Int}(h:x.c<a \/ 400000<x.c):Tp.chkL (x::l) a=3:=am h
theorem Tp.chk0{x:Tp.In}{l:List Tp.In}{a:Int}(h:¬ (x.c<a \/ 400000<x.c))(hp:x.p=0 \/ x.p=1):Tp.chkL (x::l) a=Tp.chkL l x.c:=(ae h).trans (am hp)
theorem Tp.chk5{x:Tp.In}{l:List Tp.In}{a:Int}(h:¬ (x.c<a \/ 400000<x.c))(hp:¬ (x.p=0 \/ x.p=1)):Tp.chkL (x::l) a=5:=(ae h).trans (ae hp)
theorem Tp.checkInputs(l:List Tp.In)(v:π)(B:Nat)(a:Int)(w:u)(h:Tp.InAt B w v l)(hB:B<=w.heap.size):Δ ω 57 #[v,J Q a] w λe w'=>e=μ (J Q (Tp.chkIn l a))/\Below w.heap.size w w':=by
 obtain⟨a1,k1,e1⟩:=h.len;subst e1;by_cases L:40<l.length
 ·have z:(40:Int)<l.length:=by omega
  have r:Tp.chkIn l a=2:=am L;rw[r];clear h r;go_enter func57,ntmps57;go_wp2;go_ret;exact⟨D,aR w⟩
 ·have z:¬ (40:Int)<l.length:=by omega
  have r:Tp.chkIn l a=Tp.chkL l a:=ae L;rw[r];have H:=hid h;clear h r;go_enter func57,ntmps57;go_wp2;go_loopw [14,5] (λi R wr=>∃(j:Nat) (f:Int),j<=l.length/\i=J Q j/\R=J Q f/\Tp.chkL (l.drop j) f=Tp.chkL l a/\Below w.heap.size w wr) (λi _ _=>l.length-(aU i).toNat)
  case atStart=>exact⟨0,a,bh _,D,D,D,aR w⟩
  case round =>
   obtain⟨j,f,hj,rfl,rfl,E,hb⟩:=hrel;have m:=hid E;have n:=hid hb;by_cases b:j<l.length
   ·obtain⟨x,y⟩:∃ x,l[j]?=A x:=⟨_,aq b⟩
    have M:l.drop j=x::l.drop (j+1):=by
     rw[dx b];congr 1;rw[aq b] at y;exact aL y
    have N:=(H.out.kept (hb.mono hB))
    obtain⟨g,o,k,ev,gz,x0,x1,x2⟩:=N.at' y;cases ev;have T:(j:Int)<l.length:=by omega
    have U:(0:Int)<=j:=by omega
    have s:=hid M;clear E hb M y N;by_cases q1:x.c<f
    ·go_wp2
     go_ret;exact⟨by rw[<- m.out,s.out,Tp.chk3 (aj q1)];rfl,stA n.out _⟩
    ·have V:f<=x.c:=by omega
     by_cases P:400000<x.c
     ·go_wp2
      go_ret;exact⟨by rw[<- m.out,s.out,Tp.chk3 (ao P)];rfl,stA n.out _⟩
     ·have W:x.c<=400000:=by omega
      have F:bG (¬ (x.c<f \/ 400000<x.c)):=λe=>e.elim (λe=>by omega) (λe=>by omega)
      clear q1 P;by_cases d:x.p=0
      ·have t:=hid d
       rw[d] at x1;clear d;go_wp2;exact⟨⟨j+1,x.c,by omega,by simp,D,by rw[<- m.out,s.out,Tp.chk0 F.out (aj t.out)],stA n.out _⟩,by simp[aU];omega⟩
      ·by_cases q:x.p=1
       ·have t:=hid q
        rw[q] at x1;clear d q;go_wp2;exact⟨⟨j+1,x.c,by omega,by simp,D,by rw[<- m.out,s.out,Tp.chk0 F.out (ao t.out)],stA n.out _⟩,by simp[aU];omega⟩
       ·have t:bG (¬ (x.p=0 \/ x.p=1)):=λe=>e.elim d q
        have X:(x.p != 0)=Γ:=by simpa using d
        have Z:(x.p != 1)=Γ:=by simpa using q
        clear d q;go_wp2;all_goals first
         | (exfalso;simp_all;done)
         | (go_ret;exact⟨by rw[<- m.out,s.out,Tp.chk5 F.out t.out];rfl,stA n.out _⟩)
   ·have I:j=l.length:=by omega
    subst I;have hnl:¬ (l.length:Int)<l.length:=by omega
    clear E hb;go_wp2;go_ret;refine⟨?_,n.out⟩;have:=m.out;rw[fu] at this;rw[<- this];rfl
theorem zhh{W:u}(h:W.ShapedOpen ω):∃ m,W.cell? ⟨0,0,G⟩=A (J Q m) :=
 cell_of_shapedOpen_int (t:=3) (zero:=#[J Q 0]) h (by decide +kernel) (by kernel_rfl) D (by kernel_rfl) (by kernel_rfl) underlying3
theorem zdo{H:Type}{enc:aJ × π->H}{a:Assume}{C:Checked}{os:Os}{f:FuncId}{k:Func}{s:ChangeSpec}{g:List PathCond}{b fresh d l:Bool}{X:u->Array π->Prop}
 (P:∀(w w':u) (args:Array π),w.heap=w'.heap->X w args->X w' args)
 (q:ownKnob C.prog.godebug=G) (m:os.Started) (o:C.prog.inits.idxOf? f=G) (E:C.prog.funcs[f]?=A k)
 (n:∃(w:u) (tape:Tape) (i:Input),w.os=os/\(w.forCall tape i).Shaped C.prog/\i.vars=[]/\Input.okWide C.prog (w.forCall tape i) .any w.heap.size f i /\
   ((s.pre enc C.prog k g b (w.forCall tape i).memory i.args/\X (w.forCall tape i).memory i.args)/\sizedMet enc C.prog k (bQ s) b (w.forCall tape i).memory i.args)/\a.holds C.prog (lone (Frame.enter C.prog f i.args .normal) [] (w.forCall tape i)))
 (h:∀(W:u) (base:Nat) (args:Array π) (r x:List (fF H)) (c:List MemPlace),
   (∀(j:Nat) t v,k.params[j]?=A t->args[j]?=A v->Value.okWide C.prog W .any base t v) ->
   DataW.Whole enc C.prog k.params.toList s.vars b W args.toList r x c ->
   g.all (PathCond.test C.prog ⟨k.params.toList,r,s.plain.varTypes C.prog,x⟩)=Γ ->
   (DataW.weightsEach C.prog (k.params.toList++s.plain.varTypes C.prog) (r++x)).all (· <= reachBytes)=Γ->X W args->W.ShapedOpen C.prog ->
   a.holds C.prog (lone (Frame.enter C.prog f args .normal) [] W) ->
   Δ C.prog f args W λe M=>∃ v,e=μ v/\s.post enc C.prog k b fresh d l W args v M) :
 ReturnsInHanded a C os f .any (λw args=>(s.pre enc C.prog k g b w args/\X w args)/\sizedMet enc C.prog k (bQ s) b w args) (s.post enc C.prog k b fresh d l):=by
 refine l6 q m o n ?_;intro w tape i _ F _ I y p;obtain⟨_,_,_,L,z,_,_,_,_,B⟩:=I;obtain rfl:L=k:=aL (z.symm.trans E);obtain⟨⟨⟨r,x,c,N,hc⟩,R⟩,T⟩:=y;refine(h (w.forCall tape i) w.heap.size i.args r x c B (nO (w':=w.forCall tape i) (by rfl) N) hc (T.weights N) (P _ _ _ (by rfl) R) F p).mono λe M ⟨v,U,hp⟩=>?_
 subst U;exact mX hp
theorem zhi{W:u}{l:List (String × fF Unit)}(h:mA ω l W)(b:("internal/strconv.uint64pow10",Rows.laid_internal_strconv_uint64pow10)∈l):fm ω W "internal/strconv.uint64pow10" .u64 iZ:=by
 obtain⟨g,t,cs,fuel,p,c,d,e,a⟩:=Lib.laidMet.reads h b;have e2:(Tryz.prog.globals[6]?).map (·.type)=A 397:=by kernel_rfl
 obtain rfl:=aL (zqs.symm.trans c);obtain rfl:=aL (e2.symm.trans d);have e3:(Rows.laid_internal_strconv_uint64pow10:fF Unit)=Lib.tabData .u64 iZ:=by kernel_rfl
 rw[e3] at a;unfold fm;rw[e,<- Lib.cells_of_tab underlying397 underlying350 (by kernel_rfl) (by kernel_rfl) a]
theorem zeR{P:bX}{W:u}{l:List (String × fF Unit)}{n nm:String}{d:fF Unit}{g:Nat}{c:aJ}{ms:Array (String × aJ)}(h:mA P l W)(i:(n,.iface nm d)∈l)
 (f:P.globalNamed n=A g) (j:(P.globals[g]?).map (·.type)=A c) (hi:P.underlying c=A (.interface ms)) :
 ∃ ev,W.cell? ⟨g,0,G⟩=A ev/\(ev=.nilIface \/ ∃ k m,ev=.iface k m):=by
 obtain⟨g0,t,cs,fuel,p,a,b,o,q⟩:=Lib.laidMet.reads h i;obtain rfl:=aL (f.symm.trans a);obtain rfl:=aL (j.symm.trans b);obtain⟨l0⟩:=cs;obtain⟨f1,θ,v,e,_⟩:=iface_of_trod hi q;refine⟨.iface θ v,?_,ao ⟨θ,v,D⟩⟩;have r:=kG f o 0;rw[r];simp only at e;subst e;rfl
theorem zxk:Tryz.prog.globalNamed "strconv.ErrSyntax" = A 4:=by kernel_rfl
theorem zxl:Tryz.prog.globalNamed "strconv.ErrRange" = A 5:=by kernel_rfl
theorem zzO{W:u}{l:List (String × fF Unit)}(h:mA ω l W)(a:W.ShapedOpen ω)(b:("internal/strconv.uint64pow10",Rows.laid_internal_strconv_uint64pow10)∈l)(h1:("strconv.ErrSyntax",Rows.laid_strconv_ErrSyntax)∈l)(h2:("strconv.ErrRange",Rows.laid_strconv_ErrRange)∈l):Tp.F W :=
 ⟨zhi h b,zhh a,zeR h h1 zxk (by kernel_rfl) underlying175,zeR h h2 zxl (by kernel_rfl) underlying175⟩
def Tp.bren:Go.Shelf.Ren:=⟨fun|166=>82|167=>84|240=>172|276=>232|169=>85|n=>n,fun|0=>0|3=>3|4=>4|5=>5|9=>9|20=>20|37=>26|70=>171|72=>173|75=>175|164=>300|80=>180|127=>256|n=>n,fun|n=>n⟩
theorem Tp.lays166:Go.Proofs.Lays.n166 ω Tp.bren:={
 mixed:=by kernel_rfl
 f166:=Tryz.func82.trans (congrArg A (by kernel_rfl))
 f240:=Tryz.func172.trans (congrArg A (by kernel_rfl))
 f276:=Tryz.func232.trans (congrArg A (by kernel_rfl))
 t0:=underlying0
 a0:=isAgg0
 z0:=sizeOf0
 v0:=zeroValue0
 t3:=underlying3
 a3:=isAgg3
 z3:=sizeOf3
 v3:=zeroValue3
 t4:=underlying4
 a4:=isAgg4
 z4:=sizeOf4
 v4:=zeroValue4
 t9:=underlying9
 a9:=isAgg9
 z9:=sizeOf9
 v9:=zeroValue9
 t20:=underlying20
 a20:=isAgg20
 z20:=sizeOf20
 v20:=zeroValue20
 t37:=underlying26
 a37:=isAgg26
 z37:=sizeOf26
 v37:=zeroValue26
 t70:=underlying171
 a70:=isAgg171
 z70:=sizeOf171
 v70:=zeroValue171
 t72:=underlying173
 a72:=isAgg173
 z72:=sizeOf173
 v72:=zeroValue173
 t75:=underlying175
 a75:=isAgg175
 z75:=sizeOf175
 v75:=zeroValue175
 t164:=underlying300
 a164:=isAgg300
 z164:=sizeOf300
 v164:=zeroValue300 }
theorem Tp.lays167:Go.Proofs.Lays.n167 ω Tp.bren:={
 mixed:=by kernel_rfl
 f167:=Tryz.func84.trans (congrArg A (by kernel_rfl))
 f240:=Tryz.func172.trans (congrArg A (by kernel_rfl))
 f276:=Tryz.func232.trans (congrArg A (by kernel_rfl))
 t0:=underlying0
 a0:=isAgg0
 z0:=sizeOf0
 v0:=zeroValue0
 t4:=underlying4
 a4:=isAgg4
 z4:=sizeOf4
 v4:=zeroValue4
 t5:=underlying5
 a5:=isAgg5
 z5:=sizeOf5
 v5:=zeroValue5
 t9:=underlying9
 a9:=isAgg9
 z9:=sizeOf9
 v9:=zeroValue9
 t20:=underlying20
 a20:=isAgg20
 z20:=sizeOf20
 v20:=zeroValue20
 t37:=underlying26
 a37:=isAgg26
 z37:=sizeOf26
 v37:=zeroValue26
 t70:=underlying171
 a70:=isAgg171
 z70:=sizeOf171
 v70:=zeroValue171
 t72:=underlying173
 a72:=isAgg173
 z72:=sizeOf173
 v72:=zeroValue173
 t75:=underlying175
 a75:=isAgg175
 z75:=sizeOf175
 v75:=zeroValue175
 t164:=underlying300
 a164:=isAgg300
 z164:=sizeOf300
 v164:=zeroValue300 }
theorem Tp.lays169:Go.Proofs.Lays.n169 ω Tp.bren:={
 mixed:=by kernel_rfl
 f169:=Tryz.func85.trans (congrArg A (by kernel_rfl))
 t0:=underlying0
 a0:=isAgg0
 z0:=sizeOf0
 v0:=zeroValue0
 t3:=underlying3
 a3:=isAgg3
 z3:=sizeOf3
 v3:=zeroValue3
 t9:=underlying9
 a9:=isAgg9
 z9:=sizeOf9
 v9:=zeroValue9
 t37:=underlying26
 a37:=isAgg26
 z37:=sizeOf26
 v37:=zeroValue26
 t70:=underlying171
 a70:=isAgg171
 z70:=sizeOf171
 v70:=zeroValue171
 t72:=underlying173
 a72:=isAgg173
 z72:=sizeOf173
 v72:=zeroValue173
 t127:=underlying256
 a127:=isAgg256
 z127:=sizeOf256
 v127:=zeroValue256 }
theorem Tp.bextra:Builder.Extra ω Tp.bren:={
 sizeBuilder:=by kernel_rfl
 liesBuilder:=by kernel_rfl
 t5:=underlying5
 a5:=isAgg5
 z5:=sizeOf5
 v5:=zeroValue5
 infoByte:=by kernel_rfl
 cellsByte:=by kernel_rfl
 sizeByte:=by kernel_rfl
 neB5:=by decide }
theorem zgH(v:π):v.ownBlock=G \/ v.ownBlock≠G:=by cases v.ownBlock with
 | none=>exact aj D
 | some g=>exact ao (by simp)
theorem zcN{w w':u}(h:Below w.heap.size w w'):w.grownBy w' G:=⟨h.os,h.tape,h.output,h.size,λk a _=>h.block k a⟩
theorem zgI{T e:aJ}{B b:Nat}{bs:List π}{w w':u}(h:dt T e B b bs w)(hb:Below w.heap.size w w'):dt T e B b bs w':=by
 have key:∀ p,lZ T e B b p bs w->lZ T e B b p bs w':=λp hp=>by
  have c:=hp.lt;obtain⟨hB,v,f,a,d⟩:=hp;exact⟨hB,v,(hb.block b c).trans f,a.kept (zcN hb) (zgH v),d⟩
 rcases h with h|h
 ·exact aj (key _ h)
 ·exact ao (key _ h)
theorem zhk(l:List UInt8):mG (mk l)=aV l:=by
 first|rfl|simp[mG,aV,mk]
theorem Tp.byteCells_append(a b:List UInt8):aV a++aV b=aV (a++b):=by
 first|rfl|simp[aV]
theorem zc7(a:List UInt8):(aV a).length=a.length:=by
 first|rfl|simp[aV]
theorem zml(B b:Nat)(acc:List UInt8)(s:List UInt8)(w:u)(h:dt 173 5 B b (aV acc) w)(c:acc.length+s.length<=1000000)(hB:B<=w.heap.size):Δ ω 82 #[aB (A ⟨b,0,G⟩),Ω (mk s)] w λe w'=>e=μ (Ψ #[J Q (mk s).size,.nilIface])/\dt 173 5 B b (aV (acc++s)) w'/\Below B w w':=by
 refine(Any.Builder_WriteString Tp.lays166 Tp.bextra B b (aV acc) (mk s) w h ?_ hB).mono λe w' ⟨a,h1,h2⟩=>⟨a,ao ?_,h2⟩
 ·rw[zc7,show (mk s).size=s.length from D];omega
 ·rw[zhk,Tp.byteCells_append] at h1
  exact h1
theorem zfI(B b:Nat)(acc:List UInt8)(w:u)(h:dt 173 5 B b (aV acc) w)(c:acc.length<=1000000)(hB:B<=w.heap.size):Δ ω 84 #[aB (A ⟨b,0,G⟩),J au 10] w λe w'=>e=μ .nilIface/\dt 173 5 B b (aV (acc++[10])) w'/\Below B w w':=by
 refine(Any.Builder_WriteByte Tp.lays167 Tp.bextra B b (aV acc) 10 w h ?_ hB).mono λe w' ⟨a,h1,h2⟩=>⟨a,ao ?_,h2⟩
 ·rw[zc7];omega
 ·have e1:aV acc++[J au 10]=aV (acc++[10]):=Tp.byteCells_append acc [10]
  rw[e1] at h1;exact h1
def Tp.text(l:List Tp.In):List UInt8:=(l.map (λx=>x.line++[10])).flatten
theorem zmm{l:List Tp.In}{j:Nat}{x:Tp.In}(h:l[j]?=A x):Tp.text (l.take (j+1))=Tp.text (l.take j)++x.line++[10]:=by
 unfold Tp.text;rw[ek,h];simp
theorem zgJ:∀ l:List Tp.In,(∀ x∈l,x.ok)->(Tp.text l).length<=64*l.length
 | [],_=>ψ _
 | x::l,h=>by
  have h1:=Tp.In.line_len (h x (bO ..));have h2:=zgJ l (λy a=>h y (bV _ a));unfold Tp.text at *;rw[cI,jT,az,az,cy];simp only[cy,fY];omega
def Tp.printS(l:List Tp.In):List UInt8:=if Tp.chkIn l 0=0 then Tp.text l else []
theorem zmn(l:List Tp.In)(v:π)(B:Nat)(w:u)(h:Tp.InAt B w v l)(hB:B<=w.heap.size)(f:∀ x∈l,x.ok)(L:Tp.F w):Δ ω 46 #[v] w λe w'=>e=μ (Ψ #[Ω (mk (Tp.printS l)),J Q (Tp.chkIn l 0)])/\Below w.heap.size w w':=by
 have M:=hid (Tp.checkInputs l v B 0 w h hB);by_cases hc:Tp.chkIn l 0=0
 ·have hl40:l.length<=40:=by
   rcases iz 40 l.length with h1|h1
   ·have:Tp.chkIn l 0=2:=am h1
    rw[this] at hc;cases hc
   ·exact h1
  have hp:Tp.printS l=Tp.text l:=am hc;rw[hp];rw[hc] at M ⊢;obtain⟨a1,k1,e1⟩:=h.len;subst e1;have H:=hid h;have HO:=hid f;have N:=hid L;clear h f L hp hc;go_enter func46,ntmps46;go_wp2_with (go_at_call 57;refine M.out.mono ?_;rintro e w1 ⟨rfl,c⟩)
  have m:=hid c;clear c;go_loopw [15] (λi wr=>∃ j:Nat,j<=l.length/\i=J Q j/\dt 173 5 w1.heap.size w1.heap.size (aV (Tp.text (l.take j))) wr/\Below w1.heap.size w1 wr) (λi _=>l.length-(aU i).toNat)
  case atStart=>exact⟨0,bh _,D,Lib.fresh_isBuilder _ _ w1,stA (aR _) _⟩
  case round =>
   obtain⟨j,hj,rfl,b,hb⟩:=hrel;have HB:=hid hb;have HU:=hid b;have d:=bw m.out hb;by_cases P:j<l.length
   ·obtain⟨x,I⟩:∃ x,l[j]?=A x:=⟨_,aq P⟩
    have r:=HO.out x (bu I);have HN:=hid (zmm I);have s:=zgJ (l.take j) (λy hy=>HO.out y (ia hy));rw[bD,jv hj] at s;have hll:=Tp.In.line_len r;have HH:=(H.out.kept (d.mono hB))
    obtain⟨g,o,k,ev,gz,x0,x1,x2⟩:=HH.at' I;cases ev;have hjl:(j:Int)<l.length:=by omega
    have hj0:(0:Int)<=j:=by omega
    have n:=hb.size;have R:=hid (N.out.kept d);obtain⟨xc,xp,xd⟩:=x;simp only at x0 x1 x2;clear hb d b I HH;go_wp2_with (first
     | (go_at_call 83;refine(zgF ⟨xc,xp,xd⟩ r _ (R.out.kept (stA (aR _) _))).mono ?_;rintro e w2 ⟨rfl,a⟩;have T:=hid a;have p:=hid (zgI (zgI HU.out (stA (aR _) _)) a);have hs2:=(bw (stA (aR wr) _) a).size;clear a)
     | (go_at_call 82;refine(zml _ _ _ _ _ p.out (by omega) (by omega)).mono ?_;rintro e w3 ⟨rfl,t,q⟩;have U:=hid q;have V:=hid t;have hs3:=q.size;clear q t)
     | (go_at_call 84;refine(zfI _ _ _ _ V.out (by rw[az];omega) (by omega)).mono ?_;rintro e w4 ⟨rfl,z,E⟩;have W:=hid E;have X:=hid z;clear E z))
    exact⟨⟨j+1,by omega,by simp,by rw[HN.out];exact X.out,(((HB.out.alloc n _).trans (T.out.mono (by simp;omega))).trans U.out).trans W.out⟩,by simp[aU];omega⟩
   ·have Z:j=l.length:=by omega
    subst Z;have hnl:¬ (l.length:Int)<l.length:=by omega
    have n:=hb.size;have p:bG (dt 173 5 w1.heap.size w1.heap.size (aV (Tp.text l)) wr):=by rw[ja] at b;exact hid b
    clear hb b d;go_wp2_with (go_at_call 85;refine(Any.Builder_String_any Tp.lays169 Tp.bextra _ _ _ _ p.out n).mono ?_;rintro e w2 ⟨rfl,a⟩)
    go_ret2
    exact⟨D,m.out.trans ((HB.out.trans a).mono m.out.size)⟩
 ·have hp:Tp.printS l=[]:=ae hc
  rw[hp];have hne:(Tp.chkIn l 0 != 0)=Γ:=by simpa using hc
  generalize Tp.chkIn l 0=ce at *;clear h f L hp hc;go_enter func46,ntmps46;go_wp2_with (go_at_call 57;refine M.out.mono ?_;rintro e w1 ⟨rfl,c⟩)
  go_ret2
  exact⟨D,c⟩
theorem zd8(c:UInt8)(d r:List UInt8)(h:d.isPrefixOf r=Γ):∀ t:List UInt8,c ∉ t->nK (t++c::r) (c::d)=t.length
 | [],_=>by simp[nK,h]
 | b::t,a=>by
  have hb:¬ c=b:=by simp at a;exact a.1
  have f:=zd8 c d r h t (by simp at a;exact a.2);have h1:((t.length:Int) == -1)=ξ:=by simp
  simp[nK,f,h1];intro e;exact absurd e hb
theorem zd9(c:UInt8)(d:List UInt8):∀ t:List UInt8,c ∉ t->nK t (c::d) = -1
 | [],_=>rfl
 | b::t,a=>by
  have hb:¬ c=b:=by simp at a;exact a.1
  have f:=zd9 c d t (by simp at a;exact a.2);simp[nK,f];intro e;exact absurd e hb
theorem zuX(c:UInt8)(t r:List UInt8)(h:c ∉ t):bA (t++c::r) [c]=(t,r,Γ):=by
 have e:=zd8 c [] r (by simp) t h;unfold bA;rw[e,am (by omega)];simp[oY]
theorem zuY(c:UInt8)(t:List UInt8)(h:c ∉ t):bA t [c]=(t,[],ξ):=by
 have e:=zd9 c [] t h;unfold bA;rw[e,ae (by omega)]
theorem zmo(θ:Nat):dM θ≠[]:=by
 rw[dM];split <;> simp
theorem zdp(θ:Nat):∀ c∈dM θ,48<=c.toNat/\c.toNat<=57:=by
 induction θ using pD with
 | _ θ a =>
  intro c hc;rw[dM] at hc;split at hc
  ·rw[dD] at hc;subst hc
   have e:(bF (48+θ)).toNat=(48+θ)%256:=by simp
   rw[e];omega
  ·rcases cO.1 hc with h|h
   ·exact a (θ/10) (by omega) c h
   ·rw[dD] at h;subst h
    have e:(bF (48+θ%10)).toNat=(48+θ%10)%256:=by simp
    rw[e];omega
theorem zeS(c:UInt8)(hc:48<=c.toNat/\c.toNat<=57):∀(l:List UInt8) (acc v:Nat),fU acc l=.ok v->v<1844674407370955161->fU acc (l++[c])=.ok (v*10+(c.toNat-48))
 | [],acc,v,h,a=>by
  simp only[fU,Lib.NumEnd.ok.injEq] at h;subst h;simp only[iH,fU];rw[am hc,ae (by omega),ae (by omega)]
 | d::l,acc,v,h,a=>by
  simp only[fU] at h;simp only[cV,fU];split at h
  ·rename_i h1
   split at h
   ·cases h
   ·rename_i h2
    split at h
    ·cases h
    ·rename_i h3
     rw[am h1,ae h2,ae h3];exact zeS c hc l _ v h a
  ·cases h
theorem zfD(θ:Nat)(b:θ<=9223372036854775808):fU 0 (dM θ)=.ok θ:=by
 induction θ using pD with
 | _ θ a =>
  rw[dM];split
  ·rename_i h
   have e:(bF (48+θ)).toNat=48+θ:=by simp;omega
   simp only[fU,e];rw[am (by omega),ae (by omega),ae (by omega)];congr 1;omega
  ·rename_i h
   have e:(bF (48+θ%10)).toNat=48+θ%10:=by simp;omega
   have:=zeS (bF (48+θ%10)) (by rw[e];omega) _ 0 _ (a (θ/10) (by omega) (by omega)) (by omega);rw[this,e];congr 1;omega
theorem zoP(θ:Nat):∃ c r,dM θ=c::r/\48<=c.toNat/\c.toNat<=57:=by
 cases h:dM θ with
 | nil=>exact absurd h (zmo θ)
 | cons c r=>exact⟨c,r,D,zdp θ c (by rw[h];simp)⟩
theorem zmp(n:Int)(g:-9223372036854775808<=n)(h1:n<=9223372036854775807):gU (ba n)=.ok n:=by
 unfold ba;by_cases b:n<0
 ·rw[am b]
  have hp:=zfD n.natAbs (by omega);have a:mD (dM n.natAbs)=.ok n.natAbs:=by unfold mD;rw[ae (zmo _),hp]
  have e:(45:UInt8).toNat=45:=D;simp only[gU,e,or_true,fO,a];rw[ae (by simp),ae (by omega)];congr 1;omega
 ·rw[ae b]
  have hp:=zfD n.toNat (by omega);obtain⟨c,r,hc,c0,c1⟩:=zoP n.toNat;rw[hc] at hp ⊢;have a:mD (c::r)=.ok n.toNat:=by unfold mD;rw[ae (by simp),hp]
  have d:¬ c.toNat=43:=by omega
  have f:¬ c.toNat=45:=by omega
  simp only[gU,d,f,or_self,fj,a,false_and,not_false_eq_true,true_and];rw[ae (by omega)];congr 1;omega
theorem zoQ(n:Int):∀ c∈ba n,c=45 \/ (48<=c.toNat/\c.toNat<=57):=by
 intro c hc;unfold ba at hc;split at hc
 ·rcases bp.1 hc with h|h
  ·exact aj h
  ·exact ao (zdp _ c h)
 ·exact ao (zdp _ c hc)
theorem zgK(n:Int)(x:UInt8)(b:x≠45)(a:¬ (48<=x.toNat/\x.toNat<=57)):x ∉ ba n:=λh=>by
 rcases zoQ n x h with h|h
 ·exact b h
 ·exact a h
/-! ### parts between signs -/
def Tp.sp(c:UInt8):List UInt8->List (List UInt8)
 | []=>[[]]
 | x::l=>if x=c then []::Tp.sp c l else match Tp.sp c l with
  | []=>[[x]]
  | p::ps=>(x::p)::ps
theorem yx(c:UInt8):∀ θ:List UInt8,c ∉ θ->Tp.sp c θ=[θ]
 | [],_=>rfl
 | x::θ,h=>by
  have h1:¬ x=c:=λe=>h (by simp[e])
  rw[Tp.sp,ae h1,yx c θ (λe=>h (bV _ e))]
theorem vW(c:UInt8)(r:List UInt8):∀ θ:List UInt8,c ∉ θ->Tp.sp c (θ++c::r)=θ::Tp.sp c r
 | [],_=>by simp[Tp.sp]
 | x::θ,h=>by
  have h1:¬ x=c:=λe=>h (by simp[e])
  rw[cV,Tp.sp,ae h1,vW c r θ (λe=>h (bV _ e))]
theorem zU(c:UInt8):∀ s:List UInt8,c∈s->∃ θ r,s=θ++c::r/\c ∉ θ
 | x::s,h=>by
  by_cases e:x=c
  ·exact⟨[],s,by rw[e];rfl,by simp⟩
  ·obtain⟨θ,r,h1,h2⟩:=zU c s (by rcases bp.1 h with h|h;exact absurd h.symm e;exact h)
   exact⟨x::θ,r,by rw[h1];rfl,by simp[h2,bZ e]⟩
theorem A2(c:UInt8):∀ s:List UInt8,Tp.sp c s≠[]
 | []=>by simp[Tp.sp]
 | x::s=>by
  rw[Tp.sp];split
  ·simp
  ·split <;> simp
theorem zeU(c:UInt8):∀(fuel:Nat) (s:List UInt8),s.length<=fuel->jA [c] 0 (oa [c] fuel s) s=Tp.sp c s
 | 0,s,h=>by
  have:s=[]:=bM.1 (by omega);subst this;rfl
 | fuel+1,s,h=>by
  by_cases hc:c∈s
  ·obtain⟨θ,r,rfl,a⟩:=zU c s hc
   have hi:=zd8 c [] r (by simp) θ a;have e1:((θ.length:Int) == -1)=ξ:=by simp
   rw[vW c r θ a];unfold oa;rw[hi,e1];simp only[cD,fj,bR,cy,fY,aX];have e2:(θ++c::r).drop (θ.length+1)=r:=by simp[oY]
   rw[e2,oN 1];unfold jA;rw[hi,e1];simp only[cD,fj,bR,cy,fY,aX,Nat.add_zero];rw[e2,zeU c fuel r (by rw[az,cy] at h;omega)];simp
  ·rw[yx c s hc]
   unfold oa;rw[zd9 c [] s hc];rfl
theorem zoR(c:UInt8)(s:List UInt8):il s [c]=Tp.sp c s:=by
 unfold il Lib.count;exact zeU c _ s (by omega)
theorem zmq(c:UInt8)(s:List UInt8):∀ p∈Tp.sp c s,c ∉ p/\p.length<=s.length:=by
 induction s with
 | nil=>intro p hp;simp[Tp.sp] at hp;subst hp;simp
 | cons x s a =>
  intro p hp;rw[Tp.sp] at hp;split at hp
  ·rcases bp.1 hp with h|h
   ·subst h;simp
   ·obtain⟨h1,h2⟩:=a p h;exact⟨h1,by simp;omega⟩
  ·rename_i d
   cases b:Tp.sp c s with
   | nil=>exact absurd b (A2 c s)
   | cons q qs =>
    rw[b] at hp a;rcases bp.1 hp with h|h
    ·subst h
     obtain⟨h1,h2⟩:=a q (by simp);exact⟨by simp[h1,bZ d],by simp;exact h2⟩
    ·obtain⟨h1,h2⟩:=a p (by simp[h]);exact⟨h1,by simp;omega⟩
theorem zoS{c:UInt8}{s a b d:List UInt8}(h:Tp.sp c s=[a,b,d]):s=a++c::(b++c::d)/\c ∉ a/\c ∉ b/\c ∉ d:=by
 have g:=zmq c s;rw[h] at g;have h1:=(g a (by simp)).1;have h2:=(g b (by simp)).1;have h3:=(g d (by simp)).1;refine⟨?_,h1,h2,h3⟩;by_cases hc:c∈s
 ·obtain⟨θ,r,rfl,k⟩:=zU c s hc
  rw[vW c r θ k] at h
  injection h with e1 e2
  subst e1;by_cases e:c∈r
  ·obtain⟨u2,r2,rfl,i⟩:=zU c r e
   rw[vW c r2 u2 i] at e2
   injection e2 with e3 e4
   subst e3;by_cases f:c∈r2
   ·obtain⟨u3,r3,rfl,j⟩:=zU c r2 f
    rw[vW c r3 u3 j] at e4
    injection e4 with e5 e6
    exact absurd e6 (A2 c r3)
   ·rw[yx c r2 f] at e4
    injection e4 with e5 e6
    rw[e5]
  ·rw[yx c r e] at e2
   injection e2 with e3 e4
   cases e4
 ·rw[yx c s hc] at h
  injection h with e1 e2
  cases e2
/-! ### a line, back -/
def Tp.atv(a:List UInt8):Int:=match gU a with
 | .ok v=>v
 | .syntax=>0
 | .range=>Lib.atoiSat a
def Tp.wh(a:List UInt8):Option Int:=match gU a with
 | .ok v=>if ba v=a then A v else G
 | .syntax=>G
 | .range=>G
def Tp.rd(t:List UInt8):Option Tp.In:=match Tp.sp 32 t with
 | [a,b,d]=>match Tp.wh a,Tp.wh b,Tp.ofb d with
  | some x,A y,A z=>A ⟨x,y,z⟩
  | _,_,_=>G
 | _=>G
theorem ziL:∀ d:Fin 256,(32:UInt8) ∉ Tp.btn d.1/\(10:UInt8) ∉ Tp.btn d.1:=by decide +kernel
theorem ziM(n:Int):(32:UInt8) ∉ ba n:=zgK n 32 (by decide) (by decide)
theorem ziN(n:Int):(10:UInt8) ∉ ba n:=zgK n 10 (by decide) (by decide)
theorem A3(a:List UInt8):-9223372036854775808<=Tp.atv a/\Tp.atv a<=9223372036854775807:=by
 unfold Tp.atv;split
 ·rename_i v h;exact Lib.atoiAll_bounds h
 ·decide
 ·unfold Lib.atoiSat;split <;> decide
theorem ziO(n:Int)(a:-9223372036854775808<=n)(h1:n<=9223372036854775807):Tp.wh (ba n)=A n:=by
 unfold Tp.wh;rw[zmp n a h1];simp
theorem zdN{a:List UInt8}{n:Int}(h:Tp.wh a=A n):ba n=a/\Tp.atv a=n /\ -9223372036854775808<=n/\n<=9223372036854775807:=by
 have hb:=A3 a;unfold Tp.wh at h;unfold Tp.atv at hb ⊢;split at h
 ·rename_i v b
  try simp only[b] at hb
  split at h
  ·rename_i e
   cases h;exact⟨e,D,hb.1,hb.2⟩
  ·cases h
 ·cases h
 ·cases h
theorem Tp.In.line_form(x:Tp.In):x.line=ba x.c++32::(ba x.p++32::Tp.btn x.d):=by
 unfold Tp.In.line;simp
theorem zr4{x:Tp.In}(h:x.d<256):Tp.sp 32 x.line=[ba x.c,ba x.p,Tp.btn x.d]:=by
 rw[x.line_form,vW 32 _ _ (ziM _),vW 32 _ _ (ziM _),yx 32 _ (ziL ⟨x.d,h⟩).1]
theorem ziP{x:Tp.In}(h:x.ok):Tp.rd x.line=A x:=by
 unfold Tp.rd;rw[zr4 h.d];simp only;rw[ziO x.c h.c0 h.c1,ziO x.p h.p0 h.p1,ziJ h.d]
theorem Tp.rd_some{t:List UInt8}{x:Tp.In}(h:Tp.rd t=A x):x.line=t/\x.ok:=by
 unfold Tp.rd at h;split at h
 ·rename_i a b d c
  obtain⟨e,f,hb,g⟩:=zoS c;split at h
  ·rename_i n m z h1 h2 h3
   cases h;obtain⟨a1,a2,a3,a4⟩:=zdN h1;obtain⟨b1,b2,b3,b4⟩:=zdN h2;obtain⟨c1,c2⟩:=zgC h3;exact⟨by rw[Tp.In.line_form];simp only;rw[a1,b1,c2,e],⟨a3,a4,b3,b4,c1⟩⟩
  ·cases h
 ·cases h
def Tp.tri(a b d:List UInt8):Tp.In:=⟨Tp.atv a,Tp.atv b,(Tp.ofb d).getD 0⟩
theorem zuZ(d:List UInt8):(Tp.ofb d).getD 0<256:=by
 cases h:Tp.ofb d with
 | none=>decide
 | some z=>exact(zgC h).1
theorem zmr(a b d:List UInt8):(Tp.tri a b d).ok:=⟨(A3 a).1,(A3 a).2,(A3 b).1,(A3 b).2,zuZ d⟩
theorem zu0{t a b d:List UInt8}(e:Tp.sp 32 t=[a,b,d]):Tp.rd t=if (Tp.tri a b d).line=t then A (Tp.tri a b d) else G:=by
 by_cases h:(Tp.tri a b d).line=t
 ·rw[am h]
  have:=ziP (zmr a b d);rw[h] at this;exact this
 ·rw[ae h]
  cases c:Tp.rd t with
  | none=>rfl
  | some x =>
   exfalso;obtain⟨h1,h2⟩:=Tp.rd_some c;unfold Tp.rd at c;rw[e] at c;simp only at c;split at c
   ·rename_i n m z e1 e2 e3
    cases c;obtain⟨a1,a2,a3,a4⟩:=zdN e1;obtain⟨b1,b2,b3,b4⟩:=zdN e2;refine h ?_;unfold Tp.tri;rw[a2,b2,e3];exact h1
   ·cases c
theorem zoT{t:List UInt8}(c:(Tp.sp 32 t).length≠3):Tp.rd t=G:=by
 unfold Tp.rd;split
 ·rename_i a b d e
  rw[e] at c;exact absurd D c
 ·rfl
/-! ### lines -/
def Tp.rdA:List (List UInt8)->Nat->Except Nat (List Tp.In)
 | [],_=>.ok []
 | [t],i=>if t=[] then .ok [] else .error i
 | t::θ::a,i=>match Tp.rd t with
  | none=>.error i
  | some x=>match Tp.rdA (θ::a) (i+1) with
   | .error k=>.error k
   | .ok l=>.ok (x::l)
def Tp.aft(acc:List Tp.In):Except Nat (List Tp.In)->Except Nat (List Tp.In)
 | .error k=>.error k
 | .ok l=>.ok (acc++l)
theorem zu1{t θ:List UInt8}{a:List (List UInt8)}{i:Nat}(h:Tp.rd t=G):Tp.rdA (t::θ::a) i=.error i:=by rw[Tp.rdA,h]
theorem ziQ{t θ:List UInt8}{a:List (List UInt8)}{i:Nat}{x:Tp.In}(h:Tp.rd t=A x):Tp.rdA (t::θ::a) i=Tp.aft [x] (Tp.rdA (θ::a) (i+1)):=by
 rw[Tp.rdA,h];cases Tp.rdA (θ::a) (i+1) <;> rfl
theorem zr5(a b:List Tp.In)(e:Except Nat (List Tp.In)):Tp.aft a (Tp.aft b e)=Tp.aft (a++b) e:=by
 cases e <;> simp[Tp.aft]
theorem zr6{x:Tp.In}(h:x.d<256):(10:UInt8) ∉ x.line:=by
 rw[x.line_form];simp only[cO,bp,not_or];exact⟨ziN _,by decide,ziN _,by decide,(ziL ⟨x.d,h⟩).2⟩
theorem zgL:∀(l:List Tp.In) (i:Nat),(∀ x∈l,x.ok)->Tp.rdA (Tp.sp 10 (Tp.text l)) i=.ok l
 | [],i,_=>rfl
 | x::l,i,h=>by
  have a:=h x (bO ..);have b:=zgL l (i+1) (λy f=>h y (bV _ f));have e:Tp.text (x::l)=x.line++10::Tp.text l:=by unfold Tp.text;simp
  rw[e,vW 10 _ _ (zr6 a.d)];cases c:Tp.sp 10 (Tp.text l) with
  | nil=>exact absurd c (A2 _ _)
  | cons θ g =>
   rw[c] at b;rw[ziQ (ziP a),b];rfl
def Tp.prsL(s:List UInt8):List Tp.In:=if 4000<s.length then [] else match Tp.rdA (Tp.sp 10 s) 0 with
 | .error _=>[]
 | .ok l=>if Tp.chkIn l 0=0 then l else []
def Tp.prsN(s:List UInt8):Nat:=if 4000<s.length then 0 else match Tp.rdA (Tp.sp 10 s) 0 with
 | .error k=>k
 | .ok l=>0
def Tp.prsE(s:List UInt8):Int:=if 4000<s.length then 2 else match Tp.rdA (Tp.sp 10 s) 0 with
 | .error k=>1
 | .ok l=>Tp.chkIn l 0
theorem zoU{l:List Tp.In}(h:∀ x∈l,x.ok)(b:(Tp.text l).length<=4000)(hc:Tp.chkIn l 0=0):Tp.prsL (Tp.text l)=l/\Tp.prsN (Tp.text l)=0/\Tp.prsE (Tp.text l)=0:=by
 have a:¬ 4000<(Tp.text l).length:=by omega
 unfold Tp.prsL Tp.prsN Tp.prsE;rw[ae a,ae a,ae a,zgL l 0 h];simp only[hc,fO,and_self]
theorem zoV{w a:u}(h:Below w.heap.size w a)(k:Nat):Below w.heap.size w (a.drewN k):=by
 induction k with
 | zero=>exact h
 | succ k b=>exact b.drew
theorem zr7(l a:List UInt8)(g:l.length<=10000)(w:u)(b:Tp.F w):Δ ω 53 #[Ω (mk l),Ω (mk a)] w λe w'=>e=μ (Ψ #[Ω (mk (bA l a).1),Ω (mk (bA l a).2.1),ν (bA l a).2.2])/\Below w.heap.size w w':=by
 obtain⟨m,c⟩:=b.len;refine(Tryz.strings_Cut (mk l) (mk a) m w (by show l.length<4294967281;omega) c).mono λe w' ⟨d,n,f⟩=>⟨d,?_⟩
 subst f;exact zoV (aR w) n
def Tp.strsAt(w:u)(g:Nat)(ps:List (List UInt8)):Prop:=∀(j:Nat) (s:List UInt8),ps[j]?=A s->w.cell? ⟨g,j,G⟩=A (Ω (mk s))
theorem Tp.strsAt.kept{w w':u}{g:Nat}{ps:List (List UInt8)}(h:Tp.strsAt w g ps)(a:g<w.heap.size)(hb:Below w.heap.size w w'):Tp.strsAt w' g ps:=λj s b=>(hb.cell (p:=⟨g,j,G⟩) a).trans (h j s b)
theorem zxm(s:ByteArray):mk s.data.toList=s:=by obtain⟨⟨l⟩⟩:=s;rfl
theorem zms(c:UInt8)(t:List UInt8)(o:t.length<=10000)(w:u)(h:Tp.F w):Δ ω 169 #[Ω (mk t),Ω (mk [c])] w λe w'=>e=μ (κ (A ⟨w.heap.size,0,G⟩) (Tp.sp c t).length (Tp.sp c t).length)/\Tp.strsAt w' w.heap.size (Tp.sp c t)/\w.heap.size<w'.heap.size/\Below w.heap.size w w':=by
 obtain⟨m,i⟩:=h.len;have k:=Lib.splitB_data (mk [c]) 0 (fT (mk t) (mk [c])) (mk t);have a:=Lib.splitB_all (mk [c]) (by show 1<=1;omega) 0 _ (mk t) D;have b:(lj (mk [c]) 0 (fT (mk t) (mk [c])) (mk t)).map (·.data.toList)=Tp.sp c t:=k.trans (zoR c t);have f:(Tp.sp c t).length=fT (mk t) (mk [c])+1:=by rw[<- b,bf,a]
 refine(Tryz.strings_Split (mk t) (mk [c]) m w (by show t.length<4294967281;omega) i (by show 1<=1;omega)).mono λe w' ⟨l,n⟩=>?_
 subst n;refine⟨by rw[l,f],λj s d=>?_,by simp,stA (aR _) _⟩;rw[Pl.new _ _ _ _ D,ch,bn];rw[<- b,bn] at d;cases g:(lj (mk [c]) 0 (fT (mk t) (mk [c])) (mk t))[j]? with
 | none=>rw[g] at d;cases d
 | some x =>
  rw[g] at d;cases d;simp[zxm]
theorem zc3(a:List UInt8)(f:a.length<=10000)(w:u)(d:Tp.F w):Δ ω 170 #[Ω (mk a)] w λe w'=>∃ ev,e=μ (Ψ #[J Q (Tp.atv a),ev])/\Below w.heap.size w w':=by
 obtain⟨e1,h1,k1⟩:=d.syn;obtain⟨e2,h2,k2⟩:=d.ran;have g:(mk a).size=a.length:=D;unfold Tp.atv;cases b:gU a with
 | ok v =>
  refine(Tryz.strconv_Atoi_ok (mk a) (by omega) v b w).mono λe w' h=>⟨_,h.1,?_⟩
  rcases h.2 with rfl|⟨t,rfl⟩
  ·exact aR _
  ·exact Joins.below_bytesWorld _ _ _ _ (ψ _)
 | «syntax»=>exact(Any.strconv_Atoi_syntax Tryz.laysC172 (mk a) (by omega) b e1 w h1 k1).mono λe w' ⟨N,c,_,_,hb⟩=>⟨_,c,hb⟩
 | range=>exact(Any.strconv_Atoi_range Tryz.laysC172 (mk a) (by omega) b e2 w h2 k2).mono λe w' ⟨N,c,_,_,hb⟩=>⟨_,c,hb⟩
theorem zr8:(Tryz.prog.info? 113).map (·.size)=A 3:=by kernel_rfl
theorem zfh{W:u}{q:Nat}{x:Tp.In}(h:Bx W q x.val.toList):(bC 113 ⟨q,0,G⟩).run ω W=.ok (ac x.val) W :=
 run_loadVar_mid W q 0 113 _ _ h.c underlying113 rfl zr8
def Tp.In.zero:Tp.In:=⟨0,0,0⟩
structure Tp.Ol (w : u) (g : Nat) (ps : List (List UInt8)) (ι : u) : Prop where
 low:Below w.heap.size w ι
 fc:Tp.F ι
 bx:Bx ι w.heap.size Tp.In.zero.val.toList
 gz:g<ι.heap.size
 st:Tp.strsAt ι g ps
theorem Tp.Ol.kept{w:u}{g:Nat}{ps:List (List UInt8)}{ι Y':u}(h:Tp.Ol w g ps ι)(hb:Below ι.heap.size ι Y'):Tp.Ol w g ps Y' :=
 ⟨bw h.low hb,h.fc.kept hb,h.bx.kept hb,Θ h.gz hb.size,h.st.kept h.gz hb⟩
theorem zea{w:u}{ps:List (List UInt8)}{ι:u}{o:Obj}{g:Nat}(b:g=(w.alloc o).heap.size)(c:o=χ Tp.In.zero.val 113)(d:Tp.F w)(a:Tp.strsAt ι (w.alloc o).heap.size ps)(e:(w.alloc o).heap.size<ι.heap.size)(hb:Below (w.alloc o).heap.size (w.alloc o) ι):Tp.Ol w g ps ι:=by
 subst b;subst c;exact⟨bw (stA (aR w) _) hb,(d.kept (stA (aR w) _)).kept hb,(Bx.new w Tp.In.zero.val.toList _ D).kept hb,e,a⟩
theorem zgM{w:u}{ι:u}(a:Below w.heap.size w ι)(h:Bx ι w.heap.size Tp.In.zero.val.toList)(x:Tp.In):Below w.heap.size w (ι.setCells w.heap.size 0 x.val.toList)/\Bx (ι.setCells w.heap.size 0 x.val.toList) w.heap.size x.val.toList :=
 ⟨Pl.below (ψ _) _ 0 ι a,h.puts 0 x.val.toList (by show 0+3<=3;omega)⟩
def Tp.tell(o:Option Tp.In):π:=Ψ #[ac (o.getD Tp.In.zero).val,J Q (if o.isSome then 0 else 1)]
theorem zb9(t:List UInt8)(ht:t.length<=4000)(w:u)(W:Tp.F w):Δ ω 81 #[Ω (mk t)] w λe w'=>e=μ (Tp.tell (Tp.rd t))/\Below w.heap.size w w':=by
 have s:=hid W;have E:=hid (λ(w1:u) (h1:Tp.F w1)=>zms 32 t (by omega) w1 h1);have r:=zmq 32 t;by_cases h3:(Tp.sp 32 t).length=3
 ·obtain⟨a,b,d,R⟩:∃ a b d,Tp.sp 32 t=[a,b,d]:=by
   match h:Tp.sp 32 t,h3 with
   | [a,b,d],_=>exact⟨a,b,d,D⟩
  have ha:a.length<=4000:=ax (r a (by rw[R];simp)).2 ht;have hb:b.length<=4000:=ax (r b (by rw[R];simp)).2 ht;have H:=zu0 R;rw[R] at E;clear r h3 W;have M:bG (∀ w1,Tp.F w1->Δ ω 83 #[ac #[J Q (Tp.atv a),J Q (Tp.atv b),J au (Tp.ofbN d)]] w1 λe w'=>e=μ (Ω (mk (Tp.tri a b d).line))/\Below w1.heap.size w1 w'):=hid (λw1 h1=>zgF (Tp.tri a b d) (zmr a b d) w1 h1);by_cases T:(Tp.tri a b d).line=t
  ·rw[am T] at H
   rw[H];have X:((mk (Tp.tri a b d).line).toList == (mk t).toList)=Γ:=by
    rw[yc,yc]
    simpa using T
   generalize hln:mk (Tp.tri a b d).line=ln at *;go_enter func81,ntmps81;go_wp2_with (first
    | (go_at_call 83;refine(M.out _ (k.out.kept (stA (aR _) _)).fc).mono ?_;rintro e w5 ⟨rfl,p⟩;have q:=hid ((k.out.kept (stA (aR _) _)).kept p);have c:=q.out.bx;have y0:=c.at 0 _ D;have y1:=c.at 1 _ D;have U:=c.at 2 _ D;have V:=c.z;have yf:=c.f;clear c;have L:=hid ((Bx.new w3 (Tp.tri a b d).val.toList 113 D).kept p);have i:=L.out;have x0:=i.at 0 _ D;have x1:=i.at 1 _ D;have x2:=i.at 2 _ D;have xz:=i.z;clear p i)
    | (go_at_call 171;refine(zc6 d _).mono ?_;rintro e w4 ⟨rfl,rfl⟩)
    | (go_at_call 170;have hq:=j.out;clear hq;refine(zc3 b (by omega) _ j.out.fc).mono ?_;rintro e w3 ⟨ev3,rfl,x⟩;have k:=hid (j.out.kept x);have U:=k.out.st 2 d D;have V:=k.out.gz;clear x)
    | (go_at_call 170;refine(zc3 a (by omega) _ l.out.fc).mono ?_;rintro e w2 ⟨ev2,rfl,y⟩;have j:=hid (l.out.kept y);have z1:=j.out.st 1 b D;have zz:=j.out.gz;clear y)
    | (go_at_call 169;refine(E.out _ (s.out.kept (stA (aR w) _))).mono ?_;rintro e w1 ⟨rfl,m,I,o⟩;have l:=hid (zea (g:=w.heap.size+1) (by simp) D s.out m I o);have s0:=l.out.st 0 a D;have sz:=l.out.gz;clear m I o))
   refine Pl.cutB (λZ=>Below w.heap.size w Z/\Bx Z w.heap.size (Tp.tri a b d).val.toList) (zgM q.out.low q.out.bx (Tp.tri a b d)) ?_;rintro Z ⟨N,P⟩;have B:=zfh P;refine Ξ (v:=Tp.tell (A (Tp.tri a b d))) ?_ D ⟨D,N⟩;simp only[results,results81];simp;show (aE (bL ω (bC 113 ⟨w.heap.size,0,G⟩) Z) _)=_;rw[B];rfl
  ·rw[ae T] at H
   rw[H];have X:((mk (Tp.tri a b d).line).toList == (mk t).toList)=ξ:=by
    rw[yc,yc]
    simpa using T
   generalize hln:mk (Tp.tri a b d).line=ln at *;go_enter func81,ntmps81;go_wp2_with (first
    | (go_at_call 83;refine(M.out _ (k.out.kept (stA (aR _) _)).fc).mono ?_;rintro e w5 ⟨rfl,p⟩;have q:=hid ((k.out.kept (stA (aR _) _)).kept p);have c:=q.out.bx;have y0:=c.at 0 _ D;have y1:=c.at 1 _ D;have U:=c.at 2 _ D;have V:=c.z;have yf:=c.f;clear c;have L:=hid ((Bx.new w3 (Tp.tri a b d).val.toList 113 D).kept p);have i:=L.out;have x0:=i.at 0 _ D;have x1:=i.at 1 _ D;have x2:=i.at 2 _ D;have xz:=i.z;clear p i)
    | (go_at_call 171;refine(zc6 d _).mono ?_;rintro e w4 ⟨rfl,rfl⟩)
    | (go_at_call 170;have hq:=j.out;clear hq;refine(zc3 b (by omega) _ j.out.fc).mono ?_;rintro e w3 ⟨ev3,rfl,x⟩;have k:=hid (j.out.kept x);have U:=k.out.st 2 d D;have V:=k.out.gz;clear x)
    | (go_at_call 170;refine(zc3 a (by omega) _ l.out.fc).mono ?_;rintro e w2 ⟨ev2,rfl,y⟩;have j:=hid (l.out.kept y);have z1:=j.out.st 1 b D;have zz:=j.out.gz;clear y)
    | (go_at_call 169;refine(E.out _ (s.out.kept (stA (aR w) _))).mono ?_;rintro e w1 ⟨rfl,m,I,o⟩;have l:=hid (zea (g:=w.heap.size+1) (by simp) D s.out m I o);have s0:=l.out.st 0 a D;have sz:=l.out.gz;clear m I o))
   refine Pl.cutB (λZ=>Below w.heap.size w Z/\Bx Z w.heap.size Tp.In.zero.val.toList) (zgM q.out.low q.out.bx Tp.In.zero) ?_;rintro Z ⟨N,P⟩;have B:=zfh P;refine Ξ (v:=Tp.tell G) ?_ D ⟨D,N⟩;simp only[results,results81];simp;show (aE (bL ω (bC 113 ⟨w.heap.size,0,G⟩) Z) _)=_;rw[B];rfl
 ·rw[zoT h3]
  have h3':¬ ((Tp.sp 32 t).length:Int)=3:=by omega
  generalize hn:(Tp.sp 32 t).length=n at *;clear h3 r W;go_enter func81,ntmps81;go_wp2_with (go_at_call 169;refine(E.out _ (s.out.kept (stA (aR w) _))).mono ?_;rintro e w1 ⟨rfl,m,I,o⟩;have HO:=hid (zea (g:=w.heap.size+1) (by simp) D s.out m I o);have c:=HO.out.bx;have y0:=c.at 0 _ D;have y1:=c.at 1 _ D;have U:=c.at 2 _ D;have V:=c.z;have yf:=c.f;clear m I o c)
  refine Pl.cutB (λZ=>Below w.heap.size w Z/\Bx Z w.heap.size Tp.In.zero.val.toList) (zgM HO.out.low HO.out.bx Tp.In.zero) ?_;rintro Z ⟨N,P⟩;have B:=zfh P;refine Ξ (v:=Tp.tell G) ?_ D ⟨D,N⟩;simp only[results,results81];simp;show (aE (bL ω (bC 113 ⟨w.heap.size,0,G⟩) Z) _)=_;rw[B];rfl
theorem zfE{w:u}{B z n:Nat}{t:aJ}{v:π}{xs:List π}(h:w.ownsRow B t z v n xs)(l:0<n):∃ g a,v=κ (A ⟨g,0,G⟩) n a/\n<=a/\g<w.heap.size /\ ∀ j x,xs[j]?=A x->w.cell? ⟨g,j,G⟩=A x:=by
 rcases h.2 with⟨d,e1⟩|⟨g,a,f,d,hb,e,i,m,o,k⟩
 ·omega
 ·refine⟨g,a,d,i,(aa.1 e).1,λj x b=>?_⟩
  rw[<- k] at b;have c:j<n*z:=by
   have:=(ay.1 b).1;rw[bD] at this;omega
  rw[dN c,eu] at b;unfold World.cell?;simp[e,b]
theorem tR{w:u}{B z n:Nat}{t:aJ}{v:π}{xs:List π}(h:w.ownsRow B t z v n xs):∃ a c,v=κ a n c:=by
 rcases h.2 with⟨b,e1⟩|⟨g,d,e,b,_⟩
 ·exact⟨G,0,by rw[b,e1]⟩
 ·exact⟨_,_,b⟩
theorem zeb{B z n:Nat}{t:aJ}{v:π}{xs:List π}{w w1:u}(h:w.ownsRow B t z v n xs)(hb:Below w.heap.size w w1):w1.ownsRow B t z v n xs:=h.kept (zcN hb) (zgH v)
theorem Tp.appOne{ops:Array cG}{rest:List cG}{o:cG}{a:Act}{η:Exit->Act->u->Prop}{l t:aJ}{m:π}{y z n B:Nat}{w:u}{v:π}{xs:List π}(p:Tryz.prog.underlying l=A (.slice t))(f:(Tryz.prog.info? t).map (λi=>(i.zero,i.size,i.bytes))=A (A m,z,y))(q:m.cells.size=z)(M:0<z)
 (r:o.guard=G) (s x:dk) (N:o.op=.call { callee:=.builtin .append,args:=#[s,x],argTypes:=#[l,l] }) (P:a.eval s=v) (b:w.ownsRow B t z v n xs) (g c:Nat) (R:a.eval x=κ (A ⟨g,0,G⟩) 1 c) {ys:List π} (W:ys.length=z) (hc:∀ j θ,ys[j]?=A θ->w.cell? ⟨g,j,G⟩=A θ) (h1:∀ θ∈ys,θ.oneCell'=Γ) (hb:n<=140737488355327) (E:(n+1)*y<=140737488355328) (hB:B<=w.heap.size)
 (h:∀ v' w',w'.ownsRow B t z v' (n+1) (xs++ys)->Below B w w'->dg ω ops η rest (a.put o.dst v') w'):dg ω ops η (o::rest) a w:=by
 obtain⟨i0,F,H,I,L⟩:=info_parts f;refine wpList_append_lies _ r s x _ N B t i0 m z y p F H I L q M v n xs P b ⟨g,0,G⟩ 1 c ys R (by omega) (λj θ T=>by rw[addr_add,aX];exact hc j θ T) h1 (by omega) (by unfold maxLen;omega) E hB w.heap.size D ?_;intro g' U w' d e _ _;exact h _ w' d ((bq B w).grown e hB (λk V=>(b.lt k V).1))
/-! ### inputs -/
def Tp.ics:List Tp.In->List π
 | []=>[]
 | x::l=>J Q x.c :: J Q x.p :: J au x.d::Tp.ics l
theorem ziR:∀ l k:List Tp.In,Tp.ics (l++k)=Tp.ics l++Tp.ics k
 | [],k=>rfl
 | x::l,k=>by simp only[Tp.ics,cV,ziR l k]
theorem zgN:∀(l:List Tp.In) (j:Nat) (x:Tp.In),l[j]?=A x->(Tp.ics l)[3*j]?=A (J Q x.c)/\(Tp.ics l)[3*j+1]?=A (J Q x.p)/\(Tp.ics l)[3*j+2]?=A (J au x.d)
 | [],j,x,h=>by simp at h
 | y::l,0,x,h=>by
  simp only[bv,aZ] at h;subst h;exact⟨D,D,D⟩
 | y::l,j+1,x,h=>by
  rw[bN] at h;obtain⟨h1,h2,h3⟩:=zgN l j x h;rw[show 3*(j+1)=3*j+1+1+1 by omega];exact⟨h1,h2,h3⟩
theorem zmt{w:u}{B:Nat}{v:π}{l:List Tp.In}(h:w.ownsRow B 113 3 v l.length (Tp.ics l)):Tp.InAt w.heap.size w v l:=by
 by_cases d:l=[]
 ·subst d
  obtain⟨a,c,e⟩:=tR h;exact aj ⟨D,a,c,e⟩
 ·have f:0<l.length:=by cases l with|nil=>exact absurd rfl d|cons _ _=>simp
  obtain⟨g,b,e,h1,h2,h3⟩:=zfE h f;refine ao ⟨g,0,b,e,h1,h2,h2,λj x i=>?_⟩;obtain⟨q1,k,m⟩:=zgN l j x i;rw[aX];exact⟨h3 _ _ q1,h3 _ _ k,h3 _ _ m⟩
theorem zoW:(Tryz.prog.info? 113).map (λi=>(i.zero,i.size,i.bytes))=A (A (ac #[J Q 0,J Q 0,J au 0]),3,24):=by kernel_rfl
theorem ziS(c p d:Int)(w:u):(gx 42 1 #[(0,ac #[J Q c,J Q p,J au d])]).run ω w=.ok (κ (A ⟨w.heap.size,0,G⟩) 1 1) (w.alloc (χ #[J Q c,J Q p,J au d] 113)):=by kernel_rfl
theorem zu2(x:Tp.In):∀ θ∈Tp.ics [x],θ.oneCell'=Γ:=λθ a=>by
 simp only[Tp.ics,bp,cz,gC] at a;rcases a with rfl|rfl|rfl <;> rfl
theorem zgO(w:u)(x:Tp.In)(t:aJ){b:Nat}(hb:b=w.heap.size):∀ j θ,(Tp.ics [x])[j]?=A θ->(w.alloc (χ #[J Q x.c,J Q x.p,J au x.d] t)).cell? ⟨b,j,G⟩=A θ:=λj θ a=>by
 subst hb;exact(Bx.new w [J Q x.c,J Q x.p,J au x.d] t (b:=w.heap.size) D).at j θ a
structure Tp.Pw (w : u) (s0 : List UInt8) (l : List Tp.In) (s : List UInt8) (v : π) (ι : u) : Prop where
 low:Below w.heap.size w ι
 fc:Tp.F ι
 row:ι.ownsRow w.heap.size 113 3 v l.length (Tp.ics l)
 eq:Tp.rdA (Tp.sp 10 s0) 0=Tp.aft l (Tp.rdA (Tp.sp 10 s) l.length)
 ok:∀ x∈l,x.ok
 len:s.length+l.length<=s0.length
theorem Tp.Pw.kept{w:u}{s0:List UInt8}{l:List Tp.In}{s:List UInt8}{v:π}{ι Y':u}(h:Tp.Pw w s0 l s v ι)(hb:Below ι.heap.size ι Y'):Tp.Pw w s0 l s v Y' :=
 ⟨bw h.low hb,h.fc.kept hb,zeb h.row hb,h.eq,h.ok,h.len⟩
theorem zqu{s0 s:List UInt8}{l:List Tp.In}(h:Tp.rdA (Tp.sp 10 s0) 0=Tp.aft l (Tp.rdA (Tp.sp 10 s) l.length))(a:¬ 4000<s0.length)(b:Tp.rdA (Tp.sp 10 s) l.length=.error l.length):Tp.prsL s0=[]/\Tp.prsN s0=l.length/\Tp.prsE s0=1:=by
 rw[b] at h;unfold Tp.prsL Tp.prsN Tp.prsE;rw[ae a,ae a,ae a,h];exact⟨D,D,D⟩
theorem zoX{s:List UInt8}{i:Nat}(h:(10:UInt8) ∉ s)(a:s≠[]):Tp.rdA (Tp.sp 10 s) i=.error i:=by
 rw[yx 10 s h,Tp.rdA,ae a]
theorem zu3{θ r:List UInt8}{i:Nat}(h:(10:UInt8) ∉ θ)(a:Tp.rd θ=G):Tp.rdA (Tp.sp 10 (θ++10::r)) i=.error i:=by
 rw[vW 10 r θ h];cases b:Tp.sp 10 r with
 | nil=>exact absurd b (A2 _ _)
 | cons t c=>exact zu1 a
theorem zu4{θ r:List UInt8}{i:Nat}{x:Tp.In}(h:(10:UInt8) ∉ θ)(a:Tp.rd θ=A x):Tp.rdA (Tp.sp 10 (θ++10::r)) i=Tp.aft [x] (Tp.rdA (Tp.sp 10 r) (i+1)):=by
 rw[vW 10 r θ h];cases b:Tp.sp 10 r with
 | nil=>exact absurd b (A2 _ _)
 | cons t c=>exact ziQ a
theorem Tp.Pw.next{w:u}{s0:List UInt8}{l:List Tp.In}{θ r:List UInt8}{x:Tp.In}{v v':π}{ι Y':u}(h:Tp.Pw w s0 l (θ++10::r) v ι)(c:(10:UInt8) ∉ θ)(b:Tp.rd θ=A x)(hb:Below w.heap.size ι Y')(d:Tp.F Y')(a:Y'.ownsRow w.heap.size 113 3 v' (l.length+1) (Tp.ics l++Tp.ics [x])):Tp.Pw w s0 (l++[x]) r v' Y':=by
 refine⟨h.low.trans hb,d,?_,?_,λy f=>?_,?_⟩
 ·rw[az,ziR];exact a
 ·rw[h.eq,zu4 c b,zr5,az];rfl
 ·rcases cO.1 f with e|e
  ·exact h.ok y e
  ·rw[dD] at e;subst e;exact(Tp.rd_some b).2
 ·have:=h.len
  simp only[az,cy,fY] at this ⊢;omega
theorem Tp.Pw.done{w:u}{s0:List UInt8}{l:List Tp.In}{v:π}{ι:u}(h:Tp.Pw w s0 l [] v ι)(a:¬ 4000<s0.length):Tp.prsL s0=(if Tp.chkIn l 0=0 then l else [])/\Tp.prsN s0=0/\Tp.prsE s0=Tp.chkIn l 0:=by
 have e:Tp.rdA (Tp.sp 10 s0) 0=.ok l:=by rw[h.eq];simp[Tp.sp,Tp.rdA,Tp.aft]
 unfold Tp.prsL Tp.prsN Tp.prsE;rw[ae a,ae a,ae a,e];exact⟨D,D,D⟩
theorem zgP(l:List UInt8):(mk l).toList.isEmpty=l.isEmpty:=by rw[yc]
theorem zmu(s:List UInt8)(w:u)(R:Tp.F w):Δ ω 45 #[Ω (mk s)] w λe w'=>∃ v,e=μ (Ψ #[v,J Q (Tp.prsN s),J Q (Tp.prsE s)])/\w'.ownsRow w.heap.size 113 3 v (Tp.prsL s).length (Tp.ics (Tp.prsL s))/\(∀ x∈Tp.prsL s,x.ok)/\Below w.heap.size w w':=by
 by_cases N:4000<s.length
 ·have e1:Tp.prsL s=[]:=am N
  have e2:Tp.prsN s=0:=am N;have e3:Tp.prsE s=2:=am N;rw[e1,e2,e3];have Z:(4000:Int)<(mk s).size:=by show (4000:Int)<s.length;omega
  clear e1 e2 e3 R;go_enter func45,ntmps45;go_wp2
  go_ret3
  exact⟨_,D,⟨D,aj ⟨D,D⟩⟩,λx o=>(by cases o),aR w⟩
 ·have Z:¬ (4000:Int)<(mk s).size:=by show ¬ (4000:Int)<s.length;omega
  have z:=hid N;have W:bG (Tp.Pw w s [] s (κ G 0 0) w):=hid ⟨aR w,R,⟨D,aj ⟨D,D⟩⟩,by cases Tp.rdA (Tp.sp 10 s) 0 <;> rfl,λx o=>(by cases o),by simp⟩;clear R;go_enter func45,ntmps45;go_wp2;go_loopw [0,2] (λt v wr=>∃(l:List Tp.In) (r:List UInt8),t=Ω (mk r)/\Tp.Pw w s l r v wr) (λt _ _=>match t with | Ω b=>b.size|_=>0)
  case atStart=>exact⟨[],s,D,W.out⟩
  case round =>
   obtain⟨l,r,rfl,E⟩:=hrel;have n:=hid E;obtain⟨ra,rc,rfl⟩:=tR E.row;have X:=E.len;by_cases T:r=[]
   ·subst T
    obtain⟨e1,e2,e3⟩:=E.done z.out;have j:=hid (dU e1 (dU e2 e3));have U:(mk ([]:List UInt8)).toList.isEmpty=Γ:=by rw[zgP];rfl
    clear E e1 e2 e3;have H:=hid (Tp.checkInputs l (κ ra l.length rc) wr.heap.size 0 wr (zmt n.out.row) (ψ _));by_cases hc:Tp.chkIn l 0=0
    ·have P:=hid hc
     rw[hc] at H;clear hc;go_wp2_with (go_at_call 57;refine H.out.mono ?_;rintro e w1 ⟨rfl,a⟩;have B:=hid a;clear a)
     go_ret3
     rw[j.out.1,j.out.2.1,j.out.2.2,am P.out,P.out];exact⟨_,D,zeb n.out.row B.out,n.out.ok,bw n.out.low B.out⟩
    ·have P:=hid hc
     have hne:(Tp.chkIn l 0 != 0)=Γ:=by simpa using hc
     generalize hce:Tp.chkIn l 0=ce at *;clear hc;go_wp2_with (go_at_call 57;refine H.out.mono ?_;rintro e w1 ⟨rfl,a⟩;have B:=hid a;clear a)
     go_ret3
     rw[j.out.1,j.out.2.1,j.out.2.2,ae P.out];exact⟨_,D,⟨D,aj ⟨D,D⟩⟩,λx o=>(by cases o),bw n.out.low B.out⟩
   ·have U:(mk r).toList.isEmpty=ξ:=by rw[zgP];cases r with|nil=>exact absurd rfl T|cons _ _=>rfl
    have m:=hid (zr7 r [10] (by have:=z.out;omega) wr n.out.fc);by_cases h10:(10:UInt8)∈r
    ·obtain⟨θ,q,rfl,L⟩:=zU 10 r h10
     rw[zuX 10 θ q L] at m;have HU:=hid L;have hul:θ.length+q.length+1=(θ++10::q).length:=by simp;omega
     cases f:Tp.rd θ with
     | none =>
      have k:bG (∀ w1,Tp.F w1->Δ ω 81 #[Ω (mk θ)] w1 λe w'=>e=μ (Ψ #[ac #[J Q 0,J Q 0,J au 0],J Q 1])/\Below w1.heap.size w1 w'):=hid (λw1 h1=>by have y:=zb9 θ (by have:=z.out;omega) w1 h1;rw[f] at y;exact y);obtain⟨e1,e2,e3⟩:=zqu n.out.eq z.out (zu3 L f);have j:=hid (dU e1 (dU e2 e3));clear E e1 e2 e3 L f h10;go_wp2_with (first
       | (go_at_call 53;refine m.out.mono ?_;rintro e w1 ⟨rfl,a⟩;have g:=hid (n.out.kept a);clear a)
       | (go_at_call 81;refine(k.out _ g.out.fc).mono ?_;rintro e w2 ⟨rfl,h⟩;have i:=hid (g.out.kept h);clear h))
      go_ret3
      rw[j.out.1,j.out.2.1,j.out.2.2];exact⟨_,D,⟨D,aj ⟨D,D⟩⟩,λx o=>(by cases o),stA i.out.low _⟩
     | some x =>
      have k:bG (∀ w1,Tp.F w1->Δ ω 81 #[Ω (mk θ)] w1 λe w'=>e=μ (Ψ #[ac #[J Q x.c,J Q x.p,J au x.d],J Q 0])/\Below w1.heap.size w1 w'):=hid (λw1 h1=>by have y:=zb9 θ (by have:=z.out;omega) w1 h1;rw[f] at y;exact y);have V:=hid f;have rb:=ziS x.c x.p x.d;clear E L f h10;go_wp2_with (first
       | (go_at_call 53;refine m.out.mono ?_;rintro e w1 ⟨rfl,a⟩;have g:=hid (n.out.kept a);clear a)
       | (go_at_call 81;refine(k.out _ g.out.fc).mono ?_;rintro e w2 ⟨rfl,h⟩;have i:=hid (g.out.kept h);clear h)
       | (at_builtin;refine Tp.appOne underlying42 zoW D (by omega) (by rfl) _ _ (by rfl) (by rfl) (i.out.kept (stA (stA (aR w2) _) _)).row _ _ (by rfl) (ys:=Tp.ics [x]) D (zgO _ x _ (by simp)) (zu2 x) (by have:=z.out;omega) (by have:=z.out;omega) (i.out.kept (stA (stA (aR w2) _) _)).low.size ?_;intro v' w' I M))
      have hP:=(i.out.kept (stA (stA (aR w2) _) _)).next HU.out V.out M (W.out.fc.kept ((i.out.kept (stA (stA (aR w2) _) _)).low.trans M)) I;refine⟨⟨l++[x],q,D,hP⟩,?_⟩;show q.length<(θ++10::q).length;omega
    ·rw[zuY 10 r h10] at m
     obtain⟨e1,e2,e3⟩:=zqu n.out.eq z.out (zoX h10 T);have j:=hid (dU e1 (dU e2 e3));clear E e1 e2 e3;cases f:Tp.rd r with
     | none =>
      have k:bG (∀ w1,Tp.F w1->Δ ω 81 #[Ω (mk r)] w1 λe w'=>e=μ (Ψ #[ac #[J Q 0,J Q 0,J au 0],J Q 1])/\Below w1.heap.size w1 w'):=hid (λw1 h1=>by have y:=zb9 r (by have:=z.out;omega) w1 h1;rw[f] at y;exact y);clear f;go_wp2_with (first
       | (go_at_call 53;refine m.out.mono ?_;rintro e w1 ⟨rfl,a⟩;have g:=hid (n.out.kept a);clear a)
       | (go_at_call 81;refine(k.out _ g.out.fc).mono ?_;rintro e w2 ⟨rfl,h⟩;have i:=hid (g.out.kept h);clear h))
      go_ret3
      rw[j.out.1,j.out.2.1,j.out.2.2];exact⟨_,D,⟨D,aj ⟨D,D⟩⟩,λx o=>(by cases o),stA i.out.low _⟩
     | some x =>
      have k:bG (∀ w1,Tp.F w1->Δ ω 81 #[Ω (mk r)] w1 λe w'=>e=μ (Ψ #[ac #[J Q x.c,J Q x.p,J au x.d],J Q 0])/\Below w1.heap.size w1 w'):=hid (λw1 h1=>by have y:=zb9 r (by have:=z.out;omega) w1 h1;rw[f] at y;exact y);clear f;go_wp2_with (first
       | (go_at_call 53;refine m.out.mono ?_;rintro e w1 ⟨rfl,a⟩;have g:=hid (n.out.kept a);clear a)
       | (go_at_call 81;refine(k.out _ g.out.fc).mono ?_;rintro e w2 ⟨rfl,h⟩;have i:=hid (g.out.kept h);clear h))
      go_ret3
      rw[j.out.1,j.out.2.1,j.out.2.2];exact⟨_,D,⟨D,aj ⟨D,D⟩⟩,λx o=>(by cases o),stA i.out.low _⟩
def Tp.Rw(w:u)(v:π)(n z:Nat)(xs:List π):Prop:=xs.length=n*z/\((n=0 /\ ∃ a c,v=κ a 0 c) \/ ∃ g o b,v=κ (A ⟨g,o,G⟩) n b/\n<=b/\g<w.heap.size /\ ∀ j x,xs[j]?=A x->w.cell? ⟨g,o+j,G⟩=A x)
section
variable {w w1 : u} {v : π} {n z B : Nat} {xs : List π} {t : aJ}
theorem Tp.Rw.kept(h:Tp.Rw w v n z xs)(hb:Below w.heap.size w w1):Tp.Rw w1 v n z xs:=by
 obtain⟨b,h|⟨g,o,a,h1,h2,h3,h4⟩⟩:=h
 ·exact⟨b,aj h⟩
 ·exact⟨b,ao ⟨g,o,a,h1,h2,Θ h3 hb.size,λj x c=>(hb.cell (p:=⟨g,o+j,G⟩) h3).trans (h4 j x c)⟩⟩
theorem Tp.Rw.len(h:Tp.Rw w v n z xs):∃ a c,v=κ a n c:=by
 obtain⟨_,⟨b,a,c,h1⟩|⟨g,o,d,h1,_⟩⟩:=h
 ·exact⟨a,c,by rw[b];exact h1⟩
 ·exact⟨_,_,h1⟩
end
theorem Tp.Rw.range{w:u}{v:π}{n z:Nat}{xs:List π}(h:Tp.Rw w v n z xs){i:Nat}(hi:i<n){row:List π}(b:∀(j:Nat) (θ:π),row[j]?=A θ->xs[i*z+j]?=A θ):∃ g o a,v=κ (A ⟨g,o,G⟩) n a/\g<w.heap.size/\w.rangeAt g (o+i*z) row:=by
 obtain⟨_,⟨d,_⟩|⟨g,o,a,h1,h2,h3,h4⟩⟩:=h
 ·omega
 ·exact⟨g,o,a,h1,h3,λj θ c=>by rw[dS];exact h4 _ _ (b j θ c)⟩
theorem zmv{P:bX}{w:u}{t:aJ}{xs ys:Array π}(h:(fG .eql t (ac xs) (ac ys)).run P w=.ok (ν Γ) w):(fG .neq t (ac xs) (ac ys)).run P w=.ok (ν ξ) w:=by
 rw[dK] at h;rw[qc]
 revert h
 generalize bL P (Op.equalIn 10000 t _ _) w=r;intro h;cases r with
 | ok b w' =>
  have e:Result.ok (Value.bool b) w'=.ok (ν Γ) w:=h
  injection e with e1 e2
  injection e1 with e3
  subst e3 e2;rfl
 | _=>cases h
theorem zfF{P:bX}{a:Act}{o:cG}{w:u}(ty:aJ)(x:dk)(d:o.op=.load ty x)(b off:Nat)(e:a.eval x=aB (A ⟨b,off,G⟩))(cs:List π)(θ:TypeDesc)(hc:w.rangeAt b off cs)(f:P.underlying ty=A θ)(c:θ.isRow=Γ)(hi:(P.info? ty).map (·.size)=A cs.length):(execOp a.eval o).run P w=.ok (.value (ac cs.toArray)) w:=by
 unfold execOp;simp only[d,e,iB,run_loadAt_mid w b off ty cs θ hc f c hi,fQ,i7]
theorem zxn(c a v:Int)(w:u):(fG .eql 113 (ac #[J Q c,J Q a,J au v]) (ac #[J Q c,J Q a,J au v])).run ω w=.ok (ν Γ) w:=by
 have u3:=underlying3;have x3:=isAgg3;have z3:=sizeOf3;have d:=underlying5;have e:=isAgg5;have z5:=sizeOf5;have b:Tryz.prog.underlying 113=A (.struct (Tryz.prog.fieldsOf 113)):=by kernel_rfl
 have hp:Tryz.prog.stoodInHeld 113=ξ:=by kernel_rfl
 rw[dK,show (10000:Nat)=9999+1 from D,eI w 9999 113 _ _ b hp];simp only[Program.fieldsOf,underlying113];go_simp
theorem zxo(x:Tp.In)(w:u):(fG .neq 113 (ac (Tp.ics [x]).toArray) (ac (Tp.ics [x]).toArray)).run ω w=.ok (ν ξ) w:=zmv (zxn x.c x.p x.d w)
theorem zfi:∀(l:List Tp.In) (i:Nat) (x:Tp.In),l[i]?=A x->∀(j:Nat) (v:π),(Tp.ics [x])[j]?=A v->(Tp.ics l)[i*3+j]?=A v
 | [],i,x,h=>by simp at h
 | y::l,0,x,h=>λj v a=>by
  simp only[bv,aZ] at h;subst h;rw[i8,aX]
  match j,a with
  | 0,a=>exact a
  | 1,a=>exact a
  | 2,a=>exact a
  | j+3,a=>simp[Tp.ics] at a
 | y::l,i+1,x,h=>λj v a=>by
  rw[bN] at h;have:=zfi l i x h j v a;rw[show (i+1)*3+j=i*3+j+1+1+1 by omega];exact this
theorem zfj:∀ l:List Tp.In,(Tp.ics l).length=l.length*3
 | []=>rfl
 | x::l=>by simp only[Tp.ics,cy,zfj l];omega
theorem Tp.InAt.rw{B:Nat}{w:u}{v:π}{l:List Tp.In}(h:Tp.InAt B w v l):Tp.Rw w v l.length 3 (Tp.ics l):=by
 rcases h with⟨rfl,a,c,rfl⟩|⟨g,o,d,h1,h2,h3,h4,i⟩
 ·exact⟨D,aj ⟨D,a,c,D⟩⟩
 ·refine⟨zfj l,ao ⟨g,o,d,h1,h2,h4,λj θ b=>?_⟩⟩
  have k:j<l.length*3:=by rw[<- zfj];exact(ay.1 b).1
  obtain⟨x,f⟩:∃ x,l[j/3]?=A x:=⟨_,aq (by omega)⟩
  obtain⟨q1,m,n⟩:=zgN l (j/3) x f;obtain⟨c1,c2,c3⟩:=i (j/3) x f;have p:j%3=0 \/ j%3=1 \/ j%3=2:=by omega
  rcases p with e|e|e
  ·rw[show j=3*(j/3) by omega] at b ⊢
   rw[q1] at b;rw[<- b];exact c1
  ·rw[show j=3*(j/3)+1 by omega] at b ⊢
   rw[m] at b;rw[<- b,<- dS];exact c2
  ·rw[show j=3*(j/3)+2 by omega] at b ⊢
   rw[n] at b;rw[<- b,<- dS];exact c3
theorem zgQ:(Tryz.prog.info? 113).map (·.size)=A 3:=by kernel_rfl
theorem Tp.sameIn(f v2:π)(l:List Tp.In)(w:u)(h1:Tp.Rw w f l.length 3 (Tp.ics l))(h2:Tp.Rw w v2 l.length 3 (Tp.ics l))(t:l.length<=1000000):Δ ω 47 #[f,v2] w λe w'=>e=μ (ν Γ)/\Below w.heap.size w w':=by
 obtain⟨a1,k1,e1⟩:=h1.len;obtain⟨a2,k2,e2⟩:=h2.len;subst e1 e2;have m:=hid h1;have n:=hid h2;clear h1 h2;go_enter func47,ntmps47;go_wp2;go_loopw [13] (λi wr=>∃ j:Nat,j<=l.length/\i=J Q j/\Below w.heap.size w wr) (λi _=>l.length-(aU i).toNat)
 case atStart=>exact⟨0,bh _,D,aR w⟩
 case round =>
  obtain⟨j,v,rfl,hb⟩:=hrel;have g:=hid hb;by_cases b:j<l.length
  ·have h:(j:Int)<l.length:=by omega
   have o:(0:Int)<=j:=by omega
   have p:(j:Int)<1000000:=by omega
   obtain⟨x,d⟩:∃ x,l[j]?=A x:=⟨_,aq b⟩
   obtain⟨g1,o1,c1,q1,y,r1⟩:=(m.out.kept hb).range b (zfi l j x d);obtain⟨k,o2,c2,q,z2,r2⟩:=(n.out.kept hb).range b (zfi l j x d);cases q1;cases q;have r:=zxo x;clear hb d;go_upto_region 6 with fail
   refine wp_region_held_drew (S:=λw'=>w'.rangeAt g1 (o1+j*3) (Tp.ics [x])/\w'.rangeAt k (o2+j*3) (Tp.ics [x])) (by kernel_rfl) ⟨r1,r2⟩ ?_;intro a;refine dy 0 ⟨A 16,_,_,_,_,G⟩ a ?_;simp only[ag,xA,xB,xC];refine dy 1 ⟨A 17,_,_,_,_,G⟩ a ?_;simp only[ag,xA,xB,xC];refine dy 2 ⟨A 18,_,_,_,_,G⟩ a ?_;simp only[ag,xA,xB,xC];refine jW 3 (ac (Tp.ics [x]).toArray) D (λw' c=>zfF 113 _ D g1 (o1+j*3) D (Tp.ics [x]) _ c.1 underlying113 D zgQ) a ?_;refine dy 4 ⟨A 20,_,_,_,_,G⟩ a ?_;simp only[ag,xA,xB,xC];refine dy 5 ⟨A 21,_,_,_,_,G⟩ a ?_;simp only[ag,xA,xB,xC];refine dy 6 ⟨A 22,_,_,_,_,G⟩ a ?_;simp only[ag,xA,xB,xC];refine jW 7 (ac (Tp.ics [x]).toArray) D (λw' c=>zfF 113 _ D k (o2+j*3) D (Tp.ics [x]) _ c.2 underlying113 D zgQ) a ?_;refine dy 8 ⟨A 24,_,_,_,_,G⟩ a ?_;simp only[ag,xA,xB,xC];refine wpAnyH_done (by kernel_rfl) ?_ _;clear a r1 r2;go_wp2;exact⟨⟨j+1,by omega,by simp,g.out.drew⟩,by simp[aU];omega⟩
  ·have s:¬ (j:Int)<l.length:=by omega
   clear hb;go_wp2;go_ret;exact⟨D,g.out⟩
def Tp.r16(f:Nat->Int):List π:=[J au (f 0),J au (f 1),J au (f 2),J au (f 3),J au (f 4),J au (f 5),J au (f 6),J au (f 7),J au (f 8),J au (f 9),J au (f 10),J au (f 11),J au (f 12),J au (f 13),J au (f 14),J au (f 15)]
theorem ziT(f:Nat->Int):(Tp.r16 f).length=16:=rfl
structure Tp.Ln where
 f:Int
 l:Int
 px:Nat->Int
def Tp.lnC(x:Tp.Ln):List π:=J Q x.f :: J Q x.l::Tp.r16 x.px
theorem A4(x:Tp.Ln):(Tp.lnC x).length=18:=rfl
def Tp.lncs:List Tp.Ln->List π
 | []=>[]
 | x::l=>Tp.lnC x++Tp.lncs l
def Tp.pxs:List (Nat->Int)->List π
 | []=>[]
 | x::l=>Tp.r16 x++Tp.pxs l
theorem ziU:∀ l k:List (Nat->Int),Tp.pxs (l++k)=Tp.pxs l++Tp.pxs k
 | [],k=>rfl
 | x::l,k=>by rw[cV,Tp.pxs,ziU l k,Tp.pxs,bK]
theorem zec:∀(l:List Tp.Ln) (i:Nat) (x:Tp.Ln),l[i]?=A x->∀(j:Nat) (v:π),(Tp.lnC x)[j]?=A v->(Tp.lncs l)[i*18+j]?=A v
 | [],i,x,h=>by simp at h
 | y::l,0,x,h=>λj v a=>by
  simp only[bv,aZ] at h;subst h;have b:j<(Tp.lnC y).length:=(ay.1 a).1;rw[i8,aX,Tp.lncs,bc b];exact a
 | y::l,i+1,x,h=>λj v a=>by
  rw[bN] at h;have:=zec l i x h j v a;rw[Tp.lncs,aY (by rw[A4];omega),A4,show (i+1)*18+j-18=i*18+j by omega];exact this
theorem ziV:∀(l:List (Nat->Int)) (i:Nat) (x:Nat->Int),l[i]?=A x->∀(j:Nat) (v:π),(Tp.r16 x)[j]?=A v->(Tp.pxs l)[i*16+j]?=A v
 | [],i,x,h=>by simp at h
 | y::l,0,x,h=>λj v a=>by
  simp only[bv,aZ] at h;subst h;have b:j<(Tp.r16 y).length:=(ay.1 a).1;rw[i8,aX,Tp.pxs,bc b];exact a
 | y::l,i+1,x,h=>λj v a=>by
  rw[bN] at h;have:=ziV l i x h j v a;rw[Tp.pxs,aY (by rw[ziT];omega),ziT,show (i+1)*16+j-16=i*16+j by omega];exact this
def Tp.pick(fr:Int):List Tp.Ln->List (Nat->Int)->List (Nat->Int)
 | [],acc=>acc
 | x::l,acc=>Tp.pick fr l (if x.f=fr/\x.l=acc.length then acc++[x.px] else acc)
theorem zoY{fr:Int}{x:Tp.Ln}{l:List Tp.Ln}{acc:List (Nat->Int)}(h:x.f=fr/\x.l=acc.length):Tp.pick fr (x::l) acc=Tp.pick fr l (acc++[x.px]):=by rw[Tp.pick,am h]
theorem zfk{fr:Int}{x:Tp.Ln}{l:List Tp.Ln}{acc:List (Nat->Int)}(h:¬ (x.f=fr/\x.l=acc.length)):Tp.pick fr (x::l) acc=Tp.pick fr l acc:=by rw[Tp.pick,ae h]
theorem zmw{α:Type}{l:List α}{j:Nat}{x:α}(h:l[j]?=A x):l.drop j=x::l.drop (j+1):=by
 obtain⟨a,e⟩:=ay.1 h;rw[dx a,e]
theorem zV:(Tryz.prog.info? 68).map (·.size)=A 18:=by kernel_rfl
theorem A5:(Tryz.prog.info? 66).map (·.size)=A 16:=by kernel_rfl
theorem zoZ:(Tryz.prog.info? 66).map (λi=>(i.zero,i.size,i.bytes))=A (A (ac (Tp.r16 (λ_=>0)).toArray),16,16):=by kernel_rfl
theorem Tp.sz16:(Value.agg (Tp.r16 (λ_=>0)).toArray).cells.size=16:=by kernel_rfl
theorem zgR(x:Tp.Ln):(Tp.lnC x).toArray.all (·.oneCell')=Γ:=all_oneCell_toArray λθ a=>by
 simp only[Tp.lnC,Tp.r16,bp,cz,gC] at a;rcases a with rfl|rfl|rfl|rfl|rfl|rfl|rfl|rfl|rfl|rfl|rfl|rfl|rfl|rfl|rfl|rfl|rfl|rfl <;> rfl
theorem zu5{W:u}{b:Nat}{L:List π}(h:Bx W b L)(vs:List π)(a:vs.length=L.length):Bx (W.setCells b 0 vs) b vs :=
 ⟨(h.puts 0 vs (by omega)).z,World.rangeAt_setCells_same W b 0 vs (h.there 0 vs.length (by omega)),(h.puts 0 vs (by omega)).f⟩
theorem zu6(f:Nat->Int):∀ θ∈Tp.pxs [f],θ.oneCell'=Γ:=λθ a=>by
 simp only[Tp.pxs,Tp.r16,cH,bp,cz,gC] at a;rcases a with rfl|rfl|rfl|rfl|rfl|rfl|rfl|rfl|rfl|rfl|rfl|rfl|rfl|rfl|rfl|rfl <;> rfl
theorem zr9(f:Nat->Int)(w:u):(gx 61 1 #[(0,ac (Tp.r16 f).toArray)]).run ω w=.ok (κ (A ⟨w.heap.size,0,G⟩) 1 1) (w.alloc (χ (Tp.r16 f).toArray 66)):=by kernel_rfl
theorem zsa{ops:Array cG}{rest:List cG}{o:cG}{a:Act}{w:u}{η:Exit->Act->u->Prop}(b:o.guard=G)(x:dk)(c:o.op=.buildSlice 61 1 #[(0,x)])(f:Nat->Int)(d:a.eval x=ac (Tp.r16 f).toArray)
 (h:dg ω ops η rest (a.put o.dst (κ (A ⟨w.heap.size,0,G⟩) 1 1)) (w.alloc (χ (Tp.r16 f).toArray 66))):dg ω ops η (o::rest) a w:=by
 refine gj b λK e=>?_
 have g:=zr9 f w;generalize Tp.r16 f=L at *;unfold Oper.wp;simp[execOp,c,d,g,aE];exact e _ _ h
theorem zo0(w:u)(f:Nat->Int)(t:aJ){b:Nat}(hb:b=w.heap.size):∀ j θ,(Tp.pxs [f])[j]?=A θ->(w.alloc (χ (Tp.r16 f).toArray t)).cell? ⟨b,j,G⟩=A θ:=λj θ a=>by
 subst hb;exact(Bx.new w (Tp.r16 f) t (b:=w.heap.size) D).at j θ (by simpa [Tp.pxs] using a)
theorem zW(w:u)(x:Tp.Ln)(t:aJ):Below w.heap.size w ((w.alloc (χ (Tp.lnC ⟨0,0,λ_=>0⟩).toArray t)).setCells w.heap.size 0 (Tp.lnC x))/\Bx ((w.alloc (χ (Tp.lnC ⟨0,0,λ_=>0⟩).toArray t)).setCells w.heap.size 0 (Tp.lnC x)) w.heap.size (Tp.lnC x) :=
 ⟨Pl.below (ψ _) _ 0 _ (stA (aR w) _),zu5 (Bx.new w (Tp.lnC ⟨0,0,λ_=>0⟩) t (b:=w.heap.size) rfl) (Tp.lnC x) (by rw[A4,A4])⟩
theorem zed(w:u)(t:aJ):(w.alloc (χ (Tp.lnC ⟨0,0,λ_=>0⟩).toArray t)).there w.heap.size 0 18:=(Bx.new w (Tp.lnC ⟨0,0,λ_=>0⟩) t (b:=w.heap.size) rfl).there 0 18 (by rw[A4];omega)
theorem zxp{V:u}{b:Nat}{x:Tp.Ln}(h:Bx V b (Tp.lnC x)):V.rangeAt b 2 (Tp.r16 x.px):=λj v a=>h.at (2+j) v (by rw[oN];exact a)
structure Tp.Fw (w : u) (fr : Int) (l : List Tp.Ln) (j : Nat) (acc : List (Nat -> Int)) (v : π) (ι : u) : Prop where
 low:Below w.heap.size w ι
 row:ι.ownsRow w.heap.size 66 16 v acc.length (Tp.pxs acc)
 eq:Tp.pick fr (l.drop j) acc=Tp.pick fr l []
 le:acc.length<=j
theorem Tp.Fw.kept{w:u}{fr:Int}{l:List Tp.Ln}{j:Nat}{acc:List (Nat->Int)}{v:π}{ι Y':u}(h:Tp.Fw w fr l j acc v ι)(hb:Below ι.heap.size ι Y'):Tp.Fw w fr l j acc v Y':=⟨bw h.low hb,zeb h.row hb,h.eq,h.le⟩
def Tp.frmL(fr:Int)(l:List Tp.Ln):List (Nat->Int):=if (Tp.pick fr l []).length=8 then Tp.pick fr l [] else []
def Tp.frmE(fr:Int)(l:List Tp.Ln):Int:=if (Tp.pick fr l []).length=8 then 0 else 5
theorem yy(v v2 v3:π)(l:List Tp.Ln)(fr:Int)(w:u)(h:Tp.Rw w v l.length 18 (Tp.lncs l))(R:l.length<=4398046511104):Δ ω 20 #[ac #[v,v2,v3],J Q fr] w λe w'=>∃ θ,e=μ (Ψ #[θ,J Q (Tp.frmE fr l)])/\w'.ownsRow w.heap.size 66 16 θ (Tp.frmL fr l).length (Tp.pxs (Tp.frmL fr l))/\Below w.heap.size w w':=by
 obtain⟨a1,k1,rfl⟩:=h.len;have H:=hid h;have s:=hid R;clear h R;go_enter func20,ntmps20;go_wp2;go_loopw [6,12] (λθ i wr=>∃(j:Nat) (acc:List (Nat->Int)),j<=l.length/\i=J Q j/\Tp.Fw w fr l j acc θ wr) (λ_ i _=>l.length-(aU i).toNat)
 case atStart=>exact⟨0,[],bh _,D,stA (aR w) _,⟨D,aj ⟨D,D⟩⟩,D,ψ _⟩
 case round =>
  obtain⟨j,acc,hj,rfl,b⟩:=hrel;have a:=hid b;have hle:=b.le;obtain⟨ua,uc,rfl⟩:=tR b.row;by_cases n:j<l.length
  ·have T:(j:Int)<l.length:=by omega
   have hj0:(0:Int)<=j:=by omega
   have hw1:wrap64 ((j:Int)+1)=(j:Int)+1:=by have:=s.out;unfold wrap64;omega
   have hw2:IntKind.i64.wrap ((j:Int)+1)=(j:Int)+1:=by have:=s.out;simp[IntKind.wrap,IntKind.bits,IntKind.signed];omega
   obtain⟨x,B⟩:∃ x,l[j]?=A x:=⟨_,aq n⟩
   obtain⟨g,o,c,q1,z1,r1⟩:=(H.out.kept b.low).range n (zec l j x B);cases q1;have E:=hid r1;have F:=hid (zmw B);clear b B r1;by_cases p:x.f=fr/\x.l=acc.length
   ·obtain⟨q1,I⟩:=p
    have t:=hid (dU q1 I);have U:(x.f == fr)=Γ:=by simpa using q1
    have t2:(x.l == (acc.length:Int))=Γ:=by simpa using I
    clear q1 I;go_wp2_with (first
     | (refine zsa D _ D x.px D ?_)
     | (refine wpList_load_mid D 68 _ D g (o+j*18) D (Tp.lnC x) _ E.out underlying68 D zV ?_)
     | (refine wpList_store_mid D 68 _ _ D wr.heap.size 0 (Tp.lnC x).toArray D D (zed wr _) zV (zgR x) ?_;refine Pl.cutL (λV=>Tp.Fw w fr l j acc (κ ua acc.length uc) V/\Bx V wr.heap.size (Tp.lnC x)) ⟨a.out.kept (zW wr x _).1,(zW wr x _).2⟩ ?_;rintro V ⟨p1,p2⟩;have d:=hid p1;have L:=hid p2;have W:=p2.at 0 (J Q x.f) D;have X:=p2.at 1 (J Q x.l) D;have Z:=p2.z;clear p1 p2)
     | (refine wpList_load_mid D 66 _ D wr.heap.size 2 D (Tp.r16 x.px) _ (zxp L.out) underlying66 D A5 ?_)
     | (at_builtin;have k:=hid (d.out.kept (stA (aR V) (χ (Tp.r16 x.px).toArray 66)));refine Tp.appOne (v:=κ ua acc.length uc) underlying61 zoZ Tp.sz16 (by decide) (by rfl) _ _ (by rfl) (by rfl) k.out.row V.heap.size 1 (by rfl) (ys:=Tp.pxs [x.px]) D (zo0 V x.px _ D) (zu6 x.px) (by have:=s.out;omega) (by have:=s.out;omega) k.out.low.size ?_;intro v' w' m M))
    refine⟨⟨j+1,acc++[x.px],by omega,by simp,k.out.low.trans M,?_,?_,?_⟩,by simp[aU];omega⟩
    ·rw[az,ziU];exact m
    ·rw[<- a.out.eq,F.out,zoY t.out]
    ·simp;omega
   ·have t:=hid p
    by_cases q1:x.f=fr
    ·have U:(x.f == fr)=Γ:=by simpa using q1
     have t2:(x.l == (acc.length:Int))=ξ:=by rw[jh];intro e;exact p ⟨q1,e⟩
     clear p q1;go_wp2_with (first
      | (refine wpList_load_mid D 68 _ D g (o+j*18) D (Tp.lnC x) _ E.out underlying68 D zV ?_)
      | (refine wpList_store_mid D 68 _ _ D wr.heap.size 0 (Tp.lnC x).toArray D D (zed wr _) zV (zgR x) ?_;refine Pl.cutL (λV=>Tp.Fw w fr l j acc (κ ua acc.length uc) V/\Bx V wr.heap.size (Tp.lnC x)) ⟨a.out.kept (zW wr x _).1,(zW wr x _).2⟩ ?_;rintro V ⟨p1,p2⟩;have d:=hid p1;have L:=hid p2;have W:=p2.at 0 (J Q x.f) D;have X:=p2.at 1 (J Q x.l) D;have Z:=p2.z;clear p1 p2))
     exact⟨⟨j+1,acc,by omega,by simp,d.out.low,d.out.row,by rw[<- a.out.eq,F.out,zfk t.out],by omega⟩,by simp[aU];omega⟩
    ·have U:(x.f == fr)=ξ:=by simpa using q1
     clear p q1;go_wp2_with (first
      | (refine wpList_load_mid D 68 _ D g (o+j*18) D (Tp.lnC x) _ E.out underlying68 D zV ?_)
      | (refine wpList_store_mid D 68 _ _ D wr.heap.size 0 (Tp.lnC x).toArray D D (zed wr _) zV (zgR x) ?_;refine Pl.cutL (λV=>Tp.Fw w fr l j acc (κ ua acc.length uc) V/\Bx V wr.heap.size (Tp.lnC x)) ⟨a.out.kept (zW wr x _).1,(zW wr x _).2⟩ ?_;rintro V ⟨p1,p2⟩;have d:=hid p1;have L:=hid p2;have W:=p2.at 0 (J Q x.f) D;have X:=p2.at 1 (J Q x.l) D;have Z:=p2.z;clear p1 p2))
     exact⟨⟨j+1,acc,by omega,by simp,d.out.low,d.out.row,by rw[<- a.out.eq,F.out,zfk t.out],by omega⟩,by simp[aU];omega⟩
  ·have N:j=l.length:=by omega
   subst N;have hnl:¬ (l.length:Int)<l.length:=by omega
   have y:Tp.pick fr l []=acc:=by rw[<- b.eq,fu];rfl
   have e1:Tp.frmL fr l=if acc.length=8 then acc else []:=by unfold Tp.frmL;rw[y]
   have e2:Tp.frmE fr l=if acc.length=8 then 0 else 5:=by unfold Tp.frmE;rw[y]
   by_cases q:acc.length=8
   ·rw[am q] at e1 e2
    have r:=hid (dU e1 e2);have P:((acc.length:Int) != 8)=ξ:=by rw[q];rfl
    clear b y e1 e2 q;go_wp2
    go_ret2
    rw[r.out.1,r.out.2];exact⟨_,D,a.out.row,a.out.low⟩
   ·rw[ae q] at e1 e2
    have r:=hid (dU e1 e2);have P:((acc.length:Int) != 8)=Γ:=by rw[mB];omega
    clear b y e1 e2 q;go_wp2
    go_ret2
    rw[r.out.1,r.out.2];exact⟨_,D,⟨D,aj ⟨D,D⟩⟩,a.out.low⟩
def Tp.blk(f:Nat):List (Int × Int):=[((f:Int),0),((f:Int),1),((f:Int),2),((f:Int),3),((f:Int),4),((f:Int),5),((f:Int),6),((f:Int),7)]
def Tp.blks:Nat->List (Int × Int)
 | 0=>[]
 | f+1=>Tp.blks f++Tp.blk f
theorem zsb(f i:Nat)(h:i<10):lh 0 0 0 (640*f+64*i)=if i<8 then A ((f:Int),(i:Int)) else G:=by
 have b:kA 0 0 (640*f+64*i:Nat)=0:=by unfold kA;omega
 have h1:lC 0 0 (640*f+64*i:Nat)=i:=by unfold lC;omega
 have h2:lS 0 0 0 (640*f+64*i:Nat)=f:=by unfold lS;omega
 unfold lh;rw[b,h1,h2];by_cases a:i<8
 ·rw[am ⟨D,by omega⟩,am a]
 ·rw[ae (λe=>by omega),ae a]
theorem zu7(f i:Nat):Beg 0 0 (640*f+64*i):=⟨by unfold kA;omega,by omega⟩
theorem vZ(f i:Nat)(h:i<10):gI 0 0 0 (640*f+64*(i+1))=gI 0 0 0 (640*f+64*i)++(if i<8 then [((f:Int),(i:Int))] else []):=by
 have e:640*f+64*(i+1)=640*f+64*i+64:=by omega
 rw[e,(zxa (f:=0) (zu7 f i)).2,zsb f i h];split <;> rfl
theorem zke(f:Nat):gI 0 0 0 (640*(f+1))=gI 0 0 0 (640*f)++Tp.blk f:=by
 have e:640*(f+1)=640*f+64*(9+1):=by omega
 rw[e,vZ f 9 (by omega),vZ f 8 (by omega),vZ f 7 (by omega),vZ f 6 (by omega),vZ f 5 (by omega),vZ f 4 (by omega),vZ f 3 (by omega),vZ f 2 (by omega),vZ f 1 (by omega),vZ f 0 (by omega)];simp[Tp.blk]
theorem zdr:∀ f:Nat,gI 0 0 0 (640*f)=Tp.blks f
 | 0=>rfl
 | f+1=>by rw[zke,zdr f];rfl
theorem zgS:∀ f:Nat,(Tp.blks f).length=8*f
 | 0=>rfl
 | f+1=>by rw[Tp.blks,az,zgS f];simp[Tp.blk];omega
def Tp.ofLin(x:Lin):Tp.Ln:=⟨x.f,x.l,λi=>(x.px i:Int)⟩
theorem zee(fr:Int):∀(l k:List Tp.Ln) (acc:List (Nat->Int)),Tp.pick fr (l++k) acc=Tp.pick fr k (Tp.pick fr l acc)
 | [],k,acc=>rfl
 | x::l,k,acc=>by rw[cV,Tp.pick,Tp.pick,zee fr l k]
theorem zX(fr:Int):∀(l:List Tp.Ln) (acc:List (Nat->Int)),(∀ x∈l,x.f≠fr)->Tp.pick fr l acc=acc
 | [],acc,_=>rfl
 | x::l,acc,h=>by
  rw[zfk (λe=>h x (bO ..) e.1)];exact zX fr l acc (λy a=>h y (bV _ a))
theorem zo1(f:Nat)(l:List Tp.Ln)(h:l.map (λx=>(x.f,x.l))=Tp.blk f):(Tp.pick f l []).length=8:=by
 have a:l.length=8:=by have b:=congrArg gW h;simpa [Tp.blk] using b
 unfold Tp.blk at h
 match l,a with
 | [g,x1,x2,x3,i,j,k,m],_ =>
  simp only[cI,dQ,eF,gv,and_true] at h;obtain⟨⟨a0,b0⟩,⟨a1,b1⟩,⟨a2,b2⟩,⟨a3,b3⟩,⟨a4,b4⟩,⟨a5,b5⟩,⟨c,b6⟩,⟨d,e⟩⟩:=h;simp[Tp.pick,a0,b0,a1,b1,a2,b2,a3,b3,a4,b4,a5,b5,c,b6,d,e]
theorem zdO:∀(f:Nat) (p:Int × Int),p∈Tp.blks f->0<=p.1/\p.1<f
 | 0,p,h=>by simp[Tp.blks] at h
 | f+1,p,h=>by
  rw[Tp.blks] at h;rcases cO.1 h with h|h
  ·have:=zdO f p h;omega
  ·simp[Tp.blk] at h
   rcases h with rfl|rfl|rfl|rfl|rfl|rfl|rfl|rfl <;> simp <;> omega
theorem A6{l:List Tp.Ln}{ps:List (Int × Int)}(h:l.map (λx=>(x.f,x.l))=ps){x:Tp.Ln}(a:x∈l):(x.f,x.l)∈ps:=by
 rw[<- h];exact List.mem_map_of_mem a
theorem ziW:∀(F:Nat) (l:List Tp.Ln),l.map (λx=>(x.f,x.l))=Tp.blks F->∀ k,k<F->(Tp.pick k l []).length=8
 | 0,l,h,k,b=>by omega
 | F+1,l,h,k,b=>by
  rw[Tp.blks] at h;obtain⟨l1,l2,rfl,h1,h2⟩:=mJ.1 h;rw[zee];by_cases e:k=F
  ·subst e
   rw[zX _ l1 [] (λx a e=>by have:=(zdO k _ (A6 h1 a)).2;simp only at this;omega)];exact zo1 k l2 h2
  ·rw[zX _ l2 _ (λx a e=>by
    have c:=A6 h2 a;simp[Tp.blk] at c;omega)]
   exact ziW F l1 h1 k (by omega)
theorem ziX:∀ l:List Lin,Tp.lncs (l.map Tp.ofLin)=nj l
 | []=>rfl
 | x::l=>by
  rw[cI,Tp.lncs,ziX l];rfl
structure Tp.Pr (w : u) (L1 L2 : List π) (ι : u) : Prop where
 low:Below w.heap.size w ι
 b1:Bx ι w.heap.size L1
 b2:Bx ι (w.heap.size+1) L2
abbrev Tp.nil3:List π:=[κ G 0 0,κ G 0 0,κ G 0 0]
section
variable {w ι w1 : u} {L1 L2 : List π} {F : Fx} {N : Nat} {k : Cs} {vln vsm vw : π} {X : Mach}
theorem Tp.Pr.kept(h:Tp.Pr w L1 L2 ι)(hb:Below ι.heap.size ι w1):Tp.Pr w L1 L2 w1:=⟨bw h.low hb,h.b1.kept hb,h.b2.kept hb⟩
theorem Tp.Pr.start(w:u)(t t':aJ):Tp.Pr w (υ aD aP) Tp.nil3 ((w.alloc (χ (υ aD aP).toArray t)).alloc (χ #[κ G 0 0,κ G 0 0,κ G 0 0] t')) :=
 ⟨stA (stA (aR w) _) _,(Bx.new w (υ aD aP) t rfl).over _,Bx.new _ Tp.nil3 t' (by simp)⟩
theorem Tp.Pr.put1(h:Tp.Pr w (υ aD aP) L2 ι)(L:List π)(b:L.length=75):Tp.Pr w L L2 (ι.setCells w.heap.size 0 L):=by
 have a:=h.b1.puts 0 L (by rw[dG];omega);rw[mK _ _ (by rw[dG,b])] at a;exact⟨ni h.low (by omega) _ _,a,DW.bb h.b2 (by omega)⟩
theorem Tp.Pr.put2{x y z a b c:π}(h:Tp.Pr w L1 [x,y,z] ι):Tp.Pr w L1 [a,b,c] (ι.setCells (w.heap.size+1) 0 [a,b,c]):=by
 have d:=h.b2.puts 0 [a,b,c] (by simp);rw[mK _ _ (by simp)] at d;exact⟨ni h.low (by omega) _ _,DW.bb h.b1 (by omega),d⟩
structure Tp.Pz (w : u) (F : Fx) (N : Nat) (k : Cs) (vln vsm vw : π) (L1 L2 : List π) (ι : u) : Prop where
 pr:Tp.Pr w L1 L2 ι
 told:Told F N k vln vsm vw ι
 new:gA F.B F.S
 bz:w.heap.size+2<=F.B/\F.B<=N
theorem Tp.Pz.put1(h:Tp.Pz w F N k vln vsm vw (υ aD aP) L2 ι)(L:List π)(a:L.length=75):Tp.Pz w F N k vln vsm vw L L2 (ι.setCells w.heap.size 0 L) :=
 ⟨h.pr.put1 L a,h.told.far h.new (by have:=h.bz.1;omega) h.bz.2,h.new,h.bz⟩
theorem Tp.Pz.put2{x y z a b c:π}(h:Tp.Pz w F N k vln vsm vw L1 [x,y,z] ι):Tp.Pz w F N k vln vsm vw L1 [a,b,c] (ι.setCells (w.heap.size+1) 0 [a,b,c]) :=
 ⟨h.pr.put2,h.told.far h.new (by have:=h.bz.1;omega) h.bz.2,h.new,h.bz⟩
end
structure Tp.Pm (w : u) (b : Nat) (M : Mach) (S : Sl) (v : π) (l : List Inp) (ι : u) : Prop where
 pr:Tp.Pr w (υ aD aP) Tp.nil3 ι
 bx:Bx ι b (υ M S)
 sl:cf ι S M
 inp:bP w.heap.size ι v l
theorem Tp.Pm.mk0{w ι:u}{M:Mach}{S:Sl}{v:π}{l:List Inp}(h:Tp.Pr w (υ aD aP) Tp.nil3 ι)(c:cf ι S M)(hi:bP w.heap.size ι v l)(t:aJ):Tp.Pm w ι.heap.size M S v l ((ι.alloc (χ (υ aD aP).toArray t)).setCells ι.heap.size 0 (υ M S)):=by
 have a:=(Bx.new ι (υ aD aP) t (b:=ι.heap.size) D).puts 0 (υ M S) (by rw[dG,dG];omega);rw[mK _ _ (by rw[dG,dG])] at a;have hb:Below ι.heap.size ι ((ι.alloc (χ (υ aD aP).toArray t)).setCells ι.heap.size 0 (υ M S)):=ni (stA (aR ι) _) (ψ _) _ _;exact⟨h.kept hb,a,c.kept hb,hi.kept (hb.mono h.low.size)⟩
theorem zgT(l1 l2:List UInt8)(l v2 v:π)(f:Int)(w:u)(h1:sliceAt w l l1)(h2:sliceAt w v2 l2)(d:l1.length<=9223372036854775807)(g:l2.length<=9223372036854775807)(hc:¬ (l1.length<=1024/\l2.length<=1024)):Δ ω 19 #[l,v2,v,J Q f] w λe w'=>e=μ (Ψ #[ac (υ aD aP).toArray,ac Tp.nil3.toArray,J Q 2])/\Below w.heap.size w w':=by
 have a:=hid (Tp.Pr.start w 41 47);have p:=hid (zsc l1 l2 l v2 _ (h1.kept a.out.low) (h2.kept a.out.low) d g hc);clear h1 h2 d g hc;go_enter func19,ntmps19;go_wp2_with (first
  | (refine wpList_store_mid D 47 _ _ D (w.heap.size+1) 0 #[κ G 0 0,κ G 0 0,κ G 0 0] D D (h.out.b2.there 0 3 (by simp)) kX (by simp[bi]) ?_;refine Pl.cutL (Tp.Pr w (υ aD aP) Tp.nil3) h.out.put2 ?_;intro V o;have m:=hid o;clear o)
  | (refine wpList_store_mid D 41 _ _ D w.heap.size 0 (υ aD aP).toArray D D (i.out.b1.there 0 75 (by rw[dG];omega)) cn (iq _ _ vS) ?_;refine Pl.cutL (Tp.Pr w (υ aD aP) Tp.nil3) (i.out.put1 _ (dG _ _)) ?_;intro q j;have h:=hid j;clear j)
  | (refine wpList_store_mid D 41 _ _ D w1.heap.size 0 (υ aD aP).toArray D D ((Bx.new w1 (υ aD aP) _ (b:=w1.heap.size) D).there 0 75 (by rw[dG];omega)) cn (iq _ _ vS) ?_;refine Pl.cutL (Tp.Pr w (υ aD aP) Tp.nil3) (n.out.kept (ni (stA (aR w1) _) (ψ _) _ _)) ?_;intro r j;have i:=hid j;clear j)
  | (go_at_call 37;refine p.out.mono ?_;rintro e w1 ⟨rfl,k⟩;have n:=hid (a.out.kept k);clear k))
 refine Ξ (v:=Ψ #[ac (υ aD aP).toArray,ac Tp.nil3.toArray,J Q 2]) ?_ D ⟨D,m.out.low⟩;have l1:=run_loadVar_mid V w.heap.size 0 41 _ _ m.out.b1.c underlying41 D cn;have l2:=run_loadVar_mid V (w.heap.size+1) 0 47 _ _ m.out.b2.c underlying47 D kX;simp only[results,results19];simp;show (aE (bL ω (bC 41 ⟨w.heap.size,0,G⟩) V) _)=_;rw[l1];show (aE (bL ω (bC 47 ⟨w.heap.size+1,0,G⟩) V) _)=_;rw[l2];rfl
theorem zxs(l1 l2:List UInt8)(h1:l1.length<=1024)(h2:l2.length<=1024):∀ j,j<5->((dv l1 l2).byt j).length<=9223372036854775807:=by
 intro j a;have hc:j=0 \/ j=1 \/ j=2 \/ j=3 \/ j=4:=by omega
 rcases hc with rfl|rfl|rfl|rfl|rfl
 ·show l1.length<=_;omega
 ·show l2.length<=_;omega
 ·show (ai 128 (0:UInt8)).length<=_;simp
 ·show (ai 64 (0:UInt8)).length<=_;simp
 ·show (ai 256 (0:UInt8)).length<=_;simp
theorem Sv9{M:Mach}(h:M.fit):M.ok:={ h with main:=h.main }
theorem zZ(l1 l2:List UInt8)(h1:l1.length<=1024)(h2:l2.length<=1024):(dv l1 l2).fit/\(dv l1 l2).b=⟨0,0,ξ,0⟩/\(dv l1 l2).s.w=0/\(dv l1 l2).clock=0:=by
 have a:=AB _ _ (sD (dr l1 l2) 0) (sD (dr l1 l2) 1);have c:=zj0 l1 l2 h1 h2;exact⟨Mach.fit.of c { c with main:=a } ⟨D,D,D,D,D⟩ D ⟨D,D,D⟩ ⟨D,D⟩ (aj D),D,D,D⟩
theorem zeV(l1 l2:List UInt8)(r v2 v:π)(l:List Inp)(f:Int)(w:u)(h1:sliceAt w r l1)(h2:sliceAt w v2 l2)(d:l1.length<=1024)(g:l2.length<=1024)(j:bP w.heap.size w v l)(q:f<0 \/ 20<f):Δ ω 19 #[r,v2,v,J Q f] w λe w'=>e=μ (Ψ #[ac (υ aD aP).toArray,ac Tp.nil3.toArray,J Q 3])/\Below w.heap.size w w':=by
 have a:=hid (Tp.Pr.start w 41 47);have F:=hid (zK l1 l2 r v2 _ (h1.kept a.out.low) (h2.kept a.out.low) d g);have s:=hid j;have H:=hid (zZ l1 l2 d g);clear h1 h2 d g j;have I:(decide (f<0) || decide (20<f))=Γ:=by rcases q with h|h <;> simp[h]
 rcases q with q|q
 all_goals
  go_enter func19,ntmps19;go_wp2_with (first
  | (refine wpList_store_mid D 47 _ _ D (w.heap.size+1) 0 #[κ G 0 0,κ G 0 0,κ G 0 0] D D (k.out.b2.there 0 3 (by simp)) kX (by simp[bi]) ?_;refine Pl.cutL (Tp.Pr w (υ aD aP) Tp.nil3) k.out.put2 ?_;intro V E;have t:=hid E;clear E)
  | (refine wpList_store_mid D 41 _ _ D w.heap.size 0 (υ aD aP).toArray D D (m.out.pr.b1.there 0 75 (by rw[dG];omega)) cn (iq _ _ vS) ?_;refine Pl.cutL (Tp.Pr w (υ aD aP) Tp.nil3) (m.out.pr.put1 _ (dG _ _)) ?_;intro L n;have k:=hid n;clear n)
  | (refine wpList_store_mid D 41 _ _ D w1.heap.size 0 (υ (dv l1 l2) S1).toArray D D ((Bx.new w1 (υ aD aP) _ (b:=w1.heap.size) D).there 0 75 (by rw[dG];omega)) cn (iq _ _ (kC o.out)) ?_;refine Pl.cutL (Tp.Pm w w1.heap.size (dv l1 l2) S1 v l) (Tp.Pm.mk0 x.out o.out y.out _) ?_;intro M n;have m:=hid n;clear n)
  | (go_at_call 37;refine F.out.mono ?_;rintro e w1 ⟨S1,rfl,p,z,B,i⟩;have x:=hid (a.out.kept i);have o:=hid p;have y:=hid ((s.out.kept a.out.low).kept (i.mono a.out.low.size));clear p z B i))
  refine Ξ (v:=Ψ #[ac (υ aD aP).toArray,ac (Tp.nil3).toArray,J Q 3]) ?_ D ⟨D,t.out.low⟩;have l1:=run_loadVar_mid V w.heap.size 0 41 _ _ t.out.b1.c underlying41 D cn;have l2:=run_loadVar_mid V (w.heap.size+1) 0 47 _ _ t.out.b2.c underlying47 D kX;simp only[results,results19];simp;show (aE (bL ω (bC 41 ⟨w.heap.size,0,G⟩) V) _)=_;rw[l1];show (aE (bL ω (bC 47 ⟨w.heap.size+1,0,G⟩) V) _)=_;rw[l2];rfl
theorem zo2(l1 l2:List UInt8)(y v2 v:π)(l:List Inp)(f:Nat)(w:u)(h1:sliceAt w y l1)(h2:sliceAt w v2 l2)(g:l1.length<=1024)(h:l2.length<=1024)(m:bP w.heap.size w v l)(R:f<=20)(N:bS (dv l1 l2) l ((f:Int)*640)≠0):Δ ω 19 #[y,v2,v,J Q f] w λe w'=>e=μ (Ψ #[ac (υ aD aP).toArray,ac Tp.nil3.toArray,J Q (bS (dv l1 l2) l ((f:Int)*640))])/\Below w.heap.size w w':=by
 have a:=hid (Tp.Pr.start w 41 47);have T:=hid (zK l1 l2 y v2 _ (h1.kept a.out.low) (h2.kept a.out.low) g h);have z:=hid m;have B:=hid (zZ l1 l2 g h);have U:bG (∀ j,j<5->((dv l1 l2).byt j).length<=9223372036854775807):=hid (zxs l1 l2 g h);have E:=hid N;have X:¬ (f:Int)<0:=by omega
 have n:¬ (20:Int)<f:=by omega
 have Z:(f:Int)<=20:=by omega
 have hf3:0<=(f:Int):=by omega
 clear h1 h2 g h m;obtain⟨r,i⟩:∃ r,r=bS (dv l1 l2) l ((f:Int)*640):=⟨_,D⟩
 have F:bG (∀ W S,cf W S (dv l1 l2)->bP W.heap.size W v l->Δ ω 9 #[ac (υ (dv l1 l2) S).toArray,v,J Q ((f:Int)*640)] W λe w'=>e=μ (Ψ #[ac (υ aD aP).toArray,ac #[κ G 0 0,κ G 0 0,κ G 0 0],J Q r])/\Below W.heap.size W w'):=hid (λW S hs hi=>by
  rw[i];exact zfd (dv l1 l2) S v l ((f:Int)*640) W hs U.out (Sv9 B.out.1) hi (by omega) E.out)
 rw[<- i];clear i N R;go_enter func19,ntmps19;go_wp2_with (first
  | (refine wpList_store_mid D 47 _ _ D (w.heap.size+1) 0 #[κ G 0 0,κ G 0 0,κ G 0 0] D D (o.out.b2.there 0 3 (by simp)) kX (by simp[bi]) ?_;refine Pl.cutL (Tp.Pr w (υ aD aP) Tp.nil3) o.out.put2 ?_;intro V P;have H:=hid P;clear P)
  | (refine wpList_store_mid D 41 _ _ D w.heap.size 0 (υ aD aP).toArray D D (p.out.b1.there 0 75 (by rw[dG];omega)) cn (iq _ _ vS) ?_;refine Pl.cutL (Tp.Pr w (υ aD aP) Tp.nil3) (p.out.put1 _ (dG _ _)) ?_;intro Z3 q;have o:=hid q;clear q)
  | (go_at_call 9;refine(F.out _ _ d.out.sl (d.out.inp.mono d.out.pr.low.size)).mono ?_;rintro e w4 ⟨rfl,s⟩;have p:=hid (d.out.pr.kept s);clear s)
  | (refine wpList_load_mid D 41 _ D w1.heap.size 0 D (υ (dv l1 l2) S1) _ d.out.bx.c underlying41 D cn ?_)
  | (refine wpList_store_mid D 41 _ _ D w1.heap.size 0 (υ (dv l1 l2) S1).toArray D D ((Bx.new w1 (υ aD aP) _ (b:=w1.heap.size) D).there 0 75 (by rw[dG];omega)) cn (iq _ _ (kC t.out)) ?_;refine Pl.cutL (Tp.Pm w w1.heap.size (dv l1 l2) S1 v l) (Tp.Pm.mk0 I.out t.out L.out _) ?_;intro Z2 q;have d:=hid q;clear q)
  | (go_at_call 37;refine T.out.mono ?_;rintro e w1 ⟨S1,rfl,x,n,M,k⟩;have I:=hid (a.out.kept k);have t:=hid x;have L:=hid ((z.out.kept a.out.low).kept (k.mono a.out.low.size));clear x n M k))
 refine Ξ (v:=Ψ #[ac (υ aD aP).toArray,ac (Tp.nil3).toArray,J Q r]) ?_ D ⟨D,H.out.low⟩;have l1:=run_loadVar_mid V w.heap.size 0 41 _ _ H.out.b1.c underlying41 D cn;have l2:=run_loadVar_mid V (w.heap.size+1) 0 47 _ _ H.out.b2.c underlying47 D kX;simp only[results,results19];simp;show (aE (bL ω (bC 41 ⟨w.heap.size,0,G⟩) V) _)=_;rw[l1];show (aE (bL ω (bC 47 ⟨w.heap.size+1,0,G⟩) V) _)=_;rw[l2];rfl
theorem zo3{F:Fx}{N:Nat}{k:Cs}{vln vsm vw:π}{w:u}(h:Told F N k vln vsm vw w):(#[vln,vsm,vw]:Array π).all (·.oneCell')=Γ:=by
 obtain⟨a1,c1,rfl⟩:=tZ h.ln;obtain⟨a2,c2,rfl⟩:=tZ h.sm;obtain⟨a3,c3,rfl⟩:=tZ h.ws;exact lH _ _ _ _ _ _ _ _ _
def Tp.K(l1 l2:List UInt8)(l:List Inp)(f:Nat):Cs:=Cs.clocks ⟨⟨dv l1 l2,0,[]⟩,l,[],[]⟩ (f*640)
theorem zsd(l1 l2:List UInt8)(X v2 v:π)(l:List Inp)(f:Nat)(w:u)(h1:sliceAt w X l1)(h2:sliceAt w v2 l2)(j:l1.length<=1024)(k:l2.length<=1024)(o:bP w.heap.size w v l)(p:br w)(hd:∀ x∈l,0<=x.d/\x.d<=255)(hf:f<=20)(hc:Go.Proofs.YthghjlinhokimaaGreatDoor.chkIn l 0=0):Δ ω 19 #[X,v2,v,J Q f] w λe w'=>∃(F:Fx) (N:Nat) (vln vsm vw:π),e=μ (Ψ #[ac (υ (Tp.K l1 l2 l f).s.M F.S).toArray,ac #[vln,vsm,vw],J Q 0])/\Told F N (Tp.K l1 l2 l f) vln vsm vw w'/\Below w.heap.size w w':=by
 have g:=hid (Tp.Pr.start w 41 47);have HN:=hid (zK l1 l2 X v2 _ (h1.kept g.out.low) (h2.kept g.out.low) j k);have Z:=hid o;have h:=hid (zZ l1 l2 j k);have HSH:=hid p;have hf0:¬ (f:Int)<0:=by omega
 have q:¬ (20:Int)<f:=by omega
 have hf2:(f:Int)<=20:=by omega
 have hf3:0<=(f:Int):=by omega
 have r:bG (∀ W S,cf W S (dv l1 l2)->br W->bP W.heap.size W v l->Δ ω 9 #[ac (υ (dv l1 l2) S).toArray,v,J Q ((f:Int)*640)] W λe w'=>∃(F:Fx) (N:Nat) (vln vsm vw:π),e=μ (Ψ #[ac (υ (Tp.K l1 l2 l f).s.M F.S).toArray,ac #[vln,vsm,vw],J Q 0])/\Told F N (Tp.K l1 l2 l f) vln vsm vw w'/\W.heap.size<=F.B/\F.B<=N/\gA F.B F.S/\Below W.heap.size W w'):=hid (λW S hs hw hi=>by
  have h9:=AV (dv l1 l2) S v l (f*640) W hs hw hi hd h.out.1 (by rw[h.out.2.1];decide) (by rw[h.out.2.2.2];exact hc) (by rw[h.out.2.2.2];omega);rw[show ((f*640:Nat):Int)=(f:Int)*640 by push_cast;rfl] at h9;exact h9)
 clear h1 h2 j k o hf hc hd p;obtain⟨i,t⟩:∃ i,i=Tp.K l1 l2 l f:=⟨_,D⟩
 rw[<- t] at r ⊢;clear t;go_enter func19,ntmps19;go_wp2_with (first
  | (refine wpList_store_mid D 47 _ _ D (w.heap.size+1) 0 #[vln,vsm,vw] D D (y.out.pr.b2.there 0 3 (by simp)) kX HONE.out ?_;refine Pl.cutL (Tp.Pz w F N i vln vsm vw (υ i.s.M F.S) [vln,vsm,vw]) y.out.put2 ?_;intro V hV;have U:=hid hV;clear hV)
  | (refine wpList_store_mid D 41 _ _ D w.heap.size 0 (υ i.s.M F.S).toArray D D (m.out.pr.b1.there 0 75 (by rw[dG];omega)) cn (iq _ _ (kC m.out.told.sl)) ?_;refine Pl.cutL (Tp.Pz w F N i vln vsm vw (υ i.s.M F.S) Tp.nil3) (m.out.put1 _ (dG _ _)) ?_;intro Z3 E;have y:=hid E;clear E)
  | (go_at_call 9;refine(r.out _ _ a.out.sl (HSH.out.kept a.out.pr.low) (a.out.inp.mono a.out.pr.low.size)).mono ?_;rintro e w4 ⟨F,N,vln,vsm,vw,rfl,hT,H,I,L,P⟩;have HONE:=hid (zo3 hT);have m:bG (Tp.Pz w F N i vln vsm vw (υ aD aP) Tp.nil3 w4):=hid ⟨a.out.pr.kept P,hT,L,⟨ax (Nat.succ_le_of_lt a.out.pr.b2.z) H,I⟩⟩;clear hT H I L P)
  | (refine wpList_load_mid D 41 _ D w1.heap.size 0 D (υ (dv l1 l2) S1) _ a.out.bx.c underlying41 D cn ?_)
  | (refine wpList_store_mid D 41 _ _ D w1.heap.size 0 (υ (dv l1 l2) S1).toArray D D ((Bx.new w1 (υ aD aP) _ (b:=w1.heap.size) D).there 0 75 (by rw[dG];omega)) cn (iq _ _ (kC R.out)) ?_;refine Pl.cutL (Tp.Pm w w1.heap.size (dv l1 l2) S1 v l) (Tp.Pm.mk0 HR1.out R.out HI1.out _) ?_;intro Z2 E;have a:=hid E;clear E)
  | (go_at_call 37;refine HN.out.mono ?_;rintro e w1 ⟨S1,rfl,T,q,hn1,n⟩;have HR1:=hid (g.out.kept n);have R:=hid T;have HI1:=hid ((Z.out.kept g.out.low).kept (n.mono g.out.low.size));clear T q hn1 n))
 refine Ξ (v:=Ψ #[ac (υ i.s.M F.S).toArray,ac #[vln,vsm,vw],J Q 0]) ?_ D ⟨F,N,vln,vsm,vw,D,U.out.told,U.out.pr.low⟩;have l1:=run_loadVar_mid V w.heap.size 0 41 _ _ U.out.pr.b1.c underlying41 D cn;have l2:=run_loadVar_mid V (w.heap.size+1) 0 47 _ _ U.out.pr.b2.c underlying47 D kX;simp only[results,results19];simp;show (aE (bL ω (bC 41 ⟨w.heap.size,0,G⟩) V) _)=_;rw[l1];show (aE (bL ω (bC 47 ⟨w.heap.size+1,0,G⟩) V) _)=_;rw[l2];rfl
def Tp.one:Tp.In:=⟨10,1,129⟩
def Tp.oneT:List UInt8:=[49,48,32,49,32,117,46,46,46,46,46,46,116,10]
theorem zo4:ba 10=[49,48]:=by
 have h:=Lib.itoa_nonneg 10;rw[Lib.decDigits_two (by decide) (by decide)] at h;exact h
theorem zo7:ba 1=[49]:=by
 have h:=Lib.itoa_nonneg 1;rw[Lib.decDigits_one (by decide)] at h;exact h
theorem zef:Tp.text [Tp.one]=Tp.oneT:=by
 unfold Tp.text Tp.one;simp only[cI,dQ,jT,pa,cH,Tp.In.line];rw[zo4,zo7];rfl
theorem zmx:∀ x∈[Tp.one],x.ok:=λx a=>by
 rw[dD] at a;subst a;exact⟨by decide,by decide,by decide,by decide,by decide⟩
theorem zfl:Tp.chkIn [Tp.one] 0=0:=by decide
theorem zse:Tp.prsL Tp.oneT=[Tp.one]/\Tp.prsN Tp.oneT=0/\Tp.prsE Tp.oneT=0:=by
 have h:=zoU zmx (by rw[zef];decide) zfl;rw[zef] at h;exact h
theorem zu8(w:u)(x:Tp.In)(t:aJ){b:Nat}(hb:b=w.heap.size):Tp.Rw (w.alloc (χ #[J Q x.c,J Q x.p,J au x.d] t)) (κ (A ⟨b,0,G⟩) 1 1) 1 3 (Tp.ics [x]) :=
 ⟨D,ao ⟨b,0,1,D,ψ _,by subst hb;simp,λj θ a=>by rw[aX];exact zgO w x t hb j θ a⟩⟩
theorem Tp.taped(w:u)(b:Tp.F w):Δ ω 22 #[] w λe w'=>e=μ (ν Γ)/\Below w.heap.size w w':=by
 have p:=hid (zmu Tp.oneT w b);obtain⟨e1,e2,e3⟩:=zse;rw[e1,e2,e3] at p;have j:=hid b;have c:Tp.printS [Tp.one]=Tp.oneT:=by unfold Tp.printS;rw[am zfl];exact zef
 have k:bG (∀(v:π) (B:Nat) (W:u),Tp.InAt B W v [Tp.one]->B<=W.heap.size->Tp.F W->Δ ω 46 #[v] W λe w'=>e=μ (Ψ #[Ω (mk Tp.oneT),J Q 0])/\Below W.heap.size W w'):=hid (λv B W h hB b=>by
  have q:=zmn [Tp.one] v B W h hB zmx b;rw[c,zfl] at q;exact q)
 have r:((mk Tp.oneT).toList == [49,48,32,49,32,117,46,46,46,46,46,46,116,10])=Γ:=by rw[yc];rfl
 have rb:=ziS 10 1 129;clear b e1 e2 e3 c;go_enter func22,ntmps22;go_wp2_with (first
  | (go_at_call 45;refine p.out.mono ?_;rintro e w1 ⟨v,rfl,l,_,d⟩;obtain⟨a1,c1,rfl⟩:=tR l;have f:=hid (zmt l);have g:=hid d;clear l d)
  | (go_at_call 46;refine(k.out _ _ _ f.out (ψ _) (j.out.kept g.out)).mono ?_;rintro e w2 ⟨rfl,a⟩;have m:=hid (f.out.kept a);have n:=hid (bw g.out a);clear a)
  | (go_at_call 47;refine(Tp.sameIn _ _ [Tp.one] _ ((m.out.rw).kept (stA (aR w2) _)) (zu8 w2 Tp.one 113 D) (by decide)).mono ?_;rintro e s ⟨rfl,i⟩;have o:=hid (bw (stA n.out _) i);clear i))
 go_ret;exact⟨D,o.out⟩
theorem zo8(l1 l2:List UInt8)(l:List Inp)(f:Nat)(h1:l1.length<=1024)(h2:l2.length<=1024)(m:f<=20):(Tp.K l1 l2 l f).ln.map (λx=>(x.f,x.l))=Tp.blks f/\(Tp.K l1 l2 l f).sm.length=40*f/\(Tp.K l1 l2 l f).s.M.b.f=f:=by
 obtain⟨d,hb,h,i⟩:=zZ l1 l2 h1 h2;have e:BOk (dv l1 l2).b.l (dv l1 l2).b.a (dv l1 l2).b.f:=by rw[hb];exact⟨by decide,by decide,by decide,by decide,by decide,by decide⟩
 have hc:=counts_of (dv l1 l2) l (f*640) d e (by rw[hb];decide) (by omega) (zqt _ _);have j:=zR ⟨⟨dv l1 l2,0,[]⟩,l,[],[]⟩ e (by show (dv l1 l2).b.f<=19000;rw[hb];decide) (f*640) (by omega);refine⟨?_,?_,?_⟩
 ·have c:=hc.ln
  rw[hb] at c;rw[<- zdr,iw 640 f];exact c
 ·have c:=hc.sm
  rw[h] at c;have g:((Tp.K l1 l2 l f).sm.length:Int)=_:=c;by_cases k:f=0
  ·subst k
   rw[ae (by decide)] at g;omega
  ·rw[am (by push_cast;omega)] at g
   push_cast at g
   omega
 ·have c:(Tp.K l1 l2 l f).s.M.b.f=lS (dv l1 l2).b.l (dv l1 l2).b.a (dv l1 l2).b.f ((f*640:Nat):Int):=j.f
  rw[hb] at c;rw[c];unfold lS
  push_cast
  omega
theorem ziY{w:u}{B z n:Nat}{t:aJ}{v:π}{xs:List π}(h:w.ownsRow B t z v n xs):Tp.Rw w v n z xs:=by
 refine⟨h.1,?_⟩;by_cases d:n=0
 ·obtain⟨a,c,e⟩:=tR h
  exact aj ⟨d,a,c,by rw[<- d];exact e⟩
 ·obtain⟨g,b,e,h1,h2,h3⟩:=zfE h (by omega)
  exact ao ⟨g,0,b,e,h1,h2,λj x f=>by rw[aX];exact h3 j x f⟩
theorem zsf(a0 a1 a2 a3 a4 a5 g h j a9 a b c d e f:Int)(w:u):(fG .eql 66 (ac #[J au a0,J au a1,J au a2,J au a3,J au a4,J au a5,J au g,J au h,J au j,J au a9,J au a,J au b,J au c,J au d,J au e,J au f]) (ac #[J au a0,J au a1,J au a2,J au a3,J au a4,J au a5,J au g,J au h,J au j,J au a9,J au a,J au b,J au c,J au d,J au e,J au f])).run ω w=.ok (ν Γ) w:=by
 have u3:=underlying5;have x3:=isAgg5;have z3:=sizeOf5;have k:Tryz.prog.cellsOf 5=1:=by kernel_rfl
 have l:(Tryz.prog.info? 5).isSome=Γ:=by kernel_rfl
 obtain⟨i,hi⟩:=eE.1 l;rw[dK,gY w 9999 _ _ underlying66 hi,k];simp only[List.range,List.range.loop,Op.eqItems];go_simp
theorem zxt(f:Nat->Int)(w:u):(fG .neq 66 (ac (Tp.r16 f).toArray) (ac (Tp.r16 f).toArray)).run ω w=.ok (ν ξ) w:=zmv (zsf (f 0) (f 1) (f 2) (f 3) (f 4) (f 5) (f 6) (f 7) (f 8) (f 9) (f 10) (f 11) (f 12) (f 13) (f 14) (f 15) w)
theorem zmy(f:Nat)(l:List Tp.Ln)(h:l.map (λx=>(x.f,x.l))=Tp.blk f):Tp.pick f l []=l.map (λx=>x.px):=by
 have a:l.length=8:=by have b:=congrArg gW h;simpa [Tp.blk] using b
 unfold Tp.blk at h
 match l,a with
 | [g,x1,x2,x3,i,j,k,m],_ =>
  simp only[cI,dQ,eF,gv,and_true] at h;obtain⟨⟨a0,b0⟩,⟨a1,b1⟩,⟨a2,b2⟩,⟨a3,b3⟩,⟨a4,b4⟩,⟨a5,b5⟩,⟨c,b6⟩,⟨d,e⟩⟩:=h;simp[Tp.pick,a0,b0,a1,b1,a2,b2,a3,b3,a4,b4,a5,b5,c,b6,d,e]
theorem zeg{F:Nat}{l:List Tp.Ln}(h:l.map (λx=>(x.f,x.l))=Tp.blks F):l.length=8*F:=by
 have a:=congrArg gW h
 rwa [bf,zgS] at a
theorem ziZ:∀(F:Nat) (l:List Tp.Ln),l.map (λx=>(x.f,x.l))=Tp.blks F->∀ k,k<F->Tp.pick k l []=((l.drop (8*k)).take 8).map (λx=>x.px)
 | 0,l,h,k,b=>by omega
 | F+1,l,h,k,b=>by
  rw[Tp.blks] at h;obtain⟨l1,l2,rfl,h1,h2⟩:=mJ.1 h;have c:=zeg h1;have z2:l2.length=8:=by have d:=congrArg gW h2;simpa [Tp.blk] using d
  rw[zee];by_cases e:k=F
  ·subst e
   rw[zX _ l1 [] (λx a e=>by have:=(zdO k _ (A6 h1 a)).2;simp only at this;omega),zmy k l2 h2,<- c,List.drop_left,dY (by omega)]
  ·rw[zX _ l2 _ (λx a e=>by
    have g:=A6 h2 a;simp[Tp.blk] at g;omega),ziZ F l1 h1 k (by omega),ky (by omega),pm (by rw[cW];omega)]
theorem zsg{F:Nat}{l:List Tp.Ln}(h:l.map (λx=>(x.f,x.l))=Tp.blks F){k:Nat}(b:k<F){j:Nat}(c:j<8):∃ x,l[8*k+j]?=A x/\(Tp.pick k l [])[j]?=A x.px:=by
 have d:=zeg h;have a:8*k+j<l.length:=by omega
 refine⟨l[8*k+j],aq a,?_⟩;rw[ziZ F l h k b,bn,dN c,jC,aq a];rfl
structure Tp.Pb (w w1 : u) (v : π) (l : List Inp) (ι : u) : Prop where
 low:Below w.heap.size w ι
 r:LawR w1 aD aP (κ G 0 0) (κ G 0 0) (κ G 0 0) [] [] [] ι
 inp:bP w.heap.size ι v l
 tf:Tp.F ι
theorem Tp.Pb.kept{w w1 ι Y':u}{v:π}{l:List Inp}(h:Tp.Pb w w1 v l ι)(hb:Below ι.heap.size ι Y'):Tp.Pb w w1 v l Y':=⟨bw h.low hb,h.r.kept hb,h.inp.kept (hb.mono h.low.size),h.tf.kept hb⟩
theorem we(fr:Int):Tp.frmL fr []=[]/\Tp.frmE fr []=5:=⟨D,D⟩
theorem zxu(l1 l2:List UInt8)(a1 a2:Option Addr)(c1 c2:Nat)(v:π)(l:List Inp)(n which:Int)(w:u)(R:Tp.F w)(k:bP w.heap.size w v l)(hc:1024<l1.length)(hp:Δ ω 19 #[κ a1 l1.length c1,κ a2 l2.length c2,v,J Q n] w λe w'=>e=μ (Ψ #[ac (υ aD aP).toArray,ac Tp.nil3.toArray,J Q 2])/\Below w.heap.size w w'):Δ ω 5 #[κ a1 l1.length c1,κ a2 l2.length c2,v,J Q n,J Q which] w λe w'=>e=μ (ν Γ)/\Below w.heap.size w w':=by
 have E:=hid R;have H:=hid k;have T:=hid hp;have q1:(1024:Int)<l1.length:=by omega
 clear R k hp hc;go_enter func5,ntmps5;go_wp2_with (first
  | (go_at_call 14;refine(Lk.sameShown (κ G 0 0) (κ G 0 0) (κ G 0 0) (κ G 0 0) (κ G 0 0) (κ G 0 0) [] [] [] _ b.out.r.sh (sH _) (by simp) (by simp)).mono ?_;rintro e w7 ⟨rfl,I⟩;have L:=hid (bw b.out.low I))
  | (go_at_call 13;have M:=d;refine(yw _).mono ?_;rintro e V ⟨rfl,m⟩;have b:=hid (d.out.kept m);have k0:=b.out.r.r.s.at 0 _ D;have k1:=b.out.r.r.s.at 1 _ D;have k2:=b.out.r.r.s.at 2 _ D;have W:=b.out.r.r.s.z;clear m M)
  | (refine Bu.loadG D 41 _ D w1.heap.size 0 D (υ aD aP) _ d.out.r.r.x.c underlying41 D cn ?_)
  | (go_at_call 22;have f:=g.out;clear f;refine(Tp.taped _ g.out.tf).mono ?_;rintro e X ⟨rfl,o⟩;have d:=hid (g.out.kept o);clear o)
  | (go_at_call 22;have f:=h.out;clear f;refine(Tp.taped _ h.out.tf).mono ?_;rintro e w4 ⟨rfl,p⟩;have g:=hid (h.out.kept p);clear p)
  | (go_at_call 20;refine(yy (κ G 0 0) (κ G 0 0) (κ G 0 0) [] which _ ⟨D,aj ⟨D,G,0,D⟩⟩ (by decide)).mono ?_;rw[(we which).1,(we which).2];rintro e w2 ⟨u2,rfl,q,t⟩;obtain⟨ua,uc,rfl⟩:=tR q;have h:=hid (N.out.kept t);clear q t g0 g1 U gz)
  | (refine wpList_store_mid D 47 _ _ D (w1.heap.size+1) 0 #[κ G 0 0,κ G 0 0,κ G 0 0] D D (y.out.s.there 0 3 (by simp)) kX (lH _ _ _ _ _ _ _ _ _) ?_
     refine Pl.cutL (R3 w1 aD aP [κ G 0 0,κ G 0 0,κ G 0 0]) y.out.put ?_;intro P a;have N:bG (Tp.Pb w w1 v l P):=hid ⟨bw i.out a.old,⟨a,wF P,sH P⟩,HIN1.out.kept (a.old.mono i.out.size),(E.out.kept i.out).kept a.old⟩;have g0:=a.s.at 0 _ D;have g1:=a.s.at 1 _ D;have U:=a.s.at 2 _ D;have gz:=a.s.z;clear a)
  | (refine wpList_store_mid D 41 _ _ D w1.heap.size 0 (υ aD aP).toArray D D (R3.th1 w1) cn (iq _ _ tX) ?_
     refine Pl.cutL (R3 w1 aD aP nil3) (R3.mk1 w1 aD aP) ?_;intro Z B;have y:=hid B;clear B)
  | (go_at_call 19;refine T.out.mono ?_;rintro e w1 ⟨rfl,j⟩;have i:=hid j;have HIN1:=hid (H.out.kept j);clear j))
 go_ret;exact⟨D,L.out⟩
theorem zxv(l1 l2:List UInt8)(a1 a2:Option Addr)(c1 c2:Nat)(v:π)(l:List Inp)(n which:Int)(w:u)(T:Tp.F w)(k:bP w.heap.size w v l)(hc:l1.length<=1024)(E:1024<l2.length)(hp:Δ ω 19 #[κ a1 l1.length c1,κ a2 l2.length c2,v,J Q n] w λe w'=>e=μ (Ψ #[ac (υ aD aP).toArray,ac Tp.nil3.toArray,J Q 2])/\Below w.heap.size w w'):Δ ω 5 #[κ a1 l1.length c1,κ a2 l2.length c2,v,J Q n,J Q which] w λe w'=>e=μ (ν Γ)/\Below w.heap.size w w':=by
 have H:=hid T;have I:=hid k;have U:=hid hp;have q1:¬ (1024:Int)<l1.length:=by omega
 have W:(1024:Int)<l2.length:=by omega
 clear T k hp hc E;go_enter func5,ntmps5;go_wp2_with (first
  | (go_at_call 14;refine(Lk.sameShown (κ G 0 0) (κ G 0 0) (κ G 0 0) (κ G 0 0) (κ G 0 0) (κ G 0 0) [] [] [] _ b.out.r.sh (sH _) (by simp) (by simp)).mono ?_;rintro e w7 ⟨rfl,L⟩;have M:=hid (bw b.out.low L))
  | (go_at_call 13;have N:=d;refine(yw _).mono ?_;rintro e X ⟨rfl,m⟩;have b:=hid (d.out.kept m);have k0:=b.out.r.r.s.at 0 _ D;have k1:=b.out.r.r.s.at 1 _ D;have k2:=b.out.r.r.s.at 2 _ D;have Z:=b.out.r.r.s.z;clear m N)
  | (refine Bu.loadG D 41 _ D w1.heap.size 0 D (υ aD aP) _ d.out.r.r.x.c underlying41 D cn ?_)
  | (go_at_call 22;have f:=g.out;clear f;refine(Tp.taped _ g.out.tf).mono ?_;rintro e w5 ⟨rfl,o⟩;have d:=hid (g.out.kept o);clear o)
  | (go_at_call 22;have f:=h.out;clear f;refine(Tp.taped _ h.out.tf).mono ?_;rintro e w4 ⟨rfl,p⟩;have g:=hid (h.out.kept p);clear p)
  | (go_at_call 20;refine(yy (κ G 0 0) (κ G 0 0) (κ G 0 0) [] which _ ⟨D,aj ⟨D,G,0,D⟩⟩ (by decide)).mono ?_;rw[(we which).1,(we which).2];rintro e w2 ⟨u2,rfl,q,t⟩;obtain⟨ua,uc,rfl⟩:=tR q;have h:=hid (P.out.kept t);clear q t g0 g1 V gz)
  | (refine wpList_store_mid D 47 _ _ D (w1.heap.size+1) 0 #[κ G 0 0,κ G 0 0,κ G 0 0] D D (y.out.s.there 0 3 (by simp)) kX (lH _ _ _ _ _ _ _ _ _) ?_
     refine Pl.cutL (R3 w1 aD aP [κ G 0 0,κ G 0 0,κ G 0 0]) y.out.put ?_;intro R a;have P:bG (Tp.Pb w w1 v l R):=hid ⟨bw i.out a.old,⟨a,wF R,sH R⟩,HIN1.out.kept (a.old.mono i.out.size),(H.out.kept i.out).kept a.old⟩;have g0:=a.s.at 0 _ D;have g1:=a.s.at 1 _ D;have V:=a.s.at 2 _ D;have gz:=a.s.z;clear a)
  | (refine wpList_store_mid D 41 _ _ D w1.heap.size 0 (υ aD aP).toArray D D (R3.th1 w1) cn (iq _ _ tX) ?_
     refine Pl.cutL (R3 w1 aD aP nil3) (R3.mk1 w1 aD aP) ?_;intro Y1 B;have y:=hid B;clear B)
  | (go_at_call 19;refine U.out.mono ?_;rintro e w1 ⟨rfl,j⟩;have i:=hid j;have HIN1:=hid (I.out.kept j);clear j))
 go_ret;exact⟨D,M.out⟩
theorem zxw(l1 l2:List UInt8)(a1 a2:Option Addr)(c1 c2:Nat)(v:π)(l:List Inp)(n which:Int)(w:u)(U:Tp.F w)(k:bP w.heap.size w v l)(hc:l1.length<=1024)(H:l2.length<=1024)(m:n<0)(hp:Δ ω 19 #[κ a1 l1.length c1,κ a2 l2.length c2,v,J Q n] w λe w'=>e=μ (Ψ #[ac (υ aD aP).toArray,ac Tp.nil3.toArray,J Q 3])/\Below w.heap.size w w'):Δ ω 5 #[κ a1 l1.length c1,κ a2 l2.length c2,v,J Q n,J Q which] w λe w'=>e=μ (ν Γ)/\Below w.heap.size w w':=by
 have I:=hid U;have L:=hid k;have V:=hid hp;have q1:¬ (1024:Int)<l1.length:=by omega
 have X:¬ (1024:Int)<l2.length:=by omega
 have Z:n<0:=m;clear U k hp hc H m;go_enter func5,ntmps5;go_wp2_with (first
  | (go_at_call 14;refine(Lk.sameShown (κ G 0 0) (κ G 0 0) (κ G 0 0) (κ G 0 0) (κ G 0 0) (κ G 0 0) [] [] [] _ b.out.r.sh (sH _) (by simp) (by simp)).mono ?_;rintro e w7 ⟨rfl,M⟩;have N:=hid (bw b.out.low M))
  | (go_at_call 13;have P:=d;refine(yw _).mono ?_;rintro e w6 ⟨rfl,o⟩;have b:=hid (d.out.kept o);have k0:=b.out.r.r.s.at 0 _ D;have k1:=b.out.r.r.s.at 1 _ D;have k2:=b.out.r.r.s.at 2 _ D;have kz:=b.out.r.r.s.z;clear o P)
  | (refine Bu.loadG D 41 _ D w1.heap.size 0 D (υ aD aP) _ d.out.r.r.x.c underlying41 D cn ?_)
  | (go_at_call 22;have f:=g.out;clear f;refine(Tp.taped _ g.out.tf).mono ?_;rintro e w5 ⟨rfl,p⟩;have d:=hid (g.out.kept p);clear p)
  | (go_at_call 22;have f:=h.out;clear f;refine(Tp.taped _ h.out.tf).mono ?_;rintro e w4 ⟨rfl,q⟩;have g:=hid (h.out.kept q);clear q)
  | (go_at_call 20;refine(yy (κ G 0 0) (κ G 0 0) (κ G 0 0) [] which _ ⟨D,aj ⟨D,G,0,D⟩⟩ (by decide)).mono ?_;rw[(we which).1,(we which).2];rintro e w2 ⟨u2,rfl,t,y⟩;obtain⟨ua,uc,rfl⟩:=tR t;have h:=hid (R.out.kept y);clear t y g0 g1 W gz)
  | (refine wpList_store_mid D 47 _ _ D (w1.heap.size+1) 0 #[κ G 0 0,κ G 0 0,κ G 0 0] D D (B.out.s.there 0 3 (by simp)) kX (lH _ _ _ _ _ _ _ _ _) ?_
     refine Pl.cutL (R3 w1 aD aP [κ G 0 0,κ G 0 0,κ G 0 0]) B.out.put ?_;intro T a;have R:bG (Tp.Pb w w1 v l T):=hid ⟨bw i.out a.old,⟨a,wF T,sH T⟩,HIN1.out.kept (a.old.mono i.out.size),(I.out.kept i.out).kept a.old⟩;have g0:=a.s.at 0 _ D;have g1:=a.s.at 1 _ D;have W:=a.s.at 2 _ D;have gz:=a.s.z;clear a)
  | (refine wpList_store_mid D 41 _ _ D w1.heap.size 0 (υ aD aP).toArray D D (R3.th1 w1) cn (iq _ _ tX) ?_
     refine Pl.cutL (R3 w1 aD aP nil3) (R3.mk1 w1 aD aP) ?_;intro Y1 E;have B:=hid E;clear E)
  | (go_at_call 19;refine V.out.mono ?_;rintro e w1 ⟨rfl,j⟩;have i:=hid j;have HIN1:=hid (L.out.kept j);clear j))
 go_ret;exact⟨D,N.out⟩
theorem zxx(l1 l2:List UInt8)(a1 a2:Option Addr)(c1 c2:Nat)(v:π)(l:List Inp)(n which:Int)(w:u)(V:Tp.F w)(k:bP w.heap.size w v l)(hc:l1.length<=1024)(I:l2.length<=1024)(m:¬ n<0)(o:20<n)(hp:Δ ω 19 #[κ a1 l1.length c1,κ a2 l2.length c2,v,J Q n] w λe w'=>e=μ (Ψ #[ac (υ aD aP).toArray,ac Tp.nil3.toArray,J Q 3])/\Below w.heap.size w w'):Δ ω 5 #[κ a1 l1.length c1,κ a2 l2.length c2,v,J Q n,J Q which] w λe w'=>e=μ (ν Γ)/\Below w.heap.size w w':=by
 have L:=hid V;have M:=hid k;have W:=hid hp;have q1:¬ (1024:Int)<l1.length:=by omega
 have Z:¬ (1024:Int)<l2.length:=by omega
 have q3:decide (n<0)=ξ:=aG m;have q4:20<n:=o;clear V k hp hc I m o;go_enter func5,ntmps5;go_wp2_with (first
  | (go_at_call 14;refine(Lk.sameShown (κ G 0 0) (κ G 0 0) (κ G 0 0) (κ G 0 0) (κ G 0 0) (κ G 0 0) [] [] [] _ b.out.r.sh (sH _) (by simp) (by simp)).mono ?_;rintro e w7 ⟨rfl,N⟩;have P:=hid (bw b.out.low N))
  | (go_at_call 13;have R:=d;refine(yw _).mono ?_;rintro e w6 ⟨rfl,p⟩;have b:=hid (d.out.kept p);have k0:=b.out.r.r.s.at 0 _ D;have k1:=b.out.r.r.s.at 1 _ D;have k2:=b.out.r.r.s.at 2 _ D;have kz:=b.out.r.r.s.z;clear p R)
  | (refine Bu.loadG D 41 _ D w1.heap.size 0 D (υ aD aP) _ d.out.r.r.x.c underlying41 D cn ?_)
  | (go_at_call 22;have f:=g.out;clear f;refine(Tp.taped _ g.out.tf).mono ?_;rintro e w5 ⟨rfl,q⟩;have d:=hid (g.out.kept q);clear q)
  | (go_at_call 22;have f:=h.out;clear f;refine(Tp.taped _ h.out.tf).mono ?_;rintro e w4 ⟨rfl,t⟩;have g:=hid (h.out.kept t);clear t)
  | (go_at_call 20;refine(yy (κ G 0 0) (κ G 0 0) (κ G 0 0) [] which _ ⟨D,aj ⟨D,G,0,D⟩⟩ (by decide)).mono ?_;rw[(we which).1,(we which).2];rintro e w2 ⟨u2,rfl,y,B⟩;obtain⟨ua,uc,rfl⟩:=tR y;have h:=hid (T.out.kept B);clear y B g0 g1 X gz)
  | (refine wpList_store_mid D 47 _ _ D (w1.heap.size+1) 0 #[κ G 0 0,κ G 0 0,κ G 0 0] D D (E.out.s.there 0 3 (by simp)) kX (lH _ _ _ _ _ _ _ _ _) ?_
     refine Pl.cutL (R3 w1 aD aP [κ G 0 0,κ G 0 0,κ G 0 0]) E.out.put ?_;intro U a;have T:bG (Tp.Pb w w1 v l U):=hid ⟨bw i.out a.old,⟨a,wF U,sH U⟩,HIN1.out.kept (a.old.mono i.out.size),(L.out.kept i.out).kept a.old⟩;have g0:=a.s.at 0 _ D;have g1:=a.s.at 1 _ D;have X:=a.s.at 2 _ D;have gz:=a.s.z;clear a)
  | (refine wpList_store_mid D 41 _ _ D w1.heap.size 0 (υ aD aP).toArray D D (R3.th1 w1) cn (iq _ _ tX) ?_
     refine Pl.cutL (R3 w1 aD aP nil3) (R3.mk1 w1 aD aP) ?_;intro Y1 H;have E:=hid H;clear H)
  | (go_at_call 19;refine W.out.mono ?_;rintro e w1 ⟨rfl,j⟩;have i:=hid j;have HIN1:=hid (M.out.kept j);clear j))
 go_ret;exact⟨D,P.out⟩
theorem zxy(l1 l2:List UInt8)(a1 a2:Option Addr)(c1 c2:Nat)(v:π)(l:List Inp)(n which:Int)(w:u)(hF:Tp.F w)(m:bP w.heap.size w v l)(hc:l1.length<=1024)(N:l2.length<=1024)(o:¬ n<0)(p:¬ 20<n)(c:Int)(hk:Go.Proofs.YthghjlinhokimaaGreatDoor.chkIn l 0=c)(q:c≠0)(hp:Δ ω 19 #[κ a1 l1.length c1,κ a2 l2.length c2,v,J Q n] w λe w'=>e=μ (Ψ #[ac (υ aD aP).toArray,ac Tp.nil3.toArray,J Q c])/\Below w.heap.size w w'):Δ ω 5 #[κ a1 l1.length c1,κ a2 l2.length c2,v,J Q n,J Q which] w λe w'=>e=μ (ν Γ)/\Below w.heap.size w w':=by
 have P:=hid hF;have R:=hid m;have HP:=hid hp;have q1:¬ (1024:Int)<l1.length:=by omega
 have q2:¬ (1024:Int)<l2.length:=by omega
 have q3:decide (n<0)=ξ:=aG o;have q4:¬ 20<n:=p;have hne:(c != 0)=Γ:=by simpa using q
 have T:=hid hk;clear hk q;clear hF m hp hc N o p;go_enter func5,ntmps5;go_wp2_with (first
  | (go_at_call 14;refine(Lk.sameShown (κ G 0 0) (κ G 0 0) (κ G 0 0) (κ G 0 0) (κ G 0 0) (κ G 0 0) [] [] [] _ b.out.r.sh (sH _) (by simp) (by simp)).mono ?_;rintro e w7 ⟨rfl,U⟩;have V:=hid (bw b.out.low U))
  | (go_at_call 13;have W:=d;refine(yw _).mono ?_;rintro e w6 ⟨rfl,t⟩;have b:=hid (d.out.kept t);have k0:=b.out.r.r.s.at 0 _ D;have k1:=b.out.r.r.s.at 1 _ D;have k2:=b.out.r.r.s.at 2 _ D;have kz:=b.out.r.r.s.z;clear t W)
  | (refine Bu.loadG D 41 _ D w1.heap.size 0 D (υ aD aP) _ d.out.r.r.x.c underlying41 D cn ?_)
  | (go_at_call 22;have f:=g.out;clear f;refine(Tp.taped _ g.out.tf).mono ?_;rintro e w5 ⟨rfl,y⟩;have d:=hid (g.out.kept y);clear y)
  | (go_at_call 22;have f:=h.out;clear f;refine(Tp.taped _ h.out.tf).mono ?_;rintro e w4 ⟨rfl,B⟩;have g:=hid (h.out.kept B);clear B)
  | (go_at_call 21;refine(Lk.rcheck l v _ 0 _ (i.out.inp.mono i.out.low.size) (ψ _)).mono ?_;rw[T.out];rintro e w3 ⟨rfl,E⟩;have h:=hid (i.out.kept E);clear E)
  | (go_at_call 20;refine(yy (κ G 0 0) (κ G 0 0) (κ G 0 0) [] which _ ⟨D,aj ⟨D,G,0,D⟩⟩ (by decide)).mono ?_;rw[(we which).1,(we which).2];rintro e w2 ⟨u2,rfl,H,I⟩;obtain⟨ua,uc,rfl⟩:=tR H;have i:=hid (X.out.kept I);clear H I g0 g1 g2 gz)
  | (refine wpList_store_mid D 47 _ _ D (w1.heap.size+1) 0 #[κ G 0 0,κ G 0 0,κ G 0 0] D D (L.out.s.there 0 3 (by simp)) kX (lH _ _ _ _ _ _ _ _ _) ?_
     refine Pl.cutL (R3 w1 aD aP [κ G 0 0,κ G 0 0,κ G 0 0]) L.out.put ?_;intro Z a;have X:bG (Tp.Pb w w1 v l Z):=hid ⟨bw j.out a.old,⟨a,wF Z,sH Z⟩,HIN1.out.kept (a.old.mono j.out.size),(P.out.kept j.out).kept a.old⟩;have g0:=a.s.at 0 _ D;have g1:=a.s.at 1 _ D;have g2:=a.s.at 2 _ D;have gz:=a.s.z;clear a)
  | (refine wpList_store_mid D 41 _ _ D w1.heap.size 0 (υ aD aP).toArray D D (R3.th1 w1) cn (iq _ _ tX) ?_
     refine Pl.cutL (R3 w1 aD aP nil3) (R3.mk1 w1 aD aP) ?_;intro Y1 M;have L:=hid M;clear M)
  | (go_at_call 19;refine HP.out.mono ?_;rintro e w1 ⟨rfl,k⟩;have j:=hid k;have HIN1:=hid (R.out.kept k);clear k))
 go_ret;exact⟨D,V.out⟩
end Go.Proofs.YthghjlinhokimaaGreatDoor
