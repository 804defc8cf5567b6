/-
  Parts of a proof, joined.
-/
import Derived.Test.YthghjlinhokimaaGreatDoorZbA
import Derived.Test.YthghjlinhokimaaGreatDoorZbWatchTrace04
set_option linter.all false
set_option maxRecDepth 100000
set_option maxHeartbeats 6400000
open Option renaming none->G,some->A
open Go renaming World->u,Value->π,Calls->Δ,Oper->cG,wpList->dg
open Bool renaming false->ξ,true->Γ
open Go.Proofs.Tryz renaming prog->ω
open Go.Act renaming put->ag
open Or renaming inl->aj,inr->ao
open Go.Result renaming andThen->aE
open Go.Value renaming int->J,slice->κ,bool->ν,agg->ac
open Go.IntKind renaming i64->Q,u8->au
open Go.Ending renaming returned->μ
open Go.Obj renaming cells->χ
namespace Go.Proofs.YthghjlinhokimaaGreatDoor
open Go.ChangeShapes Go.WideShapes Go.ChangeAt Go.RowKit Go.Proofs.Tryz
def jK:List UInt8:=[0,6,0,0,0,0,121,31,216,0]
def yO:C.Cpu:=⟨[0,0,0,0,0,0,0,0],6,ξ,ξ,ξ,ξ,ξ,ξ⟩
def vp:C.Cpu:=⟨[0,65535,0,0,0,0,0,0],8,ξ,Γ,ξ,ξ,ξ,ξ⟩
def BB:C.Cpu:=⟨[0,65535,0,0,0,0,0,0],10,ξ,Γ,ξ,ξ,ξ,Γ⟩
section
variable (main aux : C.Cpu) (arom ram own video : List UInt8) (p0 p1 : Pd) (t : TM) (s : Sd) (b : Bem) (fr tt : Int) (granted held : Bool) (m0 m1 : Int) (rung : Bool) (clock mready aready : Int) (l : List Wt)
theorem zxD:C.order bT yO ⟨⟨main,aux,jK,arom,ram,own,video,p0,p1,t,s,b,fr,tt,granted,held,m0,m1,rung,clock,mready,aready⟩,0,l⟩=⟨vp,⟨⟨main,aux,jK,arom,ram,own,video,p0,p1,t,s,b,fr,tt,granted,held,m0,m1,rung,clock,mready,aready⟩,0,l⟩,1⟩:=by kernel_rfl
theorem zxE:C.order bT vp ⟨⟨main,aux,jK,arom,ram,own,video,p0,p1,t,s,b,fr,tt,granted,held,m0,m1,rung,clock,mready,aready⟩,0,l⟩=⟨BB,⟨⟨main,aux,jK,arom,ram,own,video,p0,p1,t,s,b,fr,tt,granted,held,m0,m1,rung,clock,mready,aready⟩,0,l⟩,1⟩:=by kernel_rfl
end
structure Wkm (M : Mach) (c : C.Cpu) (clock mready : Int) : Prop where
 rom:M.mrom=jK
 held:M.held=Γ
 main:M.main=c
 clock:M.clock=clock
 ready:M.mready=mready
theorem zfY{k:Cs}{c e:C.Cpu}{d r f:Int}(h:Wkm k.s.M c d r)(b:k.co=[])(a:Wkm (Bst.stepMain k.s).M e d f):Wkm k.clock.s.M e (d+1) f/\k.clock.co=[]:=by
 have g:k.s.M.pressed k.co=k.s.M:=by rw[b];rfl
 have i:(Bst.stepMain k.s).stepAux=Bst.stepMain k.s:=by
  unfold Bst.stepAux;rw[am (aj a.held)]
 have j:k.now.s=Bst.stepMain k.s:=by
  show (Bst.stepMain ⟨k.s.M.pressed k.co,k.s.n,k.s.l⟩).stepAux=_;rw[g,i]
 have m:k.clock.s.M=(Bst.stepMain k.s).M.goOn:=by show k.now.s.M.goOn=_;rw[j]
 refine⟨?_,by show k.s.M.coming k.co=[];rw[b];rfl⟩;rw[m];exact⟨a.rom,a.held,a.main,by show (Bst.stepMain k.s).M.clock+1=_;rw[a.clock],a.ready⟩
theorem zvg{s:Bst}{c:C.Cpu}{a r:Int}(h:Wkm s.M c a r)(b:a<r):Wkm (Bst.stepMain s).M c a r:=by
 unfold Bst.stepMain;rw[am (by rw[h.clock,h.ready];exact b)];exact h
theorem xW{s:Bst}{c d:C.Cpu}{a r n:Int}(h:Wkm s.M c a r)(e:¬ a<r)(g:c.Waits=ξ)(i:c.May=ξ)
 (j:∀(main aux:C.Cpu) (arom ram own video:List UInt8) (p0 p1:Pd) (t:TM) (s:Sd) (b:Bem) (fr tt:Int) (granted held:Bool) (m0 m1:Int) (rung:Bool) (clock mready aready:Int) (l:List Wt),
   C.order bT c ⟨⟨main,aux,jK,arom,ram,own,video,p0,p1,t,s,b,fr,tt,granted,held,m0,m1,rung,clock,mready,aready⟩,0,l⟩=⟨d,⟨⟨main,aux,jK,arom,ram,own,video,p0,p1,t,s,b,fr,tt,granted,held,m0,m1,rung,clock,mready,aready⟩,0,l⟩,n⟩):Wkm (Bst.stepMain s).M d a (a+3*n):=by
 unfold Bst.stepMain;rw[ae (by rw[h.clock,h.ready];exact e)];obtain⟨⟨main,aux,mrom,arom,ram,own,video,p0,p1,t,k,b,fr,tt,granted,held,m0,m1,rung,clock,mready,aready⟩,m,l⟩:=s;obtain⟨h1,h2,h3,h4,f⟩:=h;dsimp only at h1 h2 h3 h4 f e ⊢;subst h1 h2 h3 h4 f;rw[zqh _ _ _ g i,j main aux arom ram own video p0 p1 t k b fr tt granted Γ m0 m1 rung clock mready aready l];exact⟨D,D,D,D,by show clock+3*n+0=_;omega⟩
def oT:Mach:=dv jK []
def yB:Cs:=⟨⟨oT,0,[]⟩,[],[],[]⟩
theorem wk0:Wkm (oT.aft [] 0) yO 0 0:=⟨D,D,by show gM ((dr jK []).lookM 0) ((dr jK []).lookM 1)=yO;decide +kernel,D,D⟩
theorem rL:∀ j,(yB.clocks j).co=[]
 | 0=>rfl
 | j+1=>by
  show (yB.clocks j).s.M.coming (yB.clocks j).co=[]
  rw[rL j];rfl
theorem wk1:Wkm (oT.aft [] 1) vp 1 3:=(zfY (k:=yB.clocks 0) wk0 (rL 0) (xW (n:=1) wk0 (by decide) D D (λ_ _ _ _ _ _ _ _ _ _ _ _ _ _ _ _ _ _ _ _ _ _=>zxD ..))).1
theorem wk2:Wkm (oT.aft [] 2) vp 2 3:=(zfY (k:=yB.clocks 1) wk1 (rL 1) (zvg wk1 (by decide))).1
theorem yC:Wkm (oT.aft [] 3) vp 3 3:=(zfY (k:=yB.clocks 2) wk2 (rL 2) (zvg wk2 (by decide))).1
theorem wk4:Wkm (oT.aft [] 4) BB 4 6:=(zfY (k:=yB.clocks 3) yC (rL 3) (xW (n:=1) yC (by decide) D D (λ_ _ _ _ _ _ _ _ _ _ _ _ _ _ _ _ _ _ _ _ _ _=>zxE ..))).1
theorem Wkm.nx{j k:Nat}{c:C.Cpu}{a r:Int}(h:Wkm (oT.aft [] j) c a r)(e:(min (max r (a+1)) (0+(5:Nat))-0).toNat=k):wnx oT [] 5 j=k:=by
 unfold wnx Mach.next;rw[h.held,h.clock,h.ready,am D];exact e
theorem Wkm.no{M:Mach}{c:C.Cpu}{a r:Int}(h:Wkm M c a r)(e:a<r):M.due=[]:=by
 have h1:M.mdue=ξ:=by unfold Mach.mdue;rw[h.clock,h.ready,aG (by omega)];rfl
 have h2:M.adue=ξ:=by unfold Mach.adue;rw[h.held];rfl
 unfold Mach.due Mach.mdid Mach.adid;rw[h1,h2];rfl
theorem Wkm.yes{M:Mach}{c:C.Cpu}{a r:Int}(h:Wkm M c a r)(e:r<=a)(b:c.Waits=ξ)(d:c.May=ξ):M.due=[⟨a,ξ,c.PC,cZ jK c.PC.toNat⟩]:=by
 have h1:M.mdue=Γ:=by unfold Mach.mdue;rw[h.clock,h.ready,aO e,h.main,b,d];rfl
 have h2:M.adue=ξ:=by unfold Mach.adue;rw[h.held];rfl
 unfold Mach.due Mach.mdid Mach.adid;rw[h1,h2,h.clock,h.main,h.rom];rfl
theorem zyi{a:List Nat}{j:Nat}(h:Way oT [] 5 a j):(a=[]/\j=0) \/ (a=[0]/\j=1) \/ (a=[0,1]/\j=3) \/ (a=[0,1,3]/\j=4) \/ (a=[0,1,3,4]/\j=5):=by
 induction h with
 | nil=>exact aj ⟨D,D⟩
 | cons _ b c =>
  rcases c with⟨rfl,rfl⟩|⟨rfl,rfl⟩|⟨rfl,rfl⟩|⟨rfl,rfl⟩|⟨rfl,rfl⟩
  ·exact ao (aj ⟨D,wk0.nx (by decide)⟩)
  ·exact ao (ao (aj ⟨D,wk1.nx (by decide)⟩))
  ·exact ao (ao (ao (aj ⟨D,yC.nx (by decide)⟩)))
  ·exact ao (ao (ao (ao ⟨D,wk4.nx (by decide)⟩)))
  ·omega
def BC:List UInt8:=[97,100,100,105,32,114,49,44,32,45,49]
def BD:List UInt8:=[104,108,116]
def rC:List Dd:=[⟨0,ξ,6,BC⟩,⟨3,ξ,8,BD⟩]
theorem CL:cZ jK 6=BC:=by decide +kernel
theorem CM:cZ jK 8=BD:=by decide +kernel
theorem zBv{a:List Nat}(h:Way oT [] 5 a 5):(a.map (λi=>(oT.aft [] i).due)).flatten=rC:=by
 have b:a=[0,1,3,4]:=by
  rcases zyi h with⟨_,e⟩|⟨_,e⟩|⟨_,e⟩|⟨_,e⟩|⟨e,_⟩
  ·cases e
  ·cases e
  ·cases e
  ·cases e
  ·exact e
 subst b;simp only[cI,dQ,wk0.yes (by decide) D D,wk1.no (by decide),yC.yes (by decide) D D,wk4.no (by decide)];show [(⟨0,ξ,6,cZ jK 6⟩:Dd),⟨3,ξ,8,cZ jK 8⟩]=rC;rw[CL,CM];rfl
theorem zBw:bk 8 (oT.aft [] 3)=Γ:=by unfold bk;rw[yC.main,yC.clock,yC.ready];rfl
theorem zyj:jz oT [] 5=0:=by
 have a:oT.chk=0:=by decide +kernel
 have b:bS oT [] 0=0:=zfV a D ⟨by decide,by decide,by show (0:Int)+0<=200000;decide⟩;unfold jz;rw[b,am D,am ⟨by decide,by decide,by show (0:Int)+5<=200000;decide⟩]
theorem zzQ{X:Mach}{a:Int}{acc:List Dd}(h:BA oT [] 5 X a acc):a=0/\acc=rC:=by
 rcases h with⟨h1,_,_,h|⟨_,h⟩⟩|⟨h1,_,_,_,_,d,b,c⟩
 ·rw[zyj] at h;exact absurd h h1
 ·exact absurd h (by show ¬ 19000<(0:Int);decide)
 ·exact⟨h1,c.trans (zBv b)⟩
theorem zzR{X:Mach}{t:Bool}{b:Int}{acc:List Dd}(h:vn oT [] 5 (bk 8) (λ_=>[]) X t b acc):b=0/\t=Γ:=by
 rcases h with⟨h1,_,_,h|⟨_,h⟩⟩|⟨h1,_,_,_,g,j,c,i,hb,h⟩
 ·rw[zyj] at h;exact absurd h h1
 ·exact absurd h (by show ¬ 19000<(0:Int);decide)
 ·refine⟨h1,?_⟩
  rcases h with⟨_,d,_⟩|⟨f,_⟩
  ·have a:j=5:=d
   subst a;rcases zyi c with⟨_,e⟩|⟨_,e⟩|⟨_,e⟩|⟨_,e⟩|⟨e,_⟩
   ·cases e
   ·cases e
   ·cases e
   ·cases e
   ·have:=hb 3 (by rw[e];simp)
    rw[zBw] at this;cases this
  ·exact f
theorem zmC:(Tryz.prog.info? 78).map (·.size)=A 4:=by kernel_rfl
theorem zvh(c p:Int)(a:Bool)(t:ByteArray)(w:u):(binOp .eql 78 (ac #[J Q c,ν a,J .u16 p,.string t]) (ac #[J Q c,ν a,J .u16 p,.string t])).run ω w=.ok (ν Γ) w:=by
 have u3:=underlying3;have x3:=isAgg3;have z3:=sizeOf3;have u4:=underlying4;have d:=isAgg4;have z4:=sizeOf4;have e:=underlying22;have f:=isAgg22;have z5:=sizeOf22;have g:=underlying9;have h:=isAgg9;have i:=sizeOf9;have b:Tryz.prog.underlying 78=A (.struct (Tryz.prog.fieldsOf 78)):=by kernel_rfl
 have hp:Tryz.prog.stoodInHeld 78=ξ:=by kernel_rfl
 rw[dK,show (10000:Nat)=9999+1 from D,eI w 9999 78 _ _ b hp];simp only[Program.fieldsOf,underlying78];go_simp
theorem zvi(x:Dd)(w:u):(binOp .neq 78 (ac (ib x).toArray) (ac (ib x).toArray)).run ω w=.ok (ν ξ) w:=zgz (zvh x.c x.pc x.a (aT x.t) w)
theorem zpf:∀(l:List Dd) (i:Nat) (x:Dd),l[i]?=A x->∀(j:Nat) (v:π),(ib x)[j]?=A v->(lE l)[i*4+j]?=A v
 | [],i,x,h=>by simp at h
 | y::l,0,x,h=>λj v a=>by
  simp only[bv,aZ] at h;subst h;rw[i8,aX];show (ib y++lE l)[j]?=_;rw[bc (ay.1 a).1];exact a
 | y::l,i+1,x,h=>λj v a=>by
  rw[bN] at h;have:=zpf l i x h j v a;show (ib y++lE l)[(i+1)*4+j]?=_;rw[aY (by simp[ib];omega),show (ib y).length=4 from D,show (i+1)*4+j-4=i*4+j by omega];exact this
theorem Wc.sameDid(f v2:π)(l:List Dd)(w:u)(h1:kO w f l.length 4 (lE l))(h2:kO w v2 l.length 4 (lE l))(t:l.length<=1000000):Δ ω 28 #[f,v2] w λe w'=>e=μ (ν Γ)/\Below w.heap.size w w':=by
 obtain⟨a1,k1,e1⟩:=h1.len;obtain⟨a2,k2,e2⟩:=h2.len;subst e1 e2;have m:=hid h1;have n:=hid h2;clear h1 h2;go_enter func28,ntmps28;go_wp2;go_loopw [13] (λi wr=>∃ j:Nat,j<=l.length/\i=J Q j/\Below w.heap.size w wr) (λi _=>l.length-(intOf i).toNat)
 case atStart=>exact⟨0,bh _,D,aR w⟩
 case round =>
  obtain⟨j,v,rfl,hb⟩:=hrel;have g:=hid hb;by_cases b:j<l.length
  ·have h:(j:Int)<l.length:=by omega
   have o:(0:Int)<=j:=by omega
   have p:(j:Int)<1000000:=by omega
   obtain⟨x,d⟩:∃ x,l[j]?=A x:=⟨_,aq b⟩
   obtain⟨g1,o1,c1,q1,y,r1⟩:=(m.out.kept hb).range b (zpf l j x d);obtain⟨k,o2,c2,q,z2,r2⟩:=(n.out.kept hb).range b (zpf l j x d);cases q1;cases q;have r:=zvi x;clear hb d;go_upto_region 6 with fail
   refine wp_region_held_drew (S:=λw'=>w'.rangeAt g1 (o1+j*4) (ib x)/\w'.rangeAt k (o2+j*4) (ib x)) (by kernel_rfl) ⟨r1,r2⟩ ?_;intro a;refine dy 0 ⟨A 16,_,_,_,_,G⟩ a ?_;simp only[ag,xA,xB,xC];refine dy 1 ⟨A 17,_,_,_,_,G⟩ a ?_;simp only[ag,xA,xB,xC];refine dy 2 ⟨A 18,_,_,_,_,G⟩ a ?_;simp only[ag,xA,xB,xC];refine jW 3 (ac (ib x).toArray) D (λw' c=>ml 78 _ D g1 (o1+j*4) D (ib x) _ c.1 underlying78 D zmC) a ?_;refine dy 4 ⟨A 20,_,_,_,_,G⟩ a ?_;simp only[ag,xA,xB,xC];refine dy 5 ⟨A 21,_,_,_,_,G⟩ a ?_;simp only[ag,xA,xB,xC];refine dy 6 ⟨A 22,_,_,_,_,G⟩ a ?_;simp only[ag,xA,xB,xC];refine jW 7 (ac (ib x).toArray) D (λw' c=>ml 78 _ D k (o2+j*4) D (ib x) _ c.2 underlying78 D zmC) a ?_;refine dy 8 ⟨A 24,_,_,_,_,G⟩ a ?_;simp only[ag,xA,xB,xC];refine wpAnyH_done (by kernel_rfl) ?_ _;clear a r1 r2;go_wp2;exact⟨⟨j+1,by omega,by simp,g.out.drew⟩,by simp[intOf];omega⟩
  ·have s:¬ (j:Int)<l.length:=by omega
   clear hb;go_wp2;go_ret;exact⟨D,g.out⟩
theorem zsk:(Tryz.prog.info? 41).map (λi=>(i.zero,i.size,decide (i.bytes<=10000)))=A (A (ac (υ aD aP).toArray),75,Γ):=by kernel_rfl
theorem zxA{M:Mach}{S:Sl}(a:S.isSl):∀ θ∈υ M S,θ.oneCell'=Γ:=λθ b=>by
 have h:=iq M S a;rw[List.all_toArray] at h;exact cx.1 h θ b
theorem zmB{ops:Array cG}{rest:List cG}{o:cG}{a:Act}{w:u}{η:Exit->Act->u->Prop}(b:o.guard=G)(x:Operand)(c:o.op=.buildSlice 73 1 #[(0,x)])(M:Mach)(S:Sl)(d:a.eval x=ac (υ M S).toArray)
 (h:dg ω ops η rest (a.put o.dst (κ (A ⟨w.heap.size,0,G⟩) 1 1)) (w.alloc (χ (υ M S).toArray 41))):dg ω ops η (o::rest) a w:=by
 refine gj b λK e=>?_
 have f:=zvf M S w;generalize υ M S=L at *;unfold Oper.wp;simp[execOp,c,d,f,aE];exact e _ _ h
theorem zpb{ops:Array cG}{rest:List cG}{o:cG}{a:Act}{w:u}{η:Exit->Act->u->Prop}{B n:Nat}{v:π}{xs:List π}{M:Mach}{S:Sl}(d:o.guard=G)(s x:Operand)(f:o.op=.call { callee:=.builtin .append,args:=#[s,x],argTypes:=#[73,73] })(k:a.eval s=v)(c:w.ownsRow B 41 75 v n xs)(g:Nat)(l:a.eval x=κ (A ⟨g,0,G⟩) 1 1)(e:Bx w g (υ M S))(m:S.isSl)(r:n<=1000)(hB:B<=w.heap.size)
 (h:∀ g' b w',w'.ownsRow B 41 75 (κ (A ⟨g',0,G⟩) (n+1) b) (n+1) (xs++υ M S)->w.grownBy w' v.ownBlock->dg ω ops η rest (a.put o.dst (κ (A ⟨g',0,G⟩) (n+1) b)) w'):dg ω ops η (o::rest) a w:=by
 have hi:=zsk;generalize p:Tryz.prog.info? 41=i at hi;cases i with
 | none=>cases hi
 | some i0 =>
  simp only[iG,aZ,gv,cu] at hi;obtain⟨h1,h2,h3⟩:=hi;refine wpList_append_lies _ d s x _ f B 41 i0 _ 75 i0.bytes underlying73 p h1 h2 D (by rfl) (by omega) v n xs k c ⟨g,0,G⟩ 1 1 (υ M S) l (by rw[dG]) (λj θ q=>?_) (zxA m) (by omega) (by unfold maxLen;omega) (ax (qd (show n+1<=1001 by omega) h3) (by decide)) hB w.heap.size D (λg' b w' a1 a2 _ _=>h g' b w' a1 a2);rw[addr_add,aX];exact e.at j θ q
theorem zkx{b:Nat}{w:u}{c:Int}(h:w.cell? ⟨b,72,G⟩=A (J Q c)):pU b w=c.toNat:=by
 unfold pU;rw[h]
section
variable {F : Gx} {N ob : Nat} {w w0 W W1 W2 W3 : u} {k k' : Cs} {ps : List (Mach × Sl)} {vps : π} {L : List π} {inp : List Inp}
theorem Wl.start(hc:GC F N ob (κ G 0 0) (κ G 0 0) W k.s k.ln k.sm)(a:Below w.heap.size w W)(b:Bx W (w.heap.size+1) L)(c:w.heap.size+2<=F.B):Wl F N ob w L k [] (κ G 0 0) W :=
 ⟨a,⟨_,_,hc⟩,eU _ _ _ _,λp hp=>(by cases hp),λp hp=>(by cases hp),b,c,λp hp=>(by cases hp)⟩
structure Wf (F : Gx) (w : u) (L : List π) (X : Mach) (ps : List (Mach × Sl)) (vps : π) (ι : u) : Prop where
 low:Below w.heap.size w ι
 rb:Bx ι (w.heap.size+1) L
 row:kO ι vps ps.length 75 (qR ps)
 cp:∀ p∈ps,cf ι p.2 p.1
 sl:cf ι F.S X
 g:ι.rangeAt F.g 0 (υ X F.S)
 ft:∀ p∈ps,p.1.fit
theorem Wl.wf(h:Wl F N ob w L k ps vps W):Wf F w L k.s.M ps vps W:=by
 obtain⟨vl,vs,hc⟩:=h.c;obtain⟨v,a⟩:=hc.gd;exact⟨h.low,h.rb,vU h.own,h.cp,a.slAt,a.row,h.ft⟩
theorem Wl.fin(i:GK F N ob)(d:∀ k,F.all k->F.B<=k)(h:Wl F N ob w (υ aD aP) k ps vps W):Wf F w (υ k.s.M F.S) k.s.M ps vps (W.setCells (w.heap.size+1) 0 (υ k.s.M F.S)):=by
 obtain⟨vl,vs,hc⟩:=h.c;obtain⟨v,g⟩:=hc.gd;have q:=h.z;have hB:=i.B;have h1:=h.rb.puts 0 (υ k.s.M F.S) (by rw[dG,dG];omega);rw[mK _ _ (by rw[dG,dG])] at h1;have b:Gd F (W.setCells (w.heap.size+1) 0 (υ k.s.M F.S)) k.s.M ⟨k.s.n,k.s.l,v⟩:=g.of_same (cq (pN _ _ _ _).symm) (λj _ o=>ji (by have:=d j o;omega) _ _ _) (λj f=>ji (by have:=(jE g.ws j f).1;omega) _ _ _)
 exact⟨ni h.low (by omega) _ _,h1,vU (jr h.own (λj e=>ji (by have:=(jE h.own j e).1;omega) _ _ _)),
  λp hp=>(h.cp p hp).same (cq (pN _ _ _ _).symm) (λj f a m c e r=>ji (by have:=(h.kp p hp j f a.block (by rw[e];rfl)).1;omega) _ _ _),b.slAt,b.row,h.ft⟩
theorem Wl.at(h:Wl F N ob w L k ps vps W)(i:Nat)(θ:π)(hi:i<75)(e:(υ k.s.M F.S)[i]?=A θ):W.cell? ⟨F.g,i,G⟩=A θ:=by
 obtain⟨vl,vs,hc⟩:=h.c;exact hc.at i θ hi e
theorem Wl.gz(h:Wl F N ob w L k ps vps W):F.g<W.heap.size:=by
 obtain⟨vl,vs,hc⟩:=h.c;exact hc.gz.1
theorem Wl.nz(a:GK F N ob)(h:Wl F N ob w L k ps vps W):N<=W.heap.size:=by
 obtain⟨vl,vs,hc⟩:=h.c;have:=hc.lt;have:=a.ob;omega
inductive LPost (M : Mach) (inp : List Inp) (N : Nat) (w : u) (e : Ending) (w' : u) : Prop
 | mk (vps:π) (ps:List (Mach × Sl)) (SX:Sl) (js:List Nat) (h1:e=μ (.tuple #[vps,ac (υ (M.aft inp N) SX).toArray])) (h2:Way M inp N js N) (h3:ps.map Prod.fst=js.map (M.aft inp)) (h4:kO w' vps ps.length 75 (qR ps)) (h5:∀ p∈ps,cf w' p.2 p.1) (h6:cf w' SX (M.aft inp N)) (h7:Below w.heap.size w w') (h8:∀ p∈ps,p.1.fit)
end
theorem Wt.looks(M:Mach)(S:Sl)(v:π)(inp:List Inp)(N:Nat)(w:u)(hs:cf w S M)(hsz:∀ j,j<5->(M.byt j).length<=140737488355328)(hF:Facts w)(hg:1<w.heap.size/\0<w.heap.size/\2<w.heap.size)(hin:bP w.heap.size w v inp)(hf:M.fit)(hR:InR M inp)(h19:M.b.f<=19000)(hN:N<=500/\M.clock+N<=200000):Δ ω 26 #[ac (υ M S).toArray,v,J Q N] w (LPost M inp N w):=by
 obtain⟨k0,o⟩:∃ k0:Cs,k0=⟨⟨M,0,[]⟩,inp,[],[]⟩:=⟨_,D⟩
 have HA:Hid (∀ j,(k0.clocks j).s.M=M.aft inp j):=hid (λj=>by rw[o];rfl);have HD0:Hid (vV inp k0):=hid (by rw[o];exact vV.of hR.ck);have HM:Hid (∀ j,j<N->(k0.clocks j).may):=hid (λj hj=>by rw[o];exact xV hf (by omega) ⟨by omega,hN.2⟩ hj);have p:Hid (∀ j,(k0.clocks j).s.M.clock=M.clock+j):=hid (λj=>by rw[HA.out j];exact wG hR j);have HOK:Hid (∀ x∈inp,x.ok):=hid (λx hx=>⟨(wD inp _ (wE hR.ck).2 x hx).1,hR.dn x hx⟩);have HLI:Hid (inp.length<=40):=hid (wE hR.ck).1;have HK0:=hid o;have hc0:0<=M.clock:=hf.clock.1;have HC0:=hid hc0;have H:Below w.heap.size w ((w.alloc (χ (υ M S).toArray 41)).alloc (χ (υ aD aP).toArray 41)):=stA (stA (aR w) _) _;have HBM:=hid ((Bx.new w (υ M S) 41 (b:=w.heap.size) D).over (χ (υ aD aP).toArray 41));have HRB:=hid (Bx.new (w.alloc (χ (υ M S).toArray 41)) (υ aD aP) 41 (b:=w.heap.size+1) (by simp));have HS:=hid (hs.kept H);have HFX:=hid (hF.kept H);have HIN:=hid hin;have HW0:=hid H
 have HG:=hid hg;have HF:=hid hf;have HSZ:=hid hsz;have HR:=hid hR;have HN:=hid hN;clear hs hF hin hf hN H hg hsz hR h19 o;go_enter func26,ntmps26;go_upto_region 3 with(first
  | (refine wpList_load_mid D 41 _ D w.heap.size 0 D (υ M S) _ HBM.out.c underlying41 D cn ?_)
  | (go_at_call 8;refine(wB M S _ HS.out HSZ.out).mono ?_;rintro e w1 ⟨S1,rfl,hO,I⟩;have HO:Hid (OwnS (w.heap.size+4) S1 M w1):=hid (by simpa using hO);have HBM1:=hid (HBM.out.kept I);have HRB1:=hid (HRB.out.kept I);have HB1:=hid I;clear hO I)
  | (refine zcX D 107 0 _ D (ac (υ M S1).toArray) _ D (xq M S1 _) ?_))
 have hB1:w.heap.size+4<=w1.heap.size:=by
  obtain⟨kk,L,_,_,hBk,hbx,_⟩:=HO.out.own 0 (by omega);have:=hbx.z;omega
 obtain⟨F,hFB,hFg,hlo,hGK,hGC⟩:=zyg HO.out HF.out hB1 (HFX.out.kept HB1.out) (by have:=HG.out;omega) 107;obtain⟨w2,P⟩:∃ w2,w2=((w1.alloc (χ (υ M S1++sj).toArray 107)).alloc (χ #[κ G 0 0,κ G 0 0,κ G 0 0] 47)):=⟨_,D⟩
 rw[<- P] at hGC;have R:Below w1.heap.size w1 w2:=by rw[P];exact stA (stA (aR w1) _) _
 have HBM2:=hid (HBM1.out.kept R);have HRB2:=hid (HRB1.out.kept R);have HLW2:=hid (bw (bw HW0.out HB1.out) R);have k:=hid hGK;have HLO:=hid hlo;have HGC:=hid hGC;have HFB:=hid hFB;rw[<- hFg] at *;clear hGK hGC hlo R HBM HRB HS HFX HB1 HO hB1 HBM1 HRB1 hFB;have HW2:=hid P;refine Pl.cutW (λι=>Wl F (F.g+1) (F.g+1) w (υ aD aP) k0 [] (κ G 0 0) ι/\Bx ι w.heap.size (υ M S)) (by rw[<- HW2.out];exact⟨Wl.start (by rw[HK0.out];exact HGC.out) HLW2.out HRB2.out (by have:=HFB.out;omega),HBM2.out⟩) ?_;intro ι hY;have l:=hY.2.at 72 (J Q M.clock) D;have xz:=hY.2.z;have HY:=hid hY.1;clear hY P HGC HBM2 HRB2 HLW2 HW2;obtain⟨e,he⟩:∃ e:Int,e=M.clock+N:=⟨_,D⟩
 have hwr:IntKind.i64.wrap (M.clock+(N:Int))=e:=by rw[aH];have:=HN.out;omega
 have he2:e<=200000:=by have:=HN.out;omega
 have HE:=hid he;clear he;go_wp2;clear l xz hwr;go_loopw [6] (λv6 wr=>∃(j:Nat) (js:List Nat) (ps:List (Mach × Sl)),j<=N/\Way M inp N js j/\ps.map Prod.fst=js.map (M.aft inp)/\Wl F (F.g+1) (F.g+1) w (υ aD aP) (k0.clocks j) ps v6 wr) (λ_ wr=>e.toNat-pU F.g wr)
 case atStart=>exact⟨0,[],[],bh _,Way.nil,D,HY.out⟩
 case round =>
  obtain⟨j,js,ps,hj,hWy,hps,hX⟩:=hrel;obtain⟨av,cv,ev⟩:=vT hX.own;subst ev;obtain⟨c,hc⟩:∃ c:Int,c=M.clock+(j:Int):=⟨_,D⟩
  have hck:=p.out j;have l:=hX.at 72 (J Q (k0.clocks j).s.M.clock) (by omega) D;rw[hck,<- hc] at l;have hcl:=zkx l;have xz:=hX.gz;have HX:=hid hX;have HWY:=hid hWy;have HPS:=hid hps;have HCE:=hid hc;have HCL:=hid hcl;have hc0:0<=c:=by have:=HC0.out;omega
  have HJ:=hid hj;clear HY hX hWy hps hck hcl hj;by_cases T:j<N
  ·have hce:c<e:=by have:=HE.out;omega
   have hc1:c<200000:=by omega
   have hps1:ps.length<=500:=by
    have h1:=congrArg List.length HPS.out;rw[bf,bf] at h1;have:=(HWY.out.le HR.out).2;have:=HN.out.1;omega
   obtain⟨X,h⟩:∃ X,X=(k0.clocks j).s.M:=⟨_,D⟩
   have r:=hid h;obtain⟨q,hq⟩:∃ q,q=wnx M inp N j:=⟨_,D⟩
   have m:Hid (j<q/\q<=N):=hid (by rw[hq];exact zqx HR.out T);have HQ:=hid hq;have hnxt:max (if X.held then X.mready else min X.mready X.aready) (c+1)=X.next:=by
    unfold Mach.next;rw[h,p.out j,<- hc]
   have a:min X.next e=M.clock+q:=by
    have h1:=zvc HR.out T;rw[<- HA.out j,<- h,<- HE.out,<- hq] at h1;have h2:=m.out.1;omega
   obtain⟨t,ht⟩:∃ t:Int,t=M.clock+q:=⟨_,D⟩
   rw[<- hnxt,<- ht] at a;have HMIN:=hid a;have HT:=hid ht;have HLT:=hid T
   have y:Hid (wr.rangeAt F.g 0 (υ X F.S)/\cf wr F.S X/\X.fit):=hid (by
    obtain⟨vl,vs,hcc⟩:=HX.out.c;obtain⟨vv,hd⟩:=hcc.gd;rw[h];exact⟨hd.row,hd.slAt,hd.fit⟩)
   have HPL:=hid hps1;clear h hq hnxt a ht T hps1 hc;go_upto_region 6 with(first
    | (at_builtin;refine zpb (M:=X) (S:=S1) D _ _ (by rfl) (by rfl) HOW.out w3.heap.size (by rfl) HBX.out U.out (by have:=HPL.out;omega) HBZ.out ?_;intro g' L W3 B hg'
       refine Pl.cutL (Wl F (F.g+1) (F.g+1) w (υ aD aP) (k0.clocks j) (ps++[(X,S1)]) (κ (A ⟨g',0,G⟩) (ps.length+1) L)) (Wl.saw k.out HX.out W.out HO3.out (HX.out.nz k.out) y.out.2.2 hg' B) ?_;intro V hV;have n:=hid hV;clear hV B hg')
    | (refine zmB D _ D X S1 D ?_
       have HOW:Hid ((w3.alloc (χ (υ X S1).toArray 41)).ownsRow (F.g+1) 41 75 (κ av ps.length cv) ps.length (qR ps)):=hid (HX.out.kept (bw W.out (stA (aR w3) _))).own;have HBX:=hid (Bx.new w3 (υ X S1) 41 (b:=w3.heap.size) D);have U:=hid (kC HO3.out.slAt);have HBZ:Hid (F.g+1<=(w3.alloc (χ (υ X S1).toArray 41)).heap.size):=hid (HX.out.kept (bw W.out (stA (aR w3) _))).nz k.out)
    | (go_at_call 8;refine(wB X F.S _ y.out.2.1 (λj hj=>ax (zF y.out.2.2 j hj) (by decide))).mono ?_;rintro e3 w3 ⟨S1,rfl,hO3,hb3⟩;have HO3:=hid hO3;have W:=hid hb3;clear hO3 hb3)
    | (refine wpList_load_mid D 41 _ D F.g 0 D (υ X F.S) _ y.out.1 underlying41 D cn ?_))
   clear y HX l HOW HBX U HBZ HO3 W;have y72:=n.out.at 72 (J Q (k0.clocks j).s.M.clock) (by omega) D;have y73:=n.out.at 73 (J Q (k0.clocks j).s.M.mready) (by omega) D;have y68:=n.out.at 68 (ν (k0.clocks j).s.M.held) (by omega) D;have y74:=n.out.at 74 (J Q (k0.clocks j).s.M.aready) (by omega) D;rw[p.out j,<- HCE.out] at y72;rw[<- r.out] at y73 y68 y74;have yz:=n.out.gz;have a:=HMIN.out;obtain⟨hd,hhd⟩:∃ b,b=X.held:=⟨_,D⟩
   rw[<- hhd] at y68 a;clear hhd;cases hd;all_goals
    simp only[fO,fj,cD] at a;go_wp2;clear y72 y73 y68 y74 yz a;go_loopw [] (λwi=>∃ i:Nat,j<=i/\i<=q/\Wl F (F.g+1) (F.g+1) w (υ aD aP) (k0.clocks i) (ps++[(X,S1)]) (κ (A ⟨g',0,G⟩) (ps.length+1) L) wi) (λwi=>e.toNat-pU F.g wi)
    case atStart=>exact⟨j,ψ _,iy m.out.1,n.out⟩
    case round =>
     obtain⟨i,hi1,hi2,Z⟩:=hrel;obtain⟨d,hdc⟩:∃ d:Int,d=M.clock+(i:Int):=⟨_,D⟩
     have z72:=Z.at 72 (J Q (k0.clocks i).s.M.clock) (by omega) D;rw[p.out i,<- hdc] at z72;have hcl2:=zkx z72;have HCL2:=hid hcl2;have zz:=Z.gz;have E:=hid Z;have HDC:=hid hdc;have HI:=hid (And.intro hi1 hi2);clear Z hdc hi1 hi2 hcl2;by_cases hlt2:i<q
     ·have hdt:d<t:=by have:=HDC.out;have:=HT.out;omega
      have HL2:=hid hlt2
      have HNX:=hid (by
       obtain⟨vl,vs,hcc⟩:=E.out.c;exact zyf k.out hcc ((HIN.out.kept E.out.low).mono (by have:=E.out.z;omega)) HOK.out HLI.out (HD0.out.clocks i) (HM.out i (by have:=m.out;omega)))
      clear hlt2;go_wp2_with (go_at_call 41;refine HNX.out.mono ?_;rintro e4 w4 ⟨rfl,vl2,vs2,hG2⟩;have HX2:Hid (Wl F (F.g+1) (F.g+1) w (υ aD aP) (k0.clocks (i+1)) (ps++[(X,S1)]) (κ (A ⟨g',0,G⟩) (ps.length+1) L) w4):=hid (Wl.clock k.out E.out hG2);clear hG2)
      have u72:=HX2.out.at 72 (J Q (k0.clocks (i+1)).s.M.clock) (by omega) D;rw[p.out (i+1)] at u72;have hu:=zkx u72;refine⟨⟨i+1,by have:=HI.out;omega,by have:=HL2.out;omega,HX2.out⟩,?_⟩;rw[hu,HCL2.out,HDC.out];have:=HE.out;have:=HL2.out;have:=m.out;have:=HC0.out;omega
     ·have hdt:¬ d<t:=by have:=HDC.out;have:=HT.out;omega
      have hiq:i=q:=by have:=HI.out;omega
      subst hiq;go_wp2;refine⟨⟨i,js++[j],ps++[(X,S1)],m.out.2,by rw[HQ.out];exact Way.cons HWY.out HLT.out,by rw[gQ,gQ,HPS.out];simp[r.out,HA.out],E.out⟩,?_⟩;rw[HCL2.out,HCL.out,HDC.out,HCE.out];have:=HE.out;have:=m.out;have:=HC0.out;omega
  ·have hjn:j=N:=by have:=HJ.out;omega
   subst hjn;have hnl:¬ c<e:=by have:=HE.out;have:=HCE.out;omega
   go_upto_region 12 with fail
   refine Pl.cutW (Wl F (F.g+1) (F.g+1) w (υ aD aP) (k0.clocks j) ps (κ av ps.length cv)) HX.out ?_;intro Y1 hY1;have HY:=hid (hY1.kept (aR Y1).drew);have hXA:=HA.out j;have hfi:=(HY.out.fin k.out HLO.out)
   have hwf:=HY.out.wf;rw[hXA] at hfi hwf;have HFI:=hid hfi;have HWF:=hid hwf;have U:=hid (kC hwf.sl);obtain⟨X,h⟩:∃ X,X=M.aft inp j:=⟨_,D⟩
   have r:=hid h;rw[<- h] at HFI HWF;clear hY1 HX hXA hfi hwf h l;refine wp_region_held_drew (S:=λw'=>w'.rangeAt F.g 0 (υ X F.S)) (by kernel_rfl) (HWF.out.g) ?_;intro hS;refine dy 0 ⟨A 73,_,_,_,_,G⟩ hS ?_;simp only[ag,xA,xB,xC];refine dy 1 ⟨A 74,_,_,_,_,G⟩ hS ?_;simp only[ag,xA,xB,xC];refine dy 2 ⟨A 75,_,_,_,_,G⟩ hS ?_;simp only[ag,xA,xB,xC];refine dy 3 ⟨A 76,_,_,_,_,G⟩ hS ?_;simp only[ag,xA,xB,xC];refine jW 4 (ac (υ X F.S).toArray) D (λw' hSw=>ml 41 _ D F.g 0 D (υ X F.S) _ hSw underlying41 D cn) hS ?_;refine dy 5 ⟨A 6,_,_,_,_,G⟩ hS ?_;simp only[ag,xA,xB,xC];clear hS;refine tK (i:=6) (op:=⟨G,_,_,_,_,G⟩) (by kernel_rfl) D D 41 _ _ D (w.heap.size+1) 0 (υ X F.S).toArray D D (HWF.out.rb.there 0 75 (by rw[dG];omega)) cn (iq _ _ U.out) HFI.out.g ?_;refine wpAnyH_done (by kernel_rfl) ?_ _;refine Pl.cutE (Wf F w (υ X F.S) X ps (κ av ps.length cv)) HFI.out ?_;intro V hV;have n:=hid hV;clear hV HY HFI HWF
   go_wp2;refine Ξ (v:=.tuple #[κ av ps.length cv,ac (υ X F.S).toArray]) ?_ D ⟨κ av ps.length cv,ps,F.S,js,by rw[r.out],HWY.out,HPS.out,n.out.row,n.out.cp,by rw[<- r.out];exact n.out.sl,n.out.low,n.out.ft⟩;have l1:=run_loadVar_mid V (w.heap.size+1) 0 41 _ _ n.out.rb.c underlying41 D cn;simp only[results,results26];simp;show (aE (Sem.run ω (loadVar 41 ⟨w.heap.size+1,0,G⟩) V) _)=_;rw[l1];rfl
theorem zxF(w:u)(t:TypeId):sliceAt (w.alloc (χ #[J au 0,J au 6,J au 0,J au 0,J au 0,J au 0,J au 121,J au 31,J au 216,J au 0] t)) (κ (A ⟨w.heap.size,0,G⟩) 10 10) jK:=by
 refine ao ⟨w.heap.size,0,10,D,by decide,by simp,λi c hi=>?_⟩;have hB:=Bx.new w [J au 0,J au 6,J au 0,J au 0,J au 0,J au 0,J au 121,J au 31,J au 216,J au 0] t (b:=w.heap.size) D;rw[aX];refine hB.at i _ ?_;have a:=(ay.1 hi).1;have hc:i=0 \/ i=1 \/ i=2 \/ i=3 \/ i=4 \/ i=5 \/ i=6 \/ i=7 \/ i=8 \/ i=9:=by simp[jK] at a;omega
 rcases hc with rfl|rfl|rfl|rfl|rfl|rfl|rfl|rfl|rfl|rfl <;> (cases hi;rfl)
theorem zxG(Z:u):kO (Z.alloc (χ (lE rC).toArray 78)) (κ (A ⟨Z.heap.size,0,G⟩) 2 2) rC.length 4 (lE rC) :=
 ⟨D,ao ⟨Z.heap.size,0,2,D,ψ _,by simp,λj x a=>by rw[aX];exact(Bx.new Z (lE rC) 78 (b:=Z.heap.size) D).at j x a⟩⟩
theorem LBx.keep{w:u}{b:Nat}{M:Mach}{S:Sl}{ι Y':u}(h:LBx w b M S ι)(hb:Below ι.heap.size ι Y'):LBx w b M S Y':=⟨bw h.low hb,h.ge,h.bx.kept hb,h.sl.kept hb⟩
theorem Wc.watched(w:u)(hF:AF w):Δ ω 25 #[] w λe w'=>e=μ (ν Γ)/\Below w.heap.size w w':=by
 have M:=hid hF;clear hF;go_enter func25,ntmps25;go_upto_region 4 with(first
  | (go_at_call 37;refine(zK jK [] _ (κ G 0 0) _ (zxF w _) (zuB _) (by decide) (by decide)).mono ?_;rintro e w2 ⟨f,rfl,h,n,N,o⟩
     change cf w2 f oT at h
     have i:=hid h;have b:Hid oT.fit:=hid n;have p:=hid (bw (stA (aR w) _) o);rw[show dv jK []=oT from D];clear h n N o)
  | (go_at_call 24;refine(Wc.trace oT f (κ G 0 0) [] 5 _ (M.out.kept a.out.low) a.out.sl (λk P=>ax (zF b.out k P) (by decide)) { b.out with main:=b.out.main } (AW _ _) (λx R=>by cases R) ⟨by decide,by decide⟩).mono ?_
     rintro e q ⟨vl,X,SX,er,acc,rfl,r,T,s,g⟩;obtain⟨rfl,rfl⟩:=zzQ r;obtain⟨U,V,el⟩:=vT T;subst el;have v:=hid (vU T);have y:=hid (kC s);have z:Hid (LBx w w2.heap.size oT f q):=hid ⟨bw a.out.low g,a.out.ge,a.out.bx.kept g,a.out.sl.kept g⟩;clear r T s g)
  | (go_at_call 29;refine(Wc.break oT f (κ G 0 0) [] 5 8 _ (M.out.kept d.out.1.low).shapes d.out.1.sl (λk P=>ax (zF b.out k P) (by decide)) { b.out with main:=b.out.main } (AW _ _) (λx R=>by cases R) ⟨by decide,by decide⟩).mono ?_
     rintro e m ⟨Z,SZ,t,er,acc,rfl,r,B,j⟩;obtain⟨rfl,rfl⟩:=zzR r;have E:=hid (kC B);have l:Hid (Below w.heap.size w m/\kO m (κ U rC.length V) rC.length 4 (lE rC)):=hid ⟨bw d.out.1.low j,d.out.2.kept j⟩;clear r B j)
  | (refine wpList_store_mid D 41 _ _ D m.heap.size 0 (υ Z SZ).toArray D D (R1.th m) cn (iq _ _ E.out) ?_
     refine Pl.cutL (λι=>Below w.heap.size w ι/\kO ι (κ U rC.length V) rC.length 4 (lE rC)) ⟨bw l.out.1 (ni (stA (aR m) _) (ψ _) _ _),l.out.2.kept (ni (stA (aR m) _) (ψ _) _ _)⟩ ?_;intro Y6 F;have H:=hid F;clear F)
  | (refine wpList_store_mid D 41 _ _ D q.heap.size 0 (υ X SX).toArray D D (R1.th q) cn (iq _ _ y.out) ?_
     refine Pl.cutL (λι=>LBx w w2.heap.size oT f ι/\kO ι (κ U rC.length V) rC.length 4 (lE rC)) ⟨LBx.keep z.out (ni (stA (aR q) _) (ψ _) _ _),v.out.kept (ni (stA (aR q) _) (ψ _) _ _)⟩ ?_;intro Y4 I;have d:=hid I;clear I)
  | (refine wpList_store_mid D 41 _ _ D w2.heap.size 0 (υ oT f).toArray D D (R1.th w2) cn (iq _ _ (kC i.out)) ?_
     refine Pl.cutL (LBx w w2.heap.size oT f) (LBx.mk0 p.out i.out) ?_;intro Y1 L;have a:=hid L;clear L)
  | (refine wpList_load_mid D 41 _ D w2.heap.size 0 D (υ oT f) _ d.out.1.bx.c underlying41 D cn ?_)
  | (refine wpList_load_mid D 41 _ D w2.heap.size 0 D (υ oT f) _ a.out.bx.c underlying41 D cn ?_))
 clear a z d l M b i p y E v;go_wp2_with (go_at_call 28;refine(Wc.sameDid _ _ rC _ (H.out.2.kept (stA (aR Y6) _)) (zxG Y6) (by decide)).mono ?_;rintro e w9 ⟨rfl,W⟩)
 go_ret;exact⟨D,bw (stA H.out.1 _) W⟩
end Go.Proofs.YthghjlinhokimaaGreatDoor
