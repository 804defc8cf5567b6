/-
  For every machine, anything that is pressed and every number the law CatchRun of the program returns true and leaves its arguments as they were; the listed library variables are as the tied card says.
-/
import Derived.Test.YthghjlinhokimaaGreatDoorZbA
import Derived.Test.YthghjlinhokimaaGreatDoorZbCatchRun00
import Derived.Test.YthghjlinhokimaaGreatDoorCards
import Derived.Test.YthghjlinhokimaaGreatDoorTie
import Derived.Test.YthghjlinhokimaaGreatDoorZb43
set_option linter.all false
set_option maxRecDepth 100000
set_option maxHeartbeats 6400000
open Option renaming none->G,some->A
open Go renaming World->u,Value->π,Calls->Δ,TypeId->aJ,loadVar->bC,MemPlace->dZ,DataW->fF,binOp->fG,laidMetH->gS,reachBytes->iS
open Bool renaming false->ξ,true->Γ
open Go.Proofs.Tryz renaming prog->ω
open Go.Act renaming put->ag
open Or renaming inl->aj,inr->ao
open Go.Result renaming andThen->aE
open Go.RowKit renaming intOf->aU,Hid->bG
open Go.Value renaming oneCell'->bi,okWide->bU,int->J,slice->κ,bool->ν,tuple->Ψ,agg->ac
open Go.Sem renaming run->bL
open Go.OpenSpec renaming ofChange->bQ
open Go.DataW renaming trod->dh,Trod->dm,weights->qu
open Go.Program renaming fieldsOf->dX
open Go.Ending renaming returned->μ
open Go.IntKind renaming i64->Q,u16->Y,u8->au
open Go.Obj renaming cells->χ
namespace Go.Proofs.YthghjlinhokimaaGreatDoor
open Go.ChangeShapes Go.WideShapes Go.ChangeAt Go.RowKit Go.Proofs.Tryz
def kS:Prop:=∀(H:Type) (enc:aJ × π->H) (W:u) (base:Nat) (v0 a v2:π) (b d1 d2:fF H) (p0 p1 p2:List dZ),(AF W/\Facts W /\ ∀ n∈b.weights ω 41,n<=iS) ->
 bU ω W .any base (Tryz.f4.params.getD 0 0) v0->dm enc ω W 0 (λ_=>Γ) Γ (Tryz.f4.params.getD 0 0) v0 b p0->bU ω W .any base (Tryz.f4.params.getD 1 0) a->dm enc ω W 0 (λ_=>Γ) Γ (Tryz.f4.params.getD 1 0) a d1 p1->bU ω W .any base (Tryz.f4.params.getD 2 0) v2->dm enc ω W 0 (λ_=>Γ) Γ (Tryz.f4.params.getD 2 0) v2 d2 p2 ->
 Δ ω 4 #[v0,a,v2] W λe w'=>e=μ (ν Γ)/\Below W.heap.size W w'
def zg3(d:kS)(os:Os)(b:os.Started)(H:Type)(enc:aJ × π->H):ReturnsInHanded {} Tryz.checked os 4 .any (λw args=>(Rows.catchRunSpec.pre enc ω Tryz.f4 [] ξ w args/\gS ω Rows.catchRunRow.laid w)/\sizedMet enc ω Tryz.f4 (bQ Rows.catchRunSpec) ξ w args)
  (Rows.catchRunSpec.post enc ω Tryz.f4 ξ Γ ξ ξ):=by
 refine zbe (C:=Tryz.checked) (X:=λw _=>gS ω Rows.catchRunRow.laid w) (λ_ _ _ E h=>h.of_heap E) own b (by kernel_rfl) func4
  (ChangeSpec.witness_shaped (enc:=enc) (C:=Tryz.checked) (os:=os) (X:=λw _=>gS ω Rows.catchRunRow.laid w) ξ (World.laidAll ω os Rows.catchRunRow.laid) #[ac #[J Y 0,J Y 0,J Y 0,J Y 0,J Y 0,J Y 0,J Y 0,J Y 0,J Y 0,ν ξ,ν ξ,ν ξ,ν ξ,ν ξ,ν ξ,J Y 0,J Y 0,J Y 0,J Y 0,J Y 0,J Y 0,J Y 0,J Y 0,J Y 0,ν ξ,ν ξ,ν ξ,ν ξ,ν ξ,ν ξ,κ G 0 0,κ G 0 0,κ G 0 0,κ G 0 0,κ G 0 0,J au 0,ν ξ,J au 0,J au 0,ν ξ,J au 0,J Y 0,J Y 0,ν ξ,ν ξ,J Y 0,J Y 0,J au 0,ν ξ,J Y 0,J Y 0,J Y 0,J au 0,ν ξ,J Y 0,J Y 0,J Y 0,J au 0,ν ξ,J Y 0,J Q 0,J Q 0,J Q 0,ν ξ,J Q 0,J Y 0,J Y 0,ν ξ,ν ξ,J au 0,J au 0,ν ξ,J Q 0,J Q 0,J Q 0],κ G 0 0,J Q 0] 8 (World.laidAll_os _ _ _)
    (World.shaped_of_ZipB (by kernel_rfl) (by kernel_rfl)) (by kernel_rfl) (by kernel_rfl) (by kernel_rfl)
    (by rw[MakeChecks.laidMetH_plain _ _ _ (by kernel_rfl)];exact laidMet_laidAll _ (by kernel_rfl) (by kernel_rfl))) ?_
 intro W base args F gs i c B _ k l f _;have a:∀(j:Nat) t v,Tryz.f4.params[j]?=A t->args[j]?=A v->bU ω W .any base t v:=c;have g:=B;obtain⟨p,q,m,I,rfl,_,_⟩:=B;have o:DataW.TrodAll enc ω W 0 (λ_=>Γ) Γ Tryz.f4.params.toList args.toList F p:=m;have r:=o;rw[Tryz.params4] at o a;obtain⟨v0,L,M,N,p0,q0,s,rfl,rfl,P,r0⟩:=cR o;obtain⟨y,R,d1,T,p1,q1,rfl,rfl,rfl,h1,r1⟩:=cR r0;obtain⟨v2,U,d2,V,p2,q2,rfl,rfl,rfl,h2,r2⟩:=cR r1;obtain⟨rfl,rfl,rfl⟩:=kx r2;obtain rfl:args=#[v0,y,v2]:=by cases args;simp_all
 obtain⟨rfl,rfl⟩:=kl I;rw[MakeChecks.laidMetH_plain _ _ _ (by kernel_rfl)] at l;have z:=λx Z=>g.lt x (gZ _ Z)
 refine(d H enc W base v0 y v2 M d1 d2 _ _ _ (⟨sL l f (by simp[Rows.catchRunRow]) (by simp[Rows.catchRunRow]),Ag l f (by simp[Rows.catchRunRow]) (by simp[Rows.catchRunRow]),λn hn=>by have:=cx.1 k n (DataW.weights_mem_each (j:=0) D D n hn);simpa using this⟩) (a 0 _ v0 D D) P (a 1 _ y D D) h1 (a 2 _ v2 D D) h2).mono λe W' ⟨he,hb⟩=>?_
 subst he;exact⟨_,D,_,_,_,[],_,[],g,lM (nM underlying4 _),Af (by kernel_rfl) hb (by kernel_rfl) r z,D,hb.frame _,λh=>by cases h⟩
def aW{a b:Bool}(c:a=Γ)(hb:b=Γ):(a && b)=Γ:=by rw[c,hb];rfl
def zpi:(Rows.catchRunRow.wf (bQ Rows.catchRunSpec))=Γ:=by kernel_rfl
def zpj:(laidOutB ω)=Γ:=by kernel_rfl
def zpk:(mapsRowed ω)=Γ:=by kernel_rfl
def zpl:(Tryz.f4.params.all (Tryz.prog.readableRec ·))=Γ:=by kernel_rfl
def zpm:(namedTie ω Rows.catchRunRow.named Rows.catchRunSpec.vars)=Γ:=by kernel_rfl
def zpn:((Rows.catchRunRow.stops == []))=Γ:=by kernel_rfl
def zpo:((Tryz.prog.stops == []))=Γ:=by kernel_rfl
def zpp:((Rows.catchRunRow.knobs == []))=Γ:=by kernel_rfl
def zpq:((Tryz.prog.stopKnobs == []))=Γ:=by kernel_rfl
def zpr:((Rows.catchRunRow.inPlace == Tryz.prog.inPlace 4))=Γ:=by kernel_rfl
def zmF:((Rows.catchRunRow.unfollowed == Tryz.prog.unfollowed 4))=Γ:=by kernel_rfl
def zmG:((Rows.catchRunRow.recurses == Tryz.prog.recurses 4))=Γ:=by kernel_rfl
def zmH:((Rows.catchRunRow.named == Tryz.prog.varsNamed 4))=Γ:=by kernel_rfl
def zmI:((Rows.catchRunRow.maps == (Tryz.f4.params.toList++Rows.catchRunSpec.plain.varTypes ω).any (Tryz.prog.mapsRec ·)))=Γ:=by kernel_rfl
def zmJ:((Rows.catchRunRow.ifaces == (Tryz.f4.params.toList++Rows.catchRunSpec.plain.varTypes ω).any (Tryz.prog.ifacesRec ·)))=Γ:=by kernel_rfl
def zmK:((Rows.catchRunRow.mapsOut == Tryz.prog.mapsAmong Tryz.f4.resultTypes.toList))=Γ:=by kernel_rfl
def zmL:((Rows.catchRunRow.loops == (Tryz.f4.params.toList++Rows.catchRunSpec.plain.varTypes ω).any (Tryz.prog.loopsFrom ·)))=Γ:=by kernel_rfl
def zmM:((Rows.catchRunRow.wideKeys == (Tryz.f4.params.toList++Rows.catchRunSpec.plain.varTypes ω++Tryz.f4.resultTypes.toList).any (Tryz.prog.wideKeysFrom ·)))=Γ:=by kernel_rfl
def zmN:(Rows.catchRunSpec.vars.all (Tryz.prog.varReadable ·))=Γ:=by kernel_rfl
def zmO:(Tryz.f4.resultTypes.all (λt=>Tryz.prog.readableRec t && decide (t<Tryz.prog.types.size)))=Γ:=by kernel_rfl
def zmP:((Rows.catchRunRow.ifacesOut == Tryz.f4.resultTypes.toList.any (Tryz.prog.ifacesRec ·)))=Γ:=by kernel_rfl
def zmQ:((Rows.catchRunRow.loopsOut == Tryz.f4.resultTypes.toList.any (Tryz.prog.loopsFrom ·)))=Γ:=by kernel_rfl
def zmR:((Rows.catchRunRow.plainKeys == Tryz.prog.plainKeys))=Γ:=by kernel_rfl
def zmS:(Rows.catchRunRow.shortTexts.isNone)=Γ:=by kernel_rfl
def zmT:(Tryz.prog.stopsHeard)=Γ:=by kernel_rfl
def zmU:(Tryz.prog.mayEnter)=Γ:=by kernel_rfl
def zmV:((Rows.catchRunRow.lifted == Tryz.prog.liftsFinal))=Γ:=by kernel_rfl
def zmW:((Tryz.prog.make == A Rows.catchRunRow.make))=Γ:=by kernel_rfl
def zmX:((Rows.catchRunRow.kinds == (if Rows.catchRunRow.domain.isEmpty then [] else Tryz.f4.params.toList.map λt=>match Tryz.prog.underlying t with|some (.int k)=>A k|_=>G)))=Γ:=by kernel_rfl
def zmY:((Rows.catchRunRow.pinned == Rows.catchRunRow.pinnedBy))=Γ:=by kernel_rfl
def zmZ:((Rows.catchRunRow.veiled == (Tryz.f4.params.toList++Rows.catchRunSpec.plain.varTypes ω++Tryz.f4.resultTypes.toList).any (Tryz.prog.veiledRec ·)))=Γ:=by kernel_rfl
def zm0:(Rows.catchRunRow.veiledFits ω Tryz.f4.params.toList (Tryz.f4.params.toList++Rows.catchRunSpec.plain.varTypes ω++Tryz.f4.resultTypes.toList))=Γ:=by kernel_rfl
def zh7:joinedFacts ω 4 Tryz.f4 Rows.catchRunSpec Rows.catchRunRow=Γ:=aW (aW (aW (aW (aW (aW (aW (aW (aW (aW (aW (aW (aW (aW (aW (aW (aW (aW (aW (aW (aW (aW (aW (aW (aW (aW (aW (aW (aW (aW (aW (zpi) zpj) zpk) zpl) zpm) zpn) zpo) zpp) zpq) zpr) zmF) zmG) zmH) zmI) zmJ) zmK) zmL) zmM) zmN) zmO) zmP) zmQ) zmR) zmS) zmT) zmU) zmV) zmW) zmX) zmY) zmZ) zm0
def zm1(b:kS):Rows.CatchRunSaid :=
 fR 4 Tryz.f4 rfl rfl rfl rfl rfl rfl rfl ⟨D,D,D,D,D⟩ rfl rfl rfl rfl rfl (by kernel_rfl) func4 zh7
  (du (by kernel_rfl)) (by unfold Func.isWrapper;first|(rw[am (by decide +kernel)];kernel_rfl)|(rw[ae (by decide +kernel)];exact⟨D,D⟩))
  (λos a H enc _=>zg3 b os a H enc)
def zps:Rows.catchRunRow.wfByText (bQ Rows.catchRunSpec)=Γ:=by kernel_rfl
def zpt:Tryz.pinned.checked.prog.mainIs=A (Rows.catchRunCard.stood.harness.1,Rows.catchRunCard.stood.harness.2.toList):=by kernel_rfl
def zpu:(!Rows.catchRunCard.stood.harness.1 && Rows.catchRunCard.stood.harness.2.isEmpty && !Rows.catchRunCard.stood.looks)=ξ:=by kernel_rfl
def zpv:Tryz.pinned.checked.prog.funcNamed Rows.catchRunRow.func=A 4:=by kernel_rfl
def zpw:Rows.catchRunCard.stood.looks=Tryz.pinned.checked.prog.looks []:=by kernel_rfl
def zpx:(Tryz.f4.params.toList.all λt=>!(Tryz.pinned.checked.prog.wantsStandIn t))=Γ:=by kernel_rfl
def zpy:ξ=Rows.catchRunRow.goesBy Tryz.pinned.checked.prog:=by kernel_rfl
def zkS(a:kS):Rows.CatchRunCardSaid :=
 Claim7.holds_tied_plain_at .later [] Rows.catchRunCard.laidKinds Γ Rows.catchRunCard.stood.harness Rows.catchRunCard.stood.looks (zm1 a) (λ_ h=>by cases h) zps (λ_ h=>by cases h) catchRun_row_tie D ⟨D,D⟩ zpt zpu
  (λf c d b=>by
    obtain rfl:4=f:=aL (zpv.symm.trans d);obtain rfl:Tryz.f4=c:=aL (Tryz.func4.symm.trans b);exact⟨zpw,λj t e=>by
     have g:t∈Tryz.f4.params.toList:=bu (i:=j) (by rw[eu];exact e);have:=cx.1 zpx t g;exact iP _ ▸ this⟩)
  zpy
structure Rn where
 r:Nat
 b1:Nat
 b2:Nat
 b3:Nat
 b4:Nat
 b5:Nat
 b6:Nat
abbrev evs(b1 b2:Nat):List π:=[.func (.func 153) #[] #[pt b1 0],.func (.func 155) #[] #[pt b2 0],.func (.func 157) #[] #[pt b2 0],.func (.func 159) #[] #[pt b2 0]]
abbrev pts(b4 b5:Nat):List π:=[.func (.func 161) #[] #[pt b5 0],.func (.func 163) #[] #[pt b5 0],.func (.func 164) #[] #[pt b5 0],.func (.func 166) #[] #[pt b5 0],.func (.func 167) #[] #[pt b4 0]]
structure EvB (F : Fx) (c b1 b2 b3 : Nat) (w : u) : Prop where
 x1:w.heap[b1]?=A (χ #[pt c 0] 84 (0,0))
 x2:w.heap[b2]?=A (χ #[pt F.g 0] 88 (0,0))
 x3:w.heap[b3]?=A (χ (evs b1 b2).toArray 250 (0,0))
structure PtB (F : Fx) (c b4 b5 b6 : Nat) (w : u) : Prop where
 x1:w.heap[b4]?=A (χ #[pt c 0] 84 (0,0))
 x2:w.heap[b5]?=A (χ #[pt F.g 0] 88 (0,0))
 x3:w.heap[b6]?=A (χ (pts b4 b5).toArray 168 (0,0))
structure RnB (F : Fx) (N c : Nat) (e : Int) (R : Rn) (w : u) : Prop where
 n:N<=R.r/\N<=R.b1/\N<=R.b2/\N<=R.b3/\N<=R.b4/\N<=R.b5/\N<=R.b6
 ne:R.r≠c/\R.b1≠c/\R.b2≠c/\R.b3≠c/\R.b4≠c/\R.b5≠c/\R.b6≠c
 xr:w.heap[R.r]?=A (χ #[pt c 0,J Q e,κ (A ⟨R.b3,0,G⟩) 4 4,κ (A ⟨R.b6,0,G⟩) 5 5] 165 (0,0))
 ev:EvB F c R.b1 R.b2 R.b3 w
 pb:PtB F c R.b4 R.b5 R.b6 w
def sI{w:u}{b:Nat}{cs:Array π}{t:aJ}{fr:Nat × Nat}(h:w.heap[b]?=A (χ cs t fr))(i:Nat)(v:π)(e:cs[i]?=A v):w.cell? ⟨b,i,G⟩=A v:=(Lib.cell_of_heap h i).trans e
def three(w:u)(o1 o2 o3:Obj):(((w.alloc o1).alloc o2).alloc o3).heap[w.heap.size]?=A o1/\(((w.alloc o1).alloc o2).alloc o3).heap[w.heap.size+1]?=A o2/\(((w.alloc o1).alloc o2).alloc o3).heap[w.heap.size+1+1]?=A o3:=by
 have e1:(((w.alloc o1).alloc o2).alloc o3).heap=((w.heap.push o1).push o2).push o3:=D;rw[e1];refine⟨?_,?_,?_⟩
 ·rw[ga,ae (by simp;omega),ga,ae (by simp),ga,am D]
 ·rw[ga,ae (by simp),ga,am (by simp)]
 ·rw[ga,am (by simp)]
section
variable {F : Fx} {N c : Nat} {vco vln vsm : π} {w w1 w2 w3 : u} {k q : Cs} {M M' : Mach} {tk : Tk} {e tt : Int} {R : Rn} {b1 b2 b3 b4 b5 b6 : Nat}
def EvB.kept(h:EvB F c b1 b2 b3 w)(hb:Below w.heap.size w w1):EvB F c b1 b2 b3 w1 :=
 ⟨(hb.block _ (aa.1 h.x1).1).trans h.x1,(hb.block _ (aa.1 h.x2).1).trans h.x2,(hb.block _ (aa.1 h.x3).1).trans h.x3⟩
def RnB.kp(h:RnB F N c e R w)(k:Kp N c w w1):RnB F N c e R w1:=by
 obtain⟨a,b,d,f,g,i,j⟩:=h.n;obtain⟨m0,m1,l,m,o,p,m6⟩:=h.ne
 exact⟨h.n,h.ne,k _ _ _ _ a m0 (by decide) (by decide) (by decide) h.xr,
  ⟨k _ _ _ _ b m1 (by decide) (by decide) (by decide) h.ev.x1,k _ _ _ _ d l (by decide) (by decide) (by decide) h.ev.x2,k _ _ _ _ f m (by decide) (by decide) (by decide) h.ev.x3⟩,
  ⟨k _ _ _ _ g o (by decide) (by decide) (by decide) h.pb.x1,k _ _ _ _ i p (by decide) (by decide) (by decide) h.pb.x2,k _ _ _ _ j m6 (by decide) (by decide) (by decide) h.pb.x3⟩⟩
def RnB.rc(h:RnB F N c e R w)(i:Nat)(v:π)(hi:(#[pt c 0,J Q e,κ (A ⟨R.b3,0,G⟩) 4 4,κ (A ⟨R.b6,0,G⟩) 5 5]:Array π)[i]?=A v):w.cell? ⟨R.r,i,G⟩=A v:=sI h.xr i v hi
def RnB.z(h:RnB F N c e R w):R.r<w.heap.size:=(aa.1 h.xr).1
def CI.mach{v:π}(b:Fb F N)(h:CI F N c vco vln vsm w q)(hB:Bd F w1 M' ⟨q.s.n,q.s.l,v⟩)(d:Bt F w w1):CI F N c vco vln vsm w1 { q with s:=⟨M',q.s.n,q.s.l⟩ }/\Below F.B w w1/\Kp N c w w1:=by
 have a:NM F N w q.s ⟨M',q.s.n,q.s.l⟩ w1:=NM.of (s':=⟨M',q.s.n,q.s.l⟩) b h.i h.i.n hB d;exact⟨h.step a,a.m.below,a.kp⟩
def Ct.up{d:Nat}{b:Nat}{f:Mach->Int->Mach}(g:Fb F N)(h:CI F N c vco vln vsm w q)(j:q.s.M.clock<=tt/\tt<=q.s.M.clock+64)
 (hc:∀ tk,Bd F w q.s.M tk->q.s.M.clock<=tt/\tt<=q.s.M.clock+64->Δ ω d #[J Q tt,pt b 0] w λe w'=>e=μ (Ψ #[])/\Bd F w' (f q.s.M tt) tk/\Bt F w w') :
 Δ ω d #[J Q tt,pt b 0] w λe w'=>e=μ (Ψ #[])/\CI F N c vco vln vsm w' { q with s:=⟨f q.s.M tt,q.s.n,q.s.l⟩ }/\Below F.B w w'/\Kp N c w w':=by
 obtain⟨v,hB⟩:=h.i.bd;refine(hc _ hB j).mono ?_;rintro m w' ⟨rfl,a,k⟩;exact⟨D,h.mach g a k⟩
def Ct.eventsOf(hc:w.cell? ⟨c,0,G⟩=A (pt F.g 0)):Δ ω 78 #[pt c 0] w λa w'=>(∃ b1 b2 b3,a=μ (κ (A ⟨b3,0,G⟩) 4 4)/\EvB F c b1 b2 b3 w'/\w.heap.size<=b1/\w.heap.size<=b2/\w.heap.size<=b3)/\Below w.heap.size w w':=by
 have b:=aC w _ hc;go_enter func78,ntmps78;go_wp2;go_ret;exact⟨⟨w.heap.size,w.heap.size+1,w.heap.size+1+1,D,⟨(three w _ _ _).1,(three w _ _ _).2.1,(three w _ _ _).2.2⟩,by omega,by omega,by omega⟩,stA (stA (stA (aR w) _) _) _⟩
def Ct.partsOf(hc:w.cell? ⟨c,0,G⟩=A (pt F.g 0)):Δ ω 79 #[pt c 0] w λa w'=>(∃ b1 b2 b3,a=μ (κ (A ⟨b3,0,G⟩) 5 5)/\PtB F c b1 b2 b3 w'/\w.heap.size<=b1/\w.heap.size<=b2/\w.heap.size<=b3)/\Below w.heap.size w w':=by
 have b:=aC w _ hc;go_enter func79,ntmps79;go_wp2;go_ret;exact⟨⟨w.heap.size,w.heap.size+1,w.heap.size+1+1,D,⟨(three w _ _ _).1,(three w _ _ _).2.1,(three w _ _ _).2.2⟩,by omega,by omega,by omega⟩,stA (stA (stA (aR w) _) _) _⟩
def PtB.over(h:PtB F c b4 b5 b6 w)(o:Obj):PtB F c b4 b5 b6 (w.alloc o) :=
 ⟨((stA (aR w) o).block _ (aa.1 h.x1).1).trans h.x1,((stA (aR w) o).block _ (aa.1 h.x2).1).trans h.x2,((stA (aR w) o).block _ (aa.1 h.x3).1).trans h.x3⟩
def Ct.newRunner(hc:w.cell? ⟨c,0,G⟩=A (pt F.g 0))(h:N<=w.heap.size)(e:Int):Δ ω 42 #[pt c 0,J Q e] w λi w'=>(∃ R,i=μ (pt R.r 0)/\RnB F N c e R w')/\Below w.heap.size w w':=by
 have o:=aC w _ hc;have m:=hid hc;have q:=hid h;clear hc h;go_enter func42,ntmps42;go_wp2_with (first
  | (go_at_call 79;refine(Ct.partsOf (F:=F) (c:=c) (j.out)).mono ?_;rintro i w2 ⟨⟨b4,b5,b6,rfl,hp,p1,p2,p3⟩,d⟩;have s:=hid hp;have a:=hid d;have k:=hid (show w1.heap.size<=b4/\w1.heap.size<=b5/\w1.heap.size<=b6 from ⟨p1,p2,p3⟩);clear hp d p1 p2 p3)
  | (go_at_call 78;refine(Ct.eventsOf (F:=F) (c:=c) m.out).mono ?_;rintro i w1 ⟨⟨b1,b2,b3,rfl,n,p1,p2,p3⟩,b⟩;have t:=hid n;have f:=hid b;have j:=hid ((b.cell (p:=⟨c,0,G⟩) o).trans m.out);have l:=hid (show w.heap.size<=b1/\w.heap.size<=b2/\w.heap.size<=b3 from ⟨p1,p2,p3⟩);clear n b p1 p2 p3))
 go_ret;have v:=f.out.size;have z2:=a.out.size;obtain⟨x,y,z⟩:=l.out;obtain⟨B,E,H⟩:=k.out;have h:=q.out;have hb:Below w.heap.size w w2:=bw f.out a.out;exact⟨⟨⟨w2.heap.size,b1,b2,b3,b4,b5,b6⟩,D,⟨⟨by dsimp only;omega,by dsimp only;omega,by dsimp only;omega,by dsimp only;omega,by dsimp only;omega,by dsimp only;omega,by dsimp only;omega⟩,⟨by dsimp only;omega,by dsimp only;omega,by dsimp only;omega,by dsimp only;omega,by dsimp only;omega,by dsimp only;omega,by dsimp only;omega⟩,aM w2 _,(t.out.kept a.out).kept (stA (aR w2) _),s.out.over _⟩⟩,stA hb _⟩
def Ct.next(n:Fb F N)(h:CI F N c vco vln vsm w k)(g:RnB F N c e R w):Δ ω 80 #[pt R.r 0] w λj w'=>j=μ (J Q (k.nxtG e))/\Below w.heap.size w w':=by
 have r1:=g.rc 1 _ D;have r2:=g.rc 2 _ D;have o:=g.z;have H:=hid h;have p:=hid g;have q:=hid n;clear h g n;go_enter func80,ntmps80;go_wp2;clear r1 r2 o;go_loopw [3,15] (λt i wr=>Below w.heap.size w wr/\((i=J Q 0/\t=J Q e) \/ (i=J Q 1/\t=J Q (min e k.nxP)) \/ (i=J Q 2/\t=J Q (min e (min k.nxP (k.s.M.clock+k.s.M.b.tol)))) \/ (i=J Q 3/\t=J Q (min e (min k.nxP (min (k.s.M.clock+k.s.M.b.tol) k.s.M.nxM)))) \/ (i=J Q 4/\t=J Q (k.nxtG e)))) (λ_ i _=>4-(aU i).toNat)
 case atStart=>exact⟨aR w,aj ⟨D,D⟩⟩
 case round =>
  obtain⟨hb,hi⟩:=hrel;have l:=hid hb;have hc:=H.out.keep q.out hb;have d:=p.out.kp (Kp.of hb);obtain⟨x,m⟩:=hc.i.bd;have v:=hid hc;have f:=hid m;have c1:=hid (sI d.ev.x1 0 _ D);have c2:=hid (sI d.ev.x2 0 _ D);have y:=sI d.ev.x3 0 _ D;have e1:=sI d.ev.x3 1 _ D;have e2:=sI d.ev.x3 2 _ D;have e3:=sI d.ev.x3 3 _ D;have B:=(aa.1 d.ev.x3).1;clear hb hc d m;rcases hi with⟨rfl,rfl⟩|⟨rfl,rfl⟩|⟨rfl,rfl⟩|⟨rfl,rfl⟩|⟨rfl,rfl⟩
  ·go_wp2_with (go_at_call 153;refine(Ct.ev1 v.out c1.out).mono ?_;rintro j w1 ⟨rfl,a⟩)
   exact⟨⟨bw l.out a,ao (aj ⟨D,D⟩)⟩,by decide⟩
  ·go_wp2_with (go_at_call 155;refine(Ct.ev2 f.out c2.out).mono ?_;rintro j w1 ⟨rfl,a⟩)
   exact⟨⟨bw l.out a,ao (ao (aj ⟨D,D⟩))⟩,by decide⟩
  ·go_wp2_with (go_at_call 157;refine(Ct.ev3 f.out c2.out).mono ?_;rintro j w1 ⟨rfl,a⟩)
   exact⟨⟨bw l.out a,ao (ao (ao (aj ⟨D,D⟩)))⟩,by decide⟩
  ·go_wp2_with (go_at_call 159;refine(Ct.ev4 f.out c2.out).mono ?_;rintro j w1 ⟨rfl,a⟩)
   exact⟨⟨bw l.out a,ao (ao (ao (ao ⟨D,congrArg (Value.int Q) (by unfold Cs.nxtG;omega)⟩)))⟩,by decide⟩
  ·go_wp2
   go_ret;exact⟨D,l.out⟩
def Ct.pt5{b:Nat}(d:Fb F N)(h:CI F N c vco vln vsm w k)(hb:w.cell? ⟨b,0,G⟩=A (pt c 0))(f:k.sm.length<=90000)(g:k.s.M.clock+1<=tt/\tt<=k.s.M.clock+64):Δ ω 167 #[J Q tt,pt b 0] w λe w'=>e=μ (Ψ #[])/\(∃ a,CI F N c vco vln a w' { k with s:=⟨k.s.M.cS tt,k.s.n,k.s.l⟩,sm:=k.sm++k.s.M.smp (tt-k.s.M.clock).toNat }/\Below F.B w w')/\Kp N c w w':=by
 have j:=aC w _ hb;have i:=Ct.soundTo d h f g;have m:=hid i;clear d h f g i;go_enter func167,ntmps167;go_wp2_with (go_at_call 168;refine m.out.mono ?_;rintro e w1 ⟨rfl,h1,h2⟩)
 go_end0;exact⟨D,h1,h2⟩
def Cs.stg(q:Cs)(M':Mach):Cs:={ q with s:=⟨M',q.s.n,q.s.l⟩ }
def Ct.event(hF:Fb F N)(h:CI F N c vco vln vsm w k)(hR:RnB F N c e R w)(h1:k.ln.length<=90000)(h2:k.sm.length<=80000)(h3:k.s.l.length<=1000000)(he:k.s.M.clock<e)(hE:e<=200000):Δ ω 44 #[pt R.r 0] w λI w'=>I=μ (Ψ #[])/\(∃ vco' vln' vsm',CI F N c vco' vln' vsm' w' (k.event e))/\Below F.B w w'/\RnB F N c e R w'/\k.now.s.M.fit/\k.s.M.clock<(k.event e).s.M.clock/\(k.event e).s.M.clock<=e:=by
 have r0:=hR.rc 0 _ D;have rz:=hR.z;obtain⟨q,hq⟩:∃ q,q=k.now:=⟨_,D⟩
 have t:=Lk.nowK hF h (by omega) (by omega) h3;rw[<- hq] at t;have HNW:=hid t;have HQ:=hid hq;have HR:=hid hR;have L:=hid hF
 have HSM:bG (q.sm.length<=80001):=hid (by
  rw[hq];show (k.sm++(k.s.M.pressed k.co).sample).length<=80001;have:=AU (k.s.M.pressed k.co);rw[az];omega)
 have hck:q.s.M.clock=k.s.M.clock:=by rw[hq];exact sZ k
 have HCK:=hid hck;have HE:=hid he;have HE2:=hid hE;clear hF h hR h1 h2 h3 he hE t hq hck;go_enter func44,ntmps44;go_upto_region 1 with(go_at_call 32;refine HNW.out.mono ?_;rintro I w1 ⟨rfl,⟨u1,u2,u3,x,hb1⟩,hk1⟩;have P:=hid x;have HB1:=hid hb1;have T:=HR.out.kp hk1;have HR1:=hid T;clear hb1 hk1)
 have j:q.s.M.fit:=by obtain⟨tv,m⟩:=x.i.bd;exact m.fit
 have U:q.s.M.clock<q.nxtG e/\q.nxtG e<=e/\q.nxtG e<=q.s.M.clock+64:=by
  rw[HQ.out] at j ⊢;exact zvt (by rw[sZ];exact HE.out) HE2.out j.b j.tc.1
 obtain⟨tt,V⟩:∃ tt,tt=q.nxtG e:=⟨_,D⟩
 have hN:=Ct.next L.out x T;rw[<- V] at hN U;have HN:=hid hN;have HT:bG (q.s.M.clock<=tt/\tt<=q.s.M.clock+64):=hid (by omega);have y:=hid U;have HTO:=hid V;have HFI:=hid j;clear r0 rz x T U V hN j HNW HR;go_upto_region 2 with(go_at_call 80;refine HN.out.mono ?_;rintro I w2 ⟨rfl,E⟩;have HC2:=hid (P.out.keep L.out E);have HB2:=hid (HB1.out.trans (E.mono (P.out.i.big)));have H:=HR1.out.kp (Kp.of E);have HR2:=hid H;clear E)
 have r3:=H.rc 3 _ D;have rz:=H.z;clear H HN P HR1 HB1;go_wp2;clear r3 rz;go_loopw [17] (λi wr=>Below F.B w wr/\RnB F N c e R wr/\((i=J Q 0/\CI F N c u1 u2 u3 wr q) \/ (i=J Q 1/\CI F N c u1 u2 u3 wr (q.stg (q.s.M.cA tt))) \/ (i=J Q 2/\CI F N c u1 u2 u3 wr (q.stg ((q.s.M.cA tt).cB tt))) \/ (i=J Q 3/\CI F N c u1 u2 u3 wr (q.stg (((q.s.M.cA tt).cB tt).cT tt))) \/ (i=J Q 4/\CI F N c u1 u2 u3 wr (q.stg ((((q.s.M.cA tt).cB tt).cT tt).cE tt))) \/ (i=J Q 5 /\ ∃ u4,CI F N c u1 u2 u4 wr { q with s:=⟨((((q.s.M.cA tt).cB tt).cT tt).cE tt).cS tt,q.s.n,q.s.l⟩,sm:=q.sm++q.s.M.smp (tt-q.s.M.clock).toNat }))) (λi _=>5-(aU i).toNat)
 case atStart=>exact⟨HB2.out,HR2.out,aj ⟨D,HC2.out⟩⟩
 case round =>
  obtain⟨hb,p,hi⟩:=hrel;have Z:=hid hb;have o:=hid p;have c4:=hid (sI p.pb.x1 0 _ D);have c5:=hid (sI p.pb.x2 0 _ D);have e0:=sI p.pb.x3 0 _ D;have e1:=sI p.pb.x3 1 _ D;have e2:=sI p.pb.x3 2 _ D;have e3:=sI p.pb.x3 3 _ D;have e4:=sI p.pb.x3 4 _ D;have ez:=(aa.1 p.pb.x3).1;have r0:=p.rc 0 _ D;have rz:=p.z;clear hb p HB2 HR2 HC2;rcases hi with⟨rfl,hc⟩|⟨rfl,hc⟩|⟨rfl,hc⟩|⟨rfl,hc⟩|⟨rfl,hc⟩|⟨rfl,u4,hc⟩
  ·have v:=hid hc
   clear hc;go_wp2_with (go_at_call 161;refine(Ct.up (f:=Mach.cA) L.out v.out HT.out (λtk hB W=>Ct.pt1 hB c5.out W)).mono ?_;rintro I w3 ⟨rfl,a,d,g⟩)
   exact⟨⟨Z.out.trans d,o.out.kp g,ao (aj ⟨D,a⟩)⟩,by decide⟩
  ·have v:=hid hc
   clear hc;go_wp2_with (go_at_call 163;refine(Ct.up (f:=Mach.cB) L.out v.out HT.out (λtk hB W=>Ct.pt2 hB c5.out W)).mono ?_;rintro I w3 ⟨rfl,a,d,g⟩)
   exact⟨⟨Z.out.trans d,o.out.kp g,ao (ao (aj ⟨D,a⟩))⟩,by decide⟩
  ·have v:=hid hc
   clear hc;go_wp2_with (go_at_call 164;refine(Ct.up (f:=Mach.cT) L.out v.out HT.out (λtk hB W=>Ct.pt3 hB c5.out W)).mono ?_;rintro I w3 ⟨rfl,a,d,g⟩)
   exact⟨⟨Z.out.trans d,o.out.kp g,ao (ao (ao (aj ⟨D,a⟩)))⟩,by decide⟩
  ·have v:=hid hc
   clear hc;go_wp2_with (go_at_call 166;refine(Ct.up (f:=Mach.cE) L.out v.out HT.out (λtk hB W=>Ct.pt4 hB c5.out W)).mono ?_;rintro I w3 ⟨rfl,a,d,g⟩)
   exact⟨⟨Z.out.trans d,o.out.kp g,ao (ao (ao (ao (aj ⟨D,a⟩))))⟩,by decide⟩
  ·have v:=hid hc
   clear hc;have h5:=Ct.pt5 (k:=q.stg ((((q.s.M.cA tt).cB tt).cT tt).cE tt)) (tt:=tt) L.out v.out c4.out (ax HSM.out (by decide)) (by have:=y.out;show q.s.M.clock+1<=tt/\tt<=q.s.M.clock+64;omega);have H5:=hid h5;clear h5;go_wp2_with (go_at_call 167;refine H5.out.mono ?_;rintro I w3 ⟨rfl,⟨u4,a,d⟩,g⟩)
   exact⟨⟨Z.out.trans d,o.out.kp g,ao (ao (ao (ao (ao ⟨D,u4,a⟩))))⟩,by decide⟩
  ·have k0:=hc.cb.bx.at 0 _ D
   have kz:=hc.cb.z;obtain⟨tv,m⟩:=hc.i.bd;have mz:=m.bx.z;have mf:=m.bx.f 72;have m72:=m.at 72 _ D;have v:=hid hc;have X:=hid m;clear hc m e0 e1 e2 e3 e4 ez;go_wp2;go_end0;have hf:=zBC (M:=((((q.s.M.cA tt).cB tt).cT tt).cE tt).cS tt) (tt:=tt) X.out.fit HT.out.1 (by have:=y.out.2.1;have:=HE2.out;omega);obtain⟨g1,g2,g3⟩:=v.out.mach (M':=(((((q.s.M.cA tt).cB tt).cT tt).cE tt).cS tt).cC tt) L.out (X.out.put (tk':=⟨q.s.n,q.s.l,tv⟩) 72 (J Q tt) (by omega) D ⟨D,D,D,D,D⟩ hf) (Bt.set X.out.nd (Bt.refl F wr) 72 _);have hev:k.event e=q.latT tt:=by unfold Cs.event;rw[<- HQ.out,<- HTO.out]
   rw[zso] at g1;have g4:(k.event e).s.M.clock=tt:=by rw[hev];rfl
   refine⟨D,⟨u1,u2,u4,?_⟩,Z.out.trans g2,o.out.kp g3,by rw[<- HQ.out];exact HFI.out,by rw[g4,<- HCK.out];exact y.out.1,by rw[g4];exact y.out.2.1⟩;rw[hev];exact g1
end
structure CkW (w : u) (u0 u1 u2 u3 u4 : Option Addr) (n0 n1 n2 n3 n4 c0 c1 c2 c3 c4 : Nat) (x l a f k m q : Int) (g : Bool) (ι : u) : Prop where
 low:Below w.heap.size w ι
 z:w.heap.size<ι.heap.size
 r0:ι.cell? ⟨w.heap.size,30,G⟩=A (κ u0 n0 c0)
 r1:ι.cell? ⟨w.heap.size,31,G⟩=A (κ u1 n1 c1)
 r2:ι.cell? ⟨w.heap.size,32,G⟩=A (κ u2 n2 c2)
 r3:ι.cell? ⟨w.heap.size,33,G⟩=A (κ u3 n3 c3)
 r4:ι.cell? ⟨w.heap.size,34,G⟩=A (κ u4 n4 c4)
 s:ι.cell? ⟨w.heap.size,60,G⟩=A (J Q x)
 b0:ι.cell? ⟨w.heap.size,61,G⟩=A (J Q l)
 b1:ι.cell? ⟨w.heap.size,62,G⟩=A (J Q a)
 b2:ι.cell? ⟨w.heap.size,63,G⟩=A (ν g)
 b3:ι.cell? ⟨w.heap.size,64,G⟩=A (J Q f)
 k:ι.cell? ⟨w.heap.size,72,G⟩=A (J Q k)
 m:ι.cell? ⟨w.heap.size,73,G⟩=A (J Q m)
 q:ι.cell? ⟨w.heap.size,74,G⟩=A (J Q q)
def CkW.mk0(M:Mach)(S:Sl)(w:u)(t:aJ){u0 u1 u2 u3 u4:Option Addr}{c0 c1 c2 c3 c4:Nat}(c:S.get 0=κ u0 M.mrom.length c0)(e1:S.get 1=κ u1 M.arom.length c1)(e2:S.get 2=κ u2 M.ram.length c2)(e3:S.get 3=κ u3 M.own.length c3)(e4:S.get 4=κ u4 M.video.length c4):CkW w u0 u1 u2 u3 u4 M.mrom.length M.arom.length M.ram.length M.own.length M.video.length c0 c1 c2 c3 c4 M.s.w M.b.l M.b.a M.b.f M.clock M.mready M.aready M.b.g (w.alloc (χ (υ M S).toArray t)):=by
 have h:=Bx.new w (υ M S) t (b:=w.heap.size) D;exact⟨stA (aR w) _,h.z,(h.at 30 (S.get 0) D).trans (by rw[c]),(h.at 31 (S.get 1) D).trans (by rw[e1]),(h.at 32 (S.get 2) D).trans (by rw[e2]),(h.at 33 (S.get 3) D).trans (by rw[e3]),(h.at 34 (S.get 4) D).trans (by rw[e4]),h.at 60 _ D,h.at 61 _ D,h.at 62 _ D,h.at 63 _ D,h.at 64 _ D,h.at 72 _ D,h.at 73 _ D,h.at 74 _ D⟩
def tP(M:Mach)(S:Sl)(w:u)(b:S.lens M):Δ ω 35 #[ac (υ M S).toArray] w λe w'=>e=μ (J Q M.chk)/\Below w.heap.size w w':=by
 obtain⟨u0,c0,d⟩:=b 0 (by omega);obtain⟨u1,c1,e1⟩:=b 1 (by omega);obtain⟨u2,c2,e2⟩:=b 2 (by omega);obtain⟨u3,c3,e3⟩:=b 3 (by omega);obtain⟨u4,c4,e4⟩:=b 4 (by omega);have f:=hid (CkW.mk0 M S w 41 d e1 e2 e3 e4);obtain⟨v,c⟩:∃ v,M.chk=v:=⟨_,D⟩
 rw[c];have h:=hid c;clear c d e1 e2 e3 e4 b;go_enter func35,ntmps35;go_upto_region 1 with fail
 refine Pl.cutW (CkW w u0 u1 u2 u3 u4 _ _ _ _ _ c0 c1 c2 c3 c4 _ _ _ _ _ _ _ _) f.out ?_;intro ι i;obtain⟨a,z,r0,r1,r2,r3,r4,s,b0,b1,b2,b3,j,k,l⟩:=i;have g:=hid a;clear a f;go_wp2;all_goals
  go_ret;refine⟨?_,by first|exact g.out|exact stA g.out _⟩;have c:=h.out;simp only[Mach.chk,pL,cu] at c;try simp only[mB,ne_eq,bne_eq_false_iff_eq] at *
  refine congrArg (λz=>μ (J Q z)) ?_;subst c
  repeat' split
  all_goals omega
def vq(b:Nat)(w:u):Int:=match w.cell? ⟨b,72,G⟩ with
 | some (.int _ c)=>c
 | _=>0
def zvw{F:Fx}{w:u}{M:Mach}{tk:Tk}(h:Bd F w M tk):vq F.g w=M.clock:=by
 unfold vq;rw[h.at 72 (J Q M.clock) D]
section
variable {F : Fx} {N c : Nat} {vco vln vsm : π} {w : u} {k : Cs} {e : Int} {R : Rn}
def Ct.over(h:CI F N c vco vln vsm w k)(d:RnB F N c e R w):Δ ω 43 #[pt R.r 0] w λf w'=>f=μ (ν (decide (e<=k.s.M.clock)))/\Below w.heap.size w w':=by
 have r0:=d.rc 0 _ D;have r1:=d.rc 1 _ D;have l:=d.z;have k0:=h.cb.bx.at 0 _ D;have m:=h.cb.z;obtain⟨n,a⟩:=h.i.bd;have g:=a.at 72 (J Q k.s.M.clock) D;have o:=a.bx.z;clear h d a;by_cases b:e<=k.s.M.clock
 ·rw[aO b]
  go_enter func43,ntmps43;go_wp2;go_quiet (fail)
  go_wp2;go_ret;exact⟨D,Bl.drewN (aR w) nq⟩
 ·rw[aG b]
  have j:k.s.M.clock<e:=by omega
  go_enter func43,ntmps43;go_wp2;go_quiet (fail)
  go_wp2;go_ret;exact⟨congrArg μ (congrArg Value.bool (aG (by omega))),Bl.drewN (aR w) nq⟩
def zi6(M:Mach)(S:Sl)(v:π)(l:List Inp)(n:Nat)(w:u)(P:Cs->Prop)(hs:cf w S M)(hsh:br w)(hin:bP w.heap.size w v l)(hd:∀ x∈l,0<=x.d/\x.d<=255)(hf:M.fit)(p:M.b.f<=20000)(hc:chkIn l M.clock=0)(hn:n<=20000/\M.clock+n<=200000)
 (hP0:P ⟨⟨M,0,[]⟩,l,[],[]⟩) (hPs:∀ k,P k->k.s.M.clock<M.clock+n->k.now.s.M.fit->P (k.event (M.clock+n))) (hPb:∀(F:Fx) (N:Nat),Fb F N->∀ k,P k->k.ln.length<=90000/\k.sm.length<=80000/\k.s.l.length<=1000000) :
 Δ ω 17 #[ac (υ M S).toArray,v,J Q n] w λe w'=>∃(F:Fx) (N:Nat) (vln vsm vw:π) (k:Cs),P k /\ ¬ k.s.M.clock<M.clock+n/\e=μ (Ψ #[ac (υ k.s.M F.S).toArray,ac #[vln,vsm,vw],J Q 0])/\Told F N k vln vsm vw w'/\w.heap.size<=F.B/\F.B<=N/\gA F.B F.S/\Below w.heap.size w w':=by
 have hBm:=Bx.new w (υ M S) 41 (b:=w.heap.size) D;have hW:Below w.heap.size w (((w.alloc (χ (υ M S).toArray 41)).alloc (χ (υ aD aP).toArray 41)).alloc (χ #[κ G 0 0,κ G 0 0,κ G 0 0] 47)):=stA (stA (stA (aR w) _) _) _;have HRR:bG (RR w (υ aD aP) [κ G 0 0,κ G 0 0,κ G 0 0] (((w.alloc (χ (υ M S).toArray 41)).alloc (χ (υ aD aP).toArray 41)).alloc (χ #[κ G 0 0,κ G 0 0,κ G 0 0] 47))) :=
  ⟨hW,(Bx.new (w.alloc (χ (υ M S).toArray 41)) (υ aD aP) 41 (b:=w.heap.size+1) (by simp)).over _,Bx.new ((w.alloc (χ (υ M S).toArray 41)).alloc (χ (υ aD aP).toArray 41)) [κ G 0 0,κ G 0 0,κ G 0 0] 47 (b:=w.heap.size+2) (by simp)⟩
 have E:=hid ((hBm.over (χ (υ aD aP).toArray 41)).over (χ #[κ G 0 0,κ G 0 0,κ G 0 0] 47));have HS:=hid (hs.kept hW);have HSH:=hid (xj hsh (hW.block _ (AT hsh)));have HIN:=hid ((hin.kept hW).mono hW.size);have HD:=hid hd;have HF:=hid hf;have HF2:=hid p;have HC:=hid hc;have HN:=hid hn;have HP0:=hid hP0;have HPS:=hid hPs;have HPB:=hid hPb;have hcw:IntKind.i64.wrap (M.clock+n)=M.clock+n:=by have:=hf.clock;rw[aH];omega
 clear hs hsh hin hd hf p hc hn hBm hW hP0 hPs hPb;go_enter func17,ntmps17;go_wp2_with (first
  | (refine wpList_load_mid D 41 _ D w.heap.size 0 D (υ M S) _ E.out.c underlying41 D cn ?_)
  | (go_at_call 31;refine(ziA M S v l n _ HS.out HSH.out HIN.out HD.out HF.out HF2.out HC.out ⟨by omega,by have:=HN.out;omega,HN.out.2⟩).mono ?_;rintro e w1 ⟨F,N,c,rfl,hF,hFB,hmr,hCI,H⟩;have h:=hid hF;have HFB:=hid hFB;have HMR:=hid hmr;have I:=hid hCI;have m:=hid (HRR.out.kept H);have m72:=(E.out.kept H).at 72 (J Q M.clock) D;have mmz:=(E.out.kept H).z;clear hF hFB hmr hCI H)
  | (go_at_call 42;refine(Ct.newRunner (F:=F) (N:=N) (I.out.cb.bx.at 0 _ D) I.out.i.N (M.clock+n)).mono ?_;rintro e wn ⟨⟨R,rfl,hR⟩,hbn⟩;have HRB:=hid hR;have HCI0:=hid (I.out.keep h.out hbn);have HR0:=hid (m.out.kept hbn);clear hR hbn))
 have hFB3:w.heap.size+3<=F.B:=by have:=HFB.out;simp at this;omega
 have HFB3:=hid hFB3;clear hFB3 I E HRR HFB HSH HIN HS m m72 mmz;go_loopw [] (λwr=>∃(k:Cs) (vco vln vsm:π),P k/\CI F N c vco vln vsm wr k/\RnB F N c (M.clock+n) R wr/\RR w (υ aD aP) [κ G 0 0,κ G 0 0,κ G 0 0] wr) (λwr=>(M.clock+n-vq F.g wr).toNat)
 case atStart=>exact⟨_,v,_,_,HP0.out,HCI0.out,HRB.out,HR0.out⟩
 case round =>
  obtain⟨k,vco,vln,vsm,hP,hX,hRB,hR⟩:=hrel;clear HCI0 HRB HR0;have o:=Ct.over hX hRB;have hat:vq F.g wr=k.s.M.clock:=by obtain⟨vv,j⟩:=hX.i.bd;exact zvw j
  have HAT:=hid hat;have HP:=hid hP;have HX0:=hid hX;have HRB0:=hid hRB;have m:=hid hR;clear hP hX hRB hR hat;by_cases L:k.s.M.clock<M.clock+n
  ·as_aux_lemma =>
   rw[aG (by omega)] at o;have T:=hid o;have HLT:=hid L;clear o L;obtain⟨p1,p2,p3⟩:=HPB.out _ _ h.out k HP.out;have HPP:=hid (show k.ln.length<=90000/\k.sm.length<=80000/\k.s.l.length<=1000000 from ⟨p1,p2,p3⟩);clear p1 p2 p3;go_wp2_with (first
    | (go_at_call 43;refine T.out.mono ?_;rintro e wq ⟨rfl,a⟩;have U:=hid (HX0.out.keep h.out a);have HRB1:=hid (HRB0.out.kp (Kp.of a));have W:=hid (m.out.kept a);clear a)
    | (go_at_call 44;refine(Ct.event h.out U.out HRB1.out HPP.out.1 HPP.out.2.1 HPP.out.2.2 HLT.out HN.out.2).mono ?_;rintro e w2 ⟨rfl,⟨u1,u2,u3,hX2⟩,q,hr2,p,hc1,hc2⟩;have HX2:=hid hX2;have HRB2:=hid hr2;have HR3:=hid (W.out.far HFB3.out q);have HFI:=hid p;have HC1:=hid hc1;clear hX2 q hr2 p hc1 hc2))
   have hat2:vq F.g w2=(k.event (M.clock+n)).s.M.clock:=by obtain⟨vv,j⟩:=HX2.out.i.bd;exact zvw j
   refine⟨⟨k.event (M.clock+n),u1,u2,u3,HPS.out k HP.out HLT.out HFI.out,HX2.out,HRB2.out,HR3.out⟩,?_⟩;have h1:=HC1.out;have h2:=HLT.out;have h3:=HAT.out;rw[hat2,h3];omega
  ·as_aux_lemma =>
   rw[aO (by omega)] at o;have T:=hid o;have HGE:=hid L;clear o;go_upto_region 7 with(go_at_call 43;refine T.out.mono ?_;rintro e wq ⟨rfl,a⟩;have U:=hid (HX0.out.keep h.out a);have HR:=hid (m.out.kept a);clear a)
   clear HX0 HRB0 m T;obtain⟨X,hX⟩:∃ X,X=k.s.M:=⟨_,D⟩
   have hdn:=Lk.done h.out U.out;rw[<- hX] at hdn;have HDN:=hid hdn;have HNW:bG (gA F.B F.S/\F.B<=N):=hid (by obtain⟨vv,j⟩:=U.out.i.bd;exact⟨j.slNew HMR.out,U.out.bigN h.out⟩);obtain⟨a2,r,c2,e2⟩:=ol U.out.ln;obtain⟨a3,t,c3,e3⟩:=ol U.out.sm;have HXE:=hid hX;clear hdn hX L;subst e2 e3;have HSI:bG F.S.isSl:=hid (by obtain⟨vv,j⟩:=U.out.i.bd;exact j.isSl);go_upto_region 8 with(first
    | (go_at_call 34;refine HDN.out.mono ?_;rintro e w2 ⟨vw,rfl,hT2,q⟩;obtain⟨a4,y,c4,e4⟩:=ol hT2.ws;subst e4;have HT2:=hid hT2;have W:=hid (HR.out.far HFB3.out q);clear hT2 q)
    | (refine wpList_store_mid D 41 _ _ D w2.heap.size 0 (υ X F.S).toArray D D (((Bx.new w2 (υ aD aP) 41 (b:=w2.heap.size) D).over (χ #[κ G 0 0,κ G 0 0,κ G 0 0] 47)).there 0 75 (by rw[dG];omega)) cn (iq _ _ HSI.out) ?_
       refine Pl.cutL (EW F N k X (κ a2 r c2) (κ a3 t c3) (κ a4 y c4) w w2.heap.size (υ aD aP) [κ G 0 0,κ G 0 0,κ G 0 0]) (EW.mk' W.out HT2.out) ?_;intro Z hZ;have HZ:=hid hZ;have y0:=hZ.o2.at 0 _ D;have y1:=hZ.o2.at 1 _ D;have y2:=hZ.o2.at 2 _ D;have yf:=hZ.o2.f;have yz:=hZ.o2.z;clear hZ))
   refine Pl.cutW (FW F N k X (κ a2 r c2) (κ a3 t c3) (κ a4 y c4) w w2.heap.size (υ aD aP) [κ G 0 0,κ G 0 0,κ G 0 0]) (EW.fw HZ.out HNW.out.1 ⟨HFB3.out,HNW.out.2⟩) ?_;intro Y1 hY1;have HY:=hid (hY1.kept (aR Y1).drew);obtain⟨γ,hD⟩:∃ γ,γ=w2.heap.size:=⟨_,D⟩
   clear hY1 HZ y0 y1 y2 yf yz W HT2 HR U HDN;refine wp_region_held_drew (S:=λw'=>w'.rangeAt w2.heap.size 0 (υ X F.S)/\w'.rangeAt (w2.heap.size+1) 0 [κ a2 r c2,κ a3 t c3,κ a4 y c4]) (by kernel_rfl) (HY.out.s) ?_;intro hS;refine jW 0 (ac (υ X F.S).toArray) D (λw' hSw=>ml 41 _ D w2.heap.size 0 D (υ X F.S) _ hSw.1 underlying41 D cn) hS ?_;refine jW 1 (ac ([κ a2 r c2,κ a3 t c3,κ a4 y c4]).toArray) D (λw' hSw=>ml 47 _ D (w2.heap.size+1) 0 D ([κ a2 r c2,κ a3 t c3,κ a4 y c4]) _ hSw.2 underlying47 D kX) hS ?_;have HY1:=hid HY.out.put1;refine tK (i:=2) (op:=⟨G,_,_,_,_,G⟩) (by kernel_rfl) D D 41 _ _ D (w.heap.size+1) 0 (υ X F.S).toArray D D (HY.out.b1.there 0 75 (by rw[dG];omega)) cn (iq _ _ HSI.out) HY1.out.s ?_;have HY2:=hid HY1.out.put2;have hth:=HY1.out.b2.there 0 3 (by simp);have hone:(([κ a2 r c2,κ a3 t c3,κ a4 y c4]:List π)).toArray.all (·.oneCell')=Γ:=by simp[bi]
   have hss:=HY2.out.s;clear hS;refine tK (i:=3) (op:=⟨G,_,_,_,_,G⟩) (by kernel_rfl) D D 47 _ _ D (w.heap.size+2) 0 #[κ a2 r c2,κ a3 t c3,κ a4 y c4] D D hth kX hone hss ?_;have hS:=HY2.out.s;refine dy 4 ⟨A 8,_,_,_,_,G⟩ hS ?_;simp only[ag,xA,xB,xC];refine wpAnyH_done (by kernel_rfl) ?_ _;refine Pl.cutE (FW F N k X (κ a2 r c2) (κ a3 t c3) (κ a4 y c4) w w2.heap.size (υ X F.S) [κ a2 r c2,κ a3 t c3,κ a4 y c4]) HY2.out ?_;intro V hV;have HV:=hid hV;clear hV HY HY1 HY2 hth hone hss hS;go_wp2;have hXk:=HXE.out;refine Ξ (v:=Ψ #[ac (υ X F.S).toArray,ac #[κ a2 r c2,κ a3 t c3,κ a4 y c4],J Q 0]) ?_ D ⟨F,N,_,_,_,k,HP.out,HGE.out,by rw[hXk],HV.out.told,by have:=HFB3.out;omega,HNW.out.2,HNW.out.1,HV.out.low⟩;have l1:=run_loadVar_mid V (w.heap.size+1) 0 41 _ _ HV.out.b1.c underlying41 D cn;have l2:=run_loadVar_mid V (w.heap.size+2) 0 47 _ _ HV.out.b2.c underlying47 D kX;simp only[results,results17];simp;show (aE (bL ω (bC 41 ⟨w.heap.size+1,0,G⟩) V) _)=_
   rw[l1];show (aE (bL ω (bC 47 ⟨w.heap.size+2,0,G⟩) V) _)=_;rw[l2];rfl
end
def qU:S.By:=[46,119,111,114,100,32,54,10,46,119,111,114,100,32,48,10,46,119,111,114,100,32,48,10,108,100,105,32,114,49,44,32,51,50,55,54,56,10,115,116,98,32,114,49,44,32,114,49,44,32,49,10,104,108,116,10]
def zqi:S.readText qU=.ok ig:=by
 have h:(match S.readText qU with | .ok r=>r == ig | .error _=>ξ)=Γ:=by decide +kernel
 split at h
 ·rename_i r a
  rw[a,ll.1 h]
 ·cases h
def zqj{w:u}{v:π}{l:List UInt8}(h:jF w v l):sliceAt w v l:=h
structure LBx (w : u) (b : Nat) (M : Mach) (S : Sl) (ι : u) : Prop where
 low:Below w.heap.size w ι
 ge:w.heap.size<=b
 bx:Bx ι b (υ M S)
 sl:cf ι S M
def LBx.mk0{w w2:u}{M:Mach}{S:Sl}(hb:Below w.heap.size w w2)(d:cf w2 S M):LBx w w2.heap.size M S ((w2.alloc (χ (υ aD aP).toArray 41)).setCells w2.heap.size 0 (υ M S)):=by
 have a:=(Bx.new w2 (υ aD aP) 41 (b:=w2.heap.size) D).puts 0 (υ M S) (by rw[dG,dG];omega);rw[mK _ _ (by rw[dG,dG])] at a;have c:Below w2.heap.size w2 ((w2.alloc (χ (υ aD aP).toArray 41)).setCells w2.heap.size 0 (υ M S)):=Bl.puts (stA (aR w2) _) (ψ _) _;exact⟨bw hb c,hb.size,a,d.kept c⟩
structure LE (w : u) (b c : Nat) (M : Mach) (S : Sl) (L : List π) (ι : u) : Prop where
 low:Below w.heap.size w ι
 bx:Bx ι b (υ M S)
 sh:Bx ι c L
def LE.mk1{w a:u}{b:Nat}{M X:Mach}{S S':Sl}(hb:Below w.heap.size w a)(c:w.heap.size<=b)(d:Bx a b (υ M S)):LE w b a.heap.size X S' [κ G 0 0,κ G 0 0,κ G 0 0] ((a.alloc (χ #[κ G 0 0,κ G 0 0,κ G 0 0] 47)).setCells b 0 (υ X S')):=by
 have e:=d.z;have h1:=(d.over (χ #[κ G 0 0,κ G 0 0,κ G 0 0] 47)).puts 0 (υ X S') (by rw[dG,dG];omega);rw[mK _ _ (by rw[dG,dG])] at h1;exact⟨ni (stA hb _) c _ _,h1,DW.bb (Bx.new a [κ G 0 0,κ G 0 0,κ G 0 0] 47 (b:=a.heap.size) D) (by omega)⟩
def LE.put{w ι:u}{b c:Nat}{X:Mach}{S':Sl}{x y z a d e:π}(h:LE w b c X S' [x,y,z] ι)(f:b≠c)(g:w.heap.size<=c):LE w b c X S' [a,d,e] (ι.setCells c 0 [a,d,e]):=by
 have h1:=h.sh.puts 0 [a,d,e] (by simp);rw[mK _ _ (by simp)] at h1;exact⟨ni h.low g _ _,DW.bb h.bx f,h1⟩
def cell_of{ι:u}{b:Nat}{M:Mach}{S:Sl}(h:Bx ι b (υ M S)):ι.cell? ⟨b,14,G⟩=A (ν M.main.Waits)/\ι.cell? ⟨b,72,G⟩=A (J Q M.clock)/\ι.cell? ⟨b,61,G⟩=A (J Q M.b.l):=⟨h.at 14 _ rfl,h.at 72 _ rfl,h.at 61 _ rfl⟩
def AW(B:Nat)(w:u):bP B w (κ G 0 0) []:=aj ⟨D,_,_,D⟩
def zuB(w:u):sliceAt w (κ G 0 0) []:=aj ⟨_,_,D,D⟩
structure R3 (w1 : u) (X : Mach) (S' : Sl) (L : List π) (ι : u) : Prop where
 old:Below w1.heap.size w1 ι
 x:Bx ι w1.heap.size (υ X S')
 s:Bx ι (w1.heap.size+1) L
section
variable {w1 ι Y' : u} {X : Mach} {S' : Sl} {L : List π}
def R3.mk1(w1:u)(X:Mach)(S':Sl):R3 w1 X S' nil3 (((w1.alloc (χ (υ aD aP).toArray 41)).alloc (χ #[κ G 0 0,κ G 0 0,κ G 0 0] 47)).setCells w1.heap.size 0 (υ X S')):=by
 have h1:=((Bx.new w1 (υ aD aP) 41 (b:=w1.heap.size) D).over (χ #[κ G 0 0,κ G 0 0,κ G 0 0] 47)).puts 0 (υ X S') (by rw[dG,dG];omega);rw[mK _ _ (by rw[dG,dG])] at h1;exact⟨ni (stA (stA (aR w1) _) _) (ψ _) _ _,h1,DW.bb (Bx.new (w1.alloc (χ (υ aD aP).toArray 41)) nil3 47 (b:=w1.heap.size+1) (by simp)) (by omega)⟩
def R3.put{x y z a b c:π}(h:R3 w1 X S' [x,y,z] ι):R3 w1 X S' [a,b,c] (ι.setCells (w1.heap.size+1) 0 [a,b,c]):=by
 have h1:=h.s.puts 0 [a,b,c] (by simp);rw[mK _ _ (by simp)] at h1;exact⟨ni h.old (by omega) _ _,DW.bb h.x (by omega),h1⟩
def R3.kept(h:R3 w1 X S' L ι)(hb:Below ι.heap.size ι Y'):R3 w1 X S' L Y':=⟨bw h.old hb,h.x.kept hb,h.s.kept hb⟩
end
def R3.th1(w1:u):((w1.alloc (χ (υ aD aP).toArray 41)).alloc (χ #[κ G 0 0,κ G 0 0,κ G 0 0] 47)).there w1.heap.size 0 75:=((Bx.new w1 (υ aD aP) 41 (b:=w1.heap.size) rfl).over _).there 0 75 (by rw[dG];omega)
def xx(M:Mach)(S:Sl)(n:Int)(w:u):Δ ω 15 #[ac (υ M S).toArray,J Q n] w λe w'=>e=μ (ν (decide (19000<M.b.f)))/\Below w.heap.size w w':=by
 have hB:=Bx.new w (υ M S) 41 (b:=w.heap.size) D;have a:=hB.at 64 (J Q M.b.f) D;clear hB;go_enter func15,ntmps15;go_wp2;go_ret;exact⟨D,stA (aR w) _⟩
def zm4(M:Mach)(S:Sl)(v:π)(l:List Inp)(n:Nat)(w:u)(z:cf w S M)(r:br w)(t:bP w.heap.size w v l)(E:∀ x∈l,0<=x.d/\x.d<=255)(g:M.fit)(y:M.b.f<=19900)(hc:chkIn l M.clock=0)(q:n<=20000/\M.clock+n<=200000):Δ ω 17 #[ac (υ M S).toArray,v,J Q n] w λe w'=>∃(F:Fx) (N:Nat) (vln vsm vw:π),e=μ (Ψ #[ac (υ (Cs.clocks ⟨⟨M,0,[]⟩,l,[],[]⟩ n).s.M F.S).toArray,ac #[vln,vsm,vw],J Q 0])/\Told F N (Cs.clocks ⟨⟨M,0,[]⟩,l,[],[]⟩ n) vln vsm vw w'/\w.heap.size<=F.B/\F.B<=N/\gA F.B F.S/\Below w.heap.size w w':=by
 have hb:BOk M.b.l M.b.a M.b.f:=⟨g.b.l0,g.b.l1,g.b.a0,g.b.a1,g.b.f0,by omega⟩
 obtain⟨k0,c⟩:∃ k0:Cs,k0=⟨⟨M,0,[]⟩,l,[],[]⟩:=⟨_,D⟩
 have h1:k0.s.M=M:=by rw[c]
 have h2:k0.s.l=[]/\k0.ln=[]/\k0.sm=[]:=by rw[c];exact⟨D,D,D⟩
 refine(zi6 M S v l n w (Ad k0 n) z r t E g (by omega) hc q (by rw[<- c];exact Ad.zero k0 n) (λk i j m=>?_) (λF N H k i=>?_)).mono ?_
 ·rw[<- h1] at j ⊢
  exact i.step (by rw[h1];exact hb) (by rw[h1];exact y) q.1 (by rw[h1];exact q.2) j m
 ·have:=i.bd H h2 q.1
  omega
 ·rintro e w' ⟨F,N,vln,vsm,vw,k,i,o,rfl,p,g1,I,g3,g4⟩
  rw[<- h1] at o;have h:=i.fin o;rw[<- c];have e1:(k0.clocks n).ln=k.ln:=by simpa using h.ln
  have e2:(k0.clocks n).sm=k.sm:=by simpa using h.sm
  have e3:(k0.clocks n).s.l=k.s.l:=by simpa using h.s.l
  exact⟨F,N,vln,vsm,vw,by rw[h.s.M],⟨by rw[h.s.M];exact p.sl,by rw[h.s.M];exact p.fit,by rw[e1];exact p.ln,by rw[e2];exact p.sm,by rw[e3];exact p.ws⟩,g1,I,g3,g4⟩
section
variable {w : u} {L1 L2 : List π} {ι : u}
def zsq(M:Mach)(S:Sl)(v:π)(l:List Inp)(n:Int)(w:u)(z:cf w S M)(B:∀ j,j<5->(M.byt j).length<=9223372036854775807)(d:M.ok)(f:bP w.heap.size w v l)(E:-9223372036854775808<=n/\n<=9223372036854775807)(F:bS M l n≠0):Δ ω 17 #[ac (υ M S).toArray,v,J Q n] w λe w'=>e=μ (Ψ #[ac (υ aD aP).toArray,ac #[κ G 0 0,κ G 0 0,κ G 0 0],J Q (bS M l n)])/\Below w.heap.size w w':=by
 have g:=Bx.new w (υ M S) 41 (b:=w.heap.size) D;have h:Below w.heap.size w (((w.alloc (χ (υ M S).toArray 41)).alloc (χ (υ aD aP).toArray 41)).alloc (χ #[κ G 0 0,κ G 0 0,κ G 0 0] 47)):=stA (stA (stA (aR w) _) _) _;have p:bG (RR w (υ aD aP) [κ G 0 0,κ G 0 0,κ G 0 0] (((w.alloc (χ (υ M S).toArray 41)).alloc (χ (υ aD aP).toArray 41)).alloc (χ #[κ G 0 0,κ G 0 0,κ G 0 0] 47))) :=
  ⟨h,(Bx.new (w.alloc (χ (υ M S).toArray 41)) (υ aD aP) 41 (b:=w.heap.size+1) (by simp)).over _,Bx.new ((w.alloc (χ (υ M S).toArray 41)).alloc (χ (υ aD aP).toArray 41)) [κ G 0 0,κ G 0 0,κ G 0 0] 47 (b:=w.heap.size+2) (by simp)⟩
 have q:=hid ((g.over (χ (υ aD aP).toArray 41)).over (χ #[κ G 0 0,κ G 0 0,κ G 0 0] 47));have L:=hid (z.kept h);have s:=hid ((f.kept h).mono h.size);have N:=hid B;have t:=hid d;have P:=hid E;obtain⟨r,i⟩:∃ r,r=bS M l n:=⟨_,D⟩
 have a:=zgu M S v l n _ L.out N.out t.out s.out P.out F;rw[<- i] at F a ⊢;have x:=hid a;clear z B f d E g h a i;go_enter func17,ntmps17;go_wp2_with (first
  | (refine wpList_load_mid D 41 _ D w.heap.size 0 D (υ M S) _ q.out.c underlying41 D cn ?_)
  | (go_at_call 31;refine x.out.mono ?_;rintro e w1 ⟨rfl,k⟩;have m:=hid (p.out.kept k);clear k)
  | (refine wpList_store_mid D 41 _ _ D (w.heap.size+1) 0 (υ aD aP).toArray D D (m.out.b1.there 0 75 (by rw[dG];omega)) cn (iq _ _ vS) ?_
     refine Pl.cutL (RR w (υ aD aP) [κ G 0 0,κ G 0 0,κ G 0 0]) m.out.zero1 ?_;intro Z H;have o:=hid H;clear H)
  | (refine wpList_store_mid D 47 _ _ D (w.heap.size+2) 0 #[κ G 0 0,κ G 0 0,κ G 0 0] D D (o.out.b2.there 0 3 (by simp)) kX (by simp[bi]) ?_
     refine Pl.cutL (RR w (υ aD aP) [κ G 0 0,κ G 0 0,κ G 0 0]) o.out.zero2 ?_;intro V I;have y:=hid I;clear I))
 refine Ξ (v:=Ψ #[ac (υ aD aP).toArray,ac #[κ G 0 0,κ G 0 0,κ G 0 0],J Q r]) ?_ D ⟨D,y.out.low⟩;have l1:=run_loadVar_mid V (w.heap.size+1) 0 41 _ _ y.out.b1.c underlying41 D cn;have l2:=run_loadVar_mid V (w.heap.size+2) 0 47 _ _ y.out.b2.c underlying47 D kX;simp only[results,results17];simp;show (aE (bL ω (bC 41 ⟨w.heap.size+1,0,G⟩) V) _)=_;rw[l1];show (aE (bL ω (bC 47 ⟨w.heap.size+2,0,G⟩) V) _)=_;rw[l2];rfl
end
def zka{M:Mach}{l:List Inp}{n:Int}(h1:M.chk=0)(h2:chkIn l M.clock=0)(h:¬ (0<=n/\n<=20000/\M.clock+n<=200000)):bS M l n=3:=by
 unfold bS;rw[am h1,am h2,ae h]
def zfV{M:Mach}{l:List Inp}{n:Int}(h1:M.chk=0)(h2:chkIn l M.clock=0)(h:0<=n/\n<=20000/\M.clock+n<=200000):bS M l n=0:=by
 unfold bS;rw[am h1,am h2,am h]
def Lk.badRun(M:Mach)(S:Sl)(v:π)(l:List Inp)(n:Int)(w:u)(N:S.lens M)(q:M.ok)(r:bP w.heap.size w v l)(X:-9223372036854775808<=n/\n<=9223372036854775807):Δ ω 10 #[ac (υ M S).toArray,v,J Q n,J Q 20000] w λe w'=>e=μ (J Q (bS M l n))/\Below w.heap.size w w':=by
 have x:Below w.heap.size w (w.alloc (χ (υ M S).toArray 41)):=stA (aR w) _;have o:=hid (Bx.new w (υ M S) 41 (b:=w.heap.size) D);have p:=hid ((r.kept x).mono x.size);have F:=hid N;have Z:w.heap.size<(w.alloc (χ (υ M S).toArray 41)).heap.size:=by simp
 by_cases hc:M.chk=0
 ·have R:=wA q hc
  have U:=R.clock;have s:=hid hc;by_cases hi:chkIn l M.clock=0
  ·have y:=hid hi
   clear hc hi r N q R;by_cases H:n<0
   ·have m:=zka s.out y.out (n:=n) (by omega)
    rw[m];have d1:decide (n<0)=Γ:=aO H;clear m H;go_enter func10,ntmps10;go_wp2_with (first
     | (refine wpList_load_mid D 41 _ D w.heap.size 0 D (υ M S) _ o.out.c underlying41 D cn ?_)
     | (go_at_call 35;refine(tP M S _ F.out).mono ?_;rw[s.out];rintro e w1 ⟨rfl,a⟩;have d:=hid (o.out.kept a);have g:=hid (bw x a);have j:=hid ((p.out.kept a).mono a.size);have t:=d.out.at 72 (J Q M.clock) D;have P:=d.out.z;clear a)
     | (go_at_call 21;refine(Lk.rcheck l v _ M.clock _ j.out (ψ _)).mono ?_;rw[y.out];rintro e w2 ⟨rfl,f⟩;have i:=hid (d.out.kept f);have k:=hid (bw g.out f);have B:=i.out.at 72 (J Q M.clock) D;have T:=i.out.z;clear f))
    go_ret;exact⟨D,k.out⟩
   ·have d1:decide (n<0)=ξ:=aG H
    by_cases h2:20000<n
    ·have m:=zka s.out y.out (n:=n) (by omega)
     rw[m];have d2:decide (20000<n)=Γ:=aO h2;clear m H h2;go_enter func10,ntmps10;go_wp2_with (first
      | (refine wpList_load_mid D 41 _ D w.heap.size 0 D (υ M S) _ o.out.c underlying41 D cn ?_)
      | (go_at_call 35;refine(tP M S _ F.out).mono ?_;rw[s.out];rintro e w1 ⟨rfl,a⟩;have d:=hid (o.out.kept a);have g:=hid (bw x a);have j:=hid ((p.out.kept a).mono a.size);have t:=d.out.at 72 (J Q M.clock) D;have P:=d.out.z;clear a)
      | (go_at_call 21;refine(Lk.rcheck l v _ M.clock _ j.out (ψ _)).mono ?_;rw[y.out];rintro e w2 ⟨rfl,f⟩;have i:=hid (d.out.kept f);have k:=hid (bw g.out f);have B:=i.out.at 72 (J Q M.clock) D;have T:=i.out.z;clear f))
     go_ret;exact⟨D,k.out⟩
    ·have d2:decide (20000<n)=ξ:=aG h2
     have V:0<=n:=by omega
     have W:n<=20000:=by omega
     by_cases h4:200000<M.clock+n
     ·have m:=zka s.out y.out (n:=n) (by omega)
      rw[m];have d3:decide (200000<M.clock+n)=Γ:=aO h4;clear m H h2 h4;go_enter func10,ntmps10;go_wp2_with (first
       | (refine wpList_load_mid D 41 _ D w.heap.size 0 D (υ M S) _ o.out.c underlying41 D cn ?_)
       | (go_at_call 35;refine(tP M S _ F.out).mono ?_;rw[s.out];rintro e w1 ⟨rfl,a⟩;have d:=hid (o.out.kept a);have g:=hid (bw x a);have j:=hid ((p.out.kept a).mono a.size);have t:=d.out.at 72 (J Q M.clock) D;have P:=d.out.z;clear a)
       | (go_at_call 21;refine(Lk.rcheck l v _ M.clock _ j.out (ψ _)).mono ?_;rw[y.out];rintro e w2 ⟨rfl,f⟩;have i:=hid (d.out.kept f);have k:=hid (bw g.out f);have B:=i.out.at 72 (J Q M.clock) D;have T:=i.out.z;clear f))
      go_ret;exact⟨D,k.out⟩
     ·have m:=zfV s.out y.out (n:=n) (by omega)
      rw[m];have d3:decide (200000<M.clock+n)=ξ:=aG h4;clear m H h2 h4;go_enter func10,ntmps10;go_wp2_with (first
       | (refine wpList_load_mid D 41 _ D w.heap.size 0 D (υ M S) _ o.out.c underlying41 D cn ?_)
       | (go_at_call 35;refine(tP M S _ F.out).mono ?_;rw[s.out];rintro e w1 ⟨rfl,a⟩;have d:=hid (o.out.kept a);have g:=hid (bw x a);have j:=hid ((p.out.kept a).mono a.size);have t:=d.out.at 72 (J Q M.clock) D;have P:=d.out.z;clear a)
       | (go_at_call 21;refine(Lk.rcheck l v _ M.clock _ j.out (ψ _)).mono ?_;rw[y.out];rintro e w2 ⟨rfl,f⟩;have i:=hid (d.out.kept f);have k:=hid (bw g.out f);have B:=i.out.at 72 (J Q M.clock) D;have T:=i.out.z;clear f))
      go_ret;exact⟨D,k.out⟩
  ·have m:bS M l n=chkIn l M.clock:=by unfold bS;rw[am hc,ae hi]
   have E:(chkIn l M.clock != 0)=Γ:=by simpa using hi
   rw[m];have I:=hid (λ(w1:u) (h:bP w1.heap.size w1 v l)=>Lk.rcheck l v _ M.clock w1 h (ψ _));generalize chkIn l M.clock=c at E I;clear hc hi r N q R m;go_enter func10,ntmps10;go_wp2_with (first
    | (refine wpList_load_mid D 41 _ D w.heap.size 0 D (υ M S) _ o.out.c underlying41 D cn ?_)
    | (go_at_call 35;refine(tP M S _ F.out).mono ?_;rw[s.out];rintro e w1 ⟨rfl,a⟩;have d:=hid (o.out.kept a);have g:=hid (bw x a);have j:=hid ((p.out.kept a).mono a.size);have t:=d.out.at 72 (J Q M.clock) D;have P:=d.out.z;clear a)
    | (go_at_call 21;refine(I.out _ j.out).mono ?_;rintro e w2 ⟨rfl,f⟩;have k:=hid (bw g.out f);clear f))
   go_ret;exact⟨D,k.out⟩
 ·have m:bS M l n=M.chk:=by unfold bS;rw[ae hc]
  have E:(M.chk != 0)=Γ:=by simpa using hc
  rw[m];have L:=hid (λ(w1:u)=>tP M S w1 F.out);generalize M.chk=c at E L;clear hc r N q m;go_enter func10,ntmps10;go_wp2_with (first
   | (refine wpList_load_mid D 41 _ D w.heap.size 0 D (υ M S) _ o.out.c underlying41 D cn ?_)
   | (go_at_call 35;refine(L.out _).mono ?_;rintro e w1 ⟨rfl,a⟩;have g:=hid (bw x a);clear a))
  go_ret;exact⟨D,g.out⟩
def zxb(a0 a1 a2 a3 a4 a5 h j k a9 a b c e f g:Int)(d:Nat)(w:u):(Op.equalIn (d+2) 66 (ac #[J au a0,J au a1,J au a2,J au a3,J au a4,J au a5,J au h,J au j,J au k,J au a9,J au a,J au b,J au c,J au e,J au f,J au g]) (ac #[J au a0,J au a1,J au a2,J au a3,J au a4,J au a5,J au h,J au j,J au k,J au a9,J au a,J au b,J au c,J au e,J au f,J au g])).run ω w=.ok Γ w:=by
 have u3:=underlying5;have x3:=isAgg5;have z3:=sizeOf5;have l:Tryz.prog.cellsOf 5=1:=by kernel_rfl
 have m:(Tryz.prog.info? 5).isSome=Γ:=by kernel_rfl
 obtain⟨i,hi⟩:=eE.1 m;rw[gY w (d+1) _ _ underlying66 hi,l];simp only[List.range,List.range.loop,Op.eqItems];go_simp
def zol(f l:Int)(a0 a1 a2 a3 a4 a5 h i j a9 a b c d e g:Int)(w:u):(fG .eql 68 (ac #[J Q f,J Q l,J au a0,J au a1,J au a2,J au a3,J au a4,J au a5,J au h,J au i,J au j,J au a9,J au a,J au b,J au c,J au d,J au e,J au g]) (ac #[J Q f,J Q l,J au a0,J au a1,J au a2,J au a3,J au a4,J au a5,J au h,J au i,J au j,J au a9,J au a,J au b,J au c,J au d,J au e,J au g])).run ω w=.ok (ν Γ) w:=by
 have u3:=underlying3;have x3:=isAgg3;have z3:=sizeOf3;have m:=isAgg66;have z5:=sizeOf66;have n:=zxb a0 a1 a2 a3 a4 a5 h i j a9 a b c d e g 9997;have k:Tryz.prog.underlying 68=A (.struct (Tryz.prog.fieldsOf 68)):=by kernel_rfl
 have hp:Tryz.prog.stoodInHeld 68=ξ:=by kernel_rfl
 rw[dK,show (10000:Nat)=9999+1 from D,eI w 9999 68 _ _ k hp];simp only[dX,underlying68];go_simp
def zom(c a v:Int)(w:u):(fG .eql 104 (ac #[J Q c,J Q a,J au v]) (ac #[J Q c,J Q a,J au v])).run ω w=.ok (ν Γ) w:=by
 have u3:=underlying3;have x3:=isAgg3;have z3:=sizeOf3;have d:=underlying5;have e:=isAgg5;have z5:=sizeOf5;have b:Tryz.prog.underlying 104=A (.struct (Tryz.prog.fieldsOf 104)):=by kernel_rfl
 have hp:Tryz.prog.stoodInHeld 104=ξ:=by kernel_rfl
 rw[dK,show (10000:Nat)=9999+1 from D,eI w 9999 104 _ _ b hp];simp only[dX,underlying104];go_simp
def oU(x:Lin):List π:=J Q x.f :: J Q x.l::bE x.px
def oV(x:Wt):List π:=[J Q x.c,J Q x.a,J au x.v]
def zrV(x:Lin)(w:u):(fG .neq 68 (ac (oU x).toArray) (ac (oU x).toArray)).run ω w=.ok (ν ξ) w:=zgz (zol x.f x.l (x.px 0) (x.px 1) (x.px 2) (x.px 3) (x.px 4) (x.px 5) (x.px 6) (x.px 7) (x.px 8) (x.px 9) (x.px 10) (x.px 11) (x.px 12) (x.px 13) (x.px 14) (x.px 15) w)
def zon(x:Wt)(w:u):(fG .neq 104 (ac (oV x).toArray) (ac (oV x).toArray)).run ω w=.ok (ν ξ) w:=zgz (zom x.c x.a x.v w)
def zoo:∀(l:List Lin) (i:Nat) (x:Lin),l[i]?=A x->∀(j:Nat) (v:π),(oU x)[j]?=A v->(nj l)[i*18+j]?=A v
 | [],i,x,h=>by simp at h
 | y::l,0,x,h=>λj v a=>by
  simp only[bv,aZ] at h;subst h;rw[i8,aX];show (oU y++nj l)[j]?=_;rw[bc (ay.1 a).1];exact a
 | y::l,i+1,x,h=>λj v a=>by
  rw[bN] at h;have:=zoo l i x h j v a;show (oU y++nj l)[(i+1)*18+j]?=_;have b:(oU y).length=18:=by simp[oU,pw]
  rw[aY (by rw[b];omega),b,show (i+1)*18+j-18=i*18+j by omega];exact this
def zop:∀(l:List Wt) (i:Nat) (x:Wt),l[i]?=A x->∀(j:Nat) (v:π),(oV x)[j]?=A v->(oC l)[i*3+j]?=A v
 | [],i,x,h=>by simp at h
 | y::l,0,x,h=>λj v a=>by
  simp only[bv,aZ] at h;subst h;rw[i8,aX];show (oV y++oC l)[j]?=_;rw[bc (ay.1 a).1];exact a
 | y::l,i+1,x,h=>λj v a=>by
  rw[bN] at h;have:=zop l i x h j v a;show (oV y++oC l)[(i+1)*3+j]?=_;rw[aY (by simp[oV];omega),show (oV y).length=3 from D,show (i+1)*3+j-3=i*3+j by omega];exact this
def zql:(Tryz.prog.info? 68).map (·.size)=A 18:=by kernel_rfl
def zqm:(Tryz.prog.info? 104).map (·.size)=A 3:=by kernel_rfl
def Lk.sameLn(f v2:π)(l:List Lin)(w:u)(h1:kO w f l.length 18 (nj l))(h2:kO w v2 l.length 18 (nj l))(t:l.length<=1000000):Δ ω 39 #[f,v2] w λe w'=>e=μ (ν Γ)/\Below w.heap.size w w':=by
 obtain⟨a1,k1,e1⟩:=h1.len;obtain⟨a2,k2,e2⟩:=h2.len;subst e1 e2;have m:=hid h1;have n:=hid h2;clear h1 h2;go_enter func39,ntmps39;go_wp2;go_loopw [13] (λi wr=>∃ j:Nat,j<=l.length/\i=J Q j/\Below w.heap.size w wr) (λi _=>l.length-(aU i).toNat)
 case atStart=>exact⟨0,bh _,D,aR w⟩
 case round =>
  obtain⟨j,v,rfl,hb⟩:=hrel;have g:=hid hb;by_cases b:j<l.length
  ·have h:(j:Int)<l.length:=by omega
   have o:(0:Int)<=j:=by omega
   have p:(j:Int)<1000000:=by omega
   obtain⟨x,d⟩:∃ x,l[j]?=A x:=⟨_,aq b⟩
   obtain⟨g1,o1,c1,q1,y,r1⟩:=(m.out.kept hb).range b (zoo l j x d);obtain⟨k,o2,c2,q,z2,r2⟩:=(n.out.kept hb).range b (zoo l j x d);cases q1;cases q;have r:=zrV x;clear hb d;go_upto_region 6 with fail
   refine wp_region_held_drew (S:=λw'=>w'.rangeAt g1 (o1+j*18) (oU x)/\w'.rangeAt k (o2+j*18) (oU x)) (by kernel_rfl) ⟨r1,r2⟩ ?_;intro a;refine dy 0 ⟨A 16,_,_,_,_,G⟩ a ?_;simp only[ag,xA,xB,xC];refine dy 1 ⟨A 17,_,_,_,_,G⟩ a ?_;simp only[ag,xA,xB,xC];refine dy 2 ⟨A 18,_,_,_,_,G⟩ a ?_;simp only[ag,xA,xB,xC];refine jW 3 (ac (oU x).toArray) D (λw' c=>ml 68 _ D g1 (o1+j*18) D (oU x) _ c.1 underlying68 D zql) a ?_;refine dy 4 ⟨A 20,_,_,_,_,G⟩ a ?_;simp only[ag,xA,xB,xC];refine dy 5 ⟨A 21,_,_,_,_,G⟩ a ?_;simp only[ag,xA,xB,xC];refine dy 6 ⟨A 22,_,_,_,_,G⟩ a ?_;simp only[ag,xA,xB,xC];refine jW 7 (ac (oU x).toArray) D (λw' c=>ml 68 _ D k (o2+j*18) D (oU x) _ c.2 underlying68 D zql) a ?_;refine dy 8 ⟨A 24,_,_,_,_,G⟩ a ?_;simp only[ag,xA,xB,xC];refine wpAnyH_done (by kernel_rfl) ?_ _;clear a r1 r2;go_wp2;exact⟨⟨j+1,by omega,by simp,g.out.drew⟩,by simp[aU];omega⟩
  ·have s:¬ (j:Int)<l.length:=by omega
   clear hb;go_wp2;go_ret;exact⟨D,g.out⟩
def Lk.sameWr(f v2:π)(l:List Wt)(w:u)(h1:kO w f l.length 3 (oC l))(h2:kO w v2 l.length 3 (oC l))(t:l.length<=1000000):Δ ω 40 #[f,v2] w λe w'=>e=μ (ν Γ)/\Below w.heap.size w w':=by
 obtain⟨a1,k1,e1⟩:=h1.len;obtain⟨a2,k2,e2⟩:=h2.len;subst e1 e2;have m:=hid h1;have n:=hid h2;clear h1 h2;go_enter func40,ntmps40;go_wp2;go_loopw [13] (λi wr=>∃ j:Nat,j<=l.length/\i=J Q j/\Below w.heap.size w wr) (λi _=>l.length-(aU i).toNat)
 case atStart=>exact⟨0,bh _,D,aR w⟩
 case round =>
  obtain⟨j,v,rfl,hb⟩:=hrel;have g:=hid hb;by_cases b:j<l.length
  ·have h:(j:Int)<l.length:=by omega
   have o:(0:Int)<=j:=by omega
   have p:(j:Int)<1000000:=by omega
   obtain⟨x,d⟩:∃ x,l[j]?=A x:=⟨_,aq b⟩
   obtain⟨g1,o1,c1,q1,y,r1⟩:=(m.out.kept hb).range b (zop l j x d);obtain⟨k,o2,c2,q,z2,r2⟩:=(n.out.kept hb).range b (zop l j x d);cases q1;cases q;have r:=zon x;clear hb d;go_upto_region 6 with fail
   refine wp_region_held_drew (S:=λw'=>w'.rangeAt g1 (o1+j*3) (oV x)/\w'.rangeAt k (o2+j*3) (oV x)) (by kernel_rfl) ⟨r1,r2⟩ ?_;intro a;refine dy 0 ⟨A 16,_,_,_,_,G⟩ a ?_;simp only[ag,xA,xB,xC];refine dy 1 ⟨A 17,_,_,_,_,G⟩ a ?_;simp only[ag,xA,xB,xC];refine dy 2 ⟨A 18,_,_,_,_,G⟩ a ?_;simp only[ag,xA,xB,xC];refine jW 3 (ac (oV x).toArray) D (λw' c=>ml 104 _ D g1 (o1+j*3) D (oV x) _ c.1 underlying104 D zqm) a ?_;refine dy 4 ⟨A 20,_,_,_,_,G⟩ a ?_;simp only[ag,xA,xB,xC];refine dy 5 ⟨A 21,_,_,_,_,G⟩ a ?_;simp only[ag,xA,xB,xC];refine dy 6 ⟨A 22,_,_,_,_,G⟩ a ?_;simp only[ag,xA,xB,xC];refine jW 7 (ac (oV x).toArray) D (λw' c=>ml 104 _ D k (o2+j*3) D (oV x) _ c.2 underlying104 D zqm) a ?_;refine dy 8 ⟨A 24,_,_,_,_,G⟩ a ?_;simp only[ag,xA,xB,xC];refine wpAnyH_done (by kernel_rfl) ?_ _;clear a r1 r2;go_wp2;exact⟨⟨j+1,by omega,by simp,g.out.drew⟩,by simp[aU];omega⟩
  ·have s:¬ (j:Int)<l.length:=by omega
   clear hb;go_wp2;go_ret;exact⟨D,g.out⟩
structure ShAt (w : u) (v1 v2 v3 : π) (ln : List Lin) (sm : List UInt8) (ws : List Wt) : Prop where
 ln:kO w v1 ln.length 18 (nj ln)
 sm:sliceAt w v2 sm
 ws:kO w v3 ws.length 3 (oC ws)
def ShAt.kept{w w1:u}{a v2 v3:π}{ln:List Lin}{sm:List UInt8}{ws:List Wt}(h:ShAt w a v2 v3 ln sm ws)(hb:Below w.heap.size w w1):ShAt w1 a v2 v3 ln sm ws:=⟨h.ln.kept hb,h.sm.kept hb,h.ws.kept hb⟩
def Lk.sameShown(i v2 v3 u1 u2 u3:π)(ln:List Lin)(sm:List UInt8)(ws:List Wt)(w:u)(h:ShAt w i v2 v3 ln sm ws)(k:ShAt w u1 u2 u3 ln sm ws)(h1:ln.length<=1000000)(h3:ws.length<=1000000):Δ ω 14 #[ac #[i,v2,v3],ac #[u1,u2,u3]] w λe w'=>e=μ (ν Γ)/\Below w.heap.size w w':=by
 obtain⟨a1,k1,e1⟩:=h.ln.len;obtain⟨a2,k2,e2⟩:=tV h.sm;obtain⟨a3,j,e3⟩:=h.ws.len;obtain⟨b1,m1,f1⟩:=k.ln.len;obtain⟨b2,l,f2⟩:=tV k.sm;obtain⟨b3,m,f3⟩:=k.ws.len;subst e1 e2 e3 f1 f2 f3;have H:=hid h;have K:=hid k;have c:=hid h1;have d:=hid h3;clear h k h1 h3;go_enter func14,ntmps14;go_wp2_with (first
  | (go_at_call 39;refine(Lk.sameLn _ _ ln _ (H.out.kept (stA (stA (aR w) _) _)).ln (K.out.kept (stA (stA (aR w) _) _)).ln c.out).mono ?_;rintro e w1 ⟨rfl,b⟩;have a:=hid (bw (stA (stA (aR w) (χ #[κ a1 ln.length k1,κ a2 sm.length k2,κ a3 ws.length j] 47)) (χ #[κ b1 ln.length m1,κ b2 sm.length l,κ b3 ws.length m] 47)) b);obtain⟨n,o⟩:=cj b;have p:w.heap.size+1<w1.heap.size:=by have:=b.size;simp at this;omega)
  | (go_at_call 38;refine(zlo _ _ sm sm _ (H.out.kept a.out).sm (K.out.kept a.out).sm).mono ?_;rw[o9];rintro e w2 ⟨rfl,rfl⟩)
  | (go_at_call 40;refine(Lk.sameWr _ _ ws _ (H.out.kept a.out).ws (K.out.kept a.out).ws d.out).mono ?_;rintro e q ⟨rfl,f⟩;have g:=hid (bw a.out f)))
 go_ret;exact⟨D,g.out⟩
def zz2:(dA.clocks 64).s.M.b.a=0/\(dA.clocks 64).s.M.b.f=0:=by
 have hb:BOk dA.s.M.b.l dA.s.M.b.a dA.s.M.b.f:=⟨show (0:Int)<=0 by decide,show (0:Int)<=9 by decide,show (0:Int)<=0 by decide,show (0:Int)<=63 by decide,show (0:Int)<=0 by decide,show (0:Int)<=20000 by decide⟩
 have c:dA.s.M.b.f<=19000:=show (0:Int)<=19000 by decide
 have h1:=zR dA hb c 64 (by omega);exact⟨by rw[h1.a];decide +kernel,by rw[h1.f];decide +kernel⟩
def zz3(X:Mach)(c:X.fit)(h1:X.b.l=1)(h2:X.b.a=0)(h3:X.b.f=0):(Cs.clocks ⟨⟨X,0,[]⟩,[],[],[]⟩ 64).ln.length=1:=by
 have hb:BOk X.b.l X.b.a X.b.f:=⟨c.b.l0,c.b.l1,c.b.a0,c.b.a1,c.b.f0,by rw[h3];decide⟩
 have h4:=zeM ⟨⟨X,0,[]⟩,[],[],[]⟩ hb (by show X.b.f<=19000;rw[h3];decide) D 64 (by omega);have:((Cs.clocks ⟨⟨X,0,[]⟩,[],[],[]⟩ 64).ln.map (λx=>(x.f,x.l))).length=1:=by
  rw[h4];show (gI X.b.l X.b.a X.b.f 64).length=1;rw[h1,h2,h3];decide +kernel
 rwa [bf] at this
def zz4(X:Mach):(Cs.clocks ⟨⟨X,0,[]⟩,[],[],[]⟩ 64).s.M.clock=X.clock+64 :=
 (zcz ⟨⟨X,0,[]⟩,[],[],[]⟩ [] rfl List.Pairwise.nil (λx a=>by cases a) 64).1
def cf.away{W a:u}{S:Sl}{M:Mach}{B:Nat}(h:cf W S M)(e:gA B S)(f:W.heap.size<=a.heap.size)(k:∀ j,j<W.heap.size->B<=j->a.heap[j]?=W.heap[j]?):cf a S M:=λj d=>by
 rcases h j d with l|⟨g,o',b,e1,e2,e3,e4⟩
 ·exact aj l
 ·have m:B<=g:=e j d _ _ _ e1
  exact ao ⟨g,o',b,e1,e2,Θ e3 f,λi c hi=>(Φ (w:=W) (k g e3 m)).trans (e4 i c hi)⟩
def LE.kept{w ι Y':u}{b c:Nat}{M:Mach}{S:Sl}{L:List π}(h:LE w b c M S L ι)(hb:Below ι.heap.size ι Y'):LE w b c M S L Y':=⟨bw h.low hb,h.bx.kept hb,h.sh.kept hb⟩
structure LF (w w3 : u) (b : Nat) (M : Mach) (S : Sl) (L : List π) (ι : u) : Prop extends LE w b w3.heap.size M S L ι where
 size:w3.heap.size<=ι.heap.size
 old:∀ j,j<w3.heap.size->j≠b->ι.heap[j]?=w3.heap[j]?
def LF.mk1{w a:u}{b:Nat}{M X:Mach}{S S':Sl}(hb:Below w.heap.size w a)(c:w.heap.size<=b)(d:Bx a b (υ M S)):LF w a b X S' [κ G 0 0,κ G 0 0,κ G 0 0] ((a.alloc (χ #[κ G 0 0,κ G 0 0,κ G 0 0] 47)).setCells b 0 (υ X S')) :=
 ⟨LE.mk1 hb c d,by rw[pN];simp,λj h1 h2=>(ji h2 _ _ _).trans ((stA (aR a) _).block j h1)⟩
def LF.put'{w a ι:u}{b:Nat}{X:Mach}{S':Sl}{x y z e f g:π}(h:LF w a b X S' [x,y,z] ι)(c:b≠a.heap.size)(d:w.heap.size<=a.heap.size):LF w a b X S' [e,f,g] (ι.setCells a.heap.size 0 [e,f,g]) :=
 ⟨h.toLE.put c d,by rw[pN];exact h.size,λj h1 h2=>(ji (by omega) _ _ _).trans (h.old j h1 h2)⟩
def zca(w:u)(hF:AF w):Δ ω 18 #[] w λe w'=>e=μ (ν Γ)/\Below w.heap.size w w':=by
 have HB:=hid (zpO qU ig (by decide) (by decide) zqi w hF);have HF:=hid hF;have h:=zyc;obtain⟨K,hK⟩:∃ K,K=dA.clocks 64:=⟨_,D⟩
 rw[<- hK] at h;have HK:=hid hK;have HE:=hid h;clear hF hK h;go_enter func18,ntmps18;go_wp2_with (first
  | (go_at_call 36;refine HB.out.mono ?_;rintro e w1 ⟨v,rfl,hv,L⟩;have HV:=hid (zqj hv);have HL1:=hid L;clear hv L)
  | (go_at_call 37;refine(zK ig [] v (κ G 0 0) w1 HV.out (zuB _) (by decide) (by decide)).mono ?_;rintro e w2 ⟨S2,rfl,P,R,hn2,T⟩;have U:=hid P;have HF2:=hid R;have HL2:=hid (bw HL1.out T);clear P R hn2 T)
  | (refine wpList_store_mid D 41 _ _ D w2.heap.size 0 (υ (dv ig []) S2).toArray D D ((Bx.new w2 (υ aD aP) 41 (b:=w2.heap.size) D).there 0 75 (by rw[dG];omega)) cn (iq _ _ (kC U.out)) ?_
     refine Pl.cutL (LBx w w2.heap.size (dv ig []) S2) (LBx.mk0 HL2.out U.out) ?_;intro Y1 V;have d:=hid V;clear V)
  | (refine wpList_load_mid D 41 _ D w2.heap.size 0 D (υ X F.S) _ i.out.bx.c underlying41 D cn ?_)
  | (refine wpList_load_mid D 41 _ D w2.heap.size 0 D (υ (dv ig []) S2) _ d.out.bx.c underlying41 D cn ?_)
  | (go_at_call 17;refine(zm4 X F.S (κ G 0 0) [] 64 Y3 HSX3.out (HF.out.kept i.out.low).shapes (AW _ _) (λx hx=>by cases hx) r.out (by rw[t.out.2];decide) D ⟨by decide,by rw[H.out.2.1];decide⟩).mono ?_
     rintro e w4 ⟨F4,N4,tln,tsm,tw,rfl,k,_,_,_,m⟩;obtain⟨b1,d1,e1⟩:=tZ k.ln;obtain⟨b2,n2,d2,e2⟩:=ol k.sm;obtain⟨b3,n4,d3,e3⟩:=ol k.ws;rw[zz3 X r.out H.out.2.2 t.out.1 t.out.2] at e1;subst e1 e2 e3;have HIS4:=hid (kC k.sl);have HL4:=hid (bw i.out.low m);have HY34:=hid ((⟨HL4.out,i.out.bx.kept m,i.out.sh.kept m⟩:LE w w2.heap.size I.heap.size X F.S [κ a1 1 c1,κ a2 4 c2,κ a3 n3 c3] w4));obtain⟨q,y⟩:∃ q,q=(Cs.clocks ⟨⟨X,0,[]⟩,[],[],[]⟩ 64).s.M:=⟨_,D⟩
     have HX4:bG (q.clock=128):=hid (by rw[y,zz4 X,H.out.2.1];rfl);rw[<- y];clear k m y)
  | (refine wpList_store_mid D 41 _ _ D w4.heap.size 0 (υ q F4.S).toArray D D (R3.th1 w4) cn (iq _ _ HIS4.out) ?_
     refine Pl.cutL (R3 w4 q F4.S nil3) (R3.mk1 w4 q F4.S) ?_;intro Y5 W;have Z:=hid W;clear W)
  | (refine wpList_store_mid D 47 _ _ D (w4.heap.size+1) 0 #[κ b1 1 d1,κ b2 n2 d2,κ b3 n4 d3] D D (Z.out.s.there 0 3 (by simp)) kX (lH _ _ _ _ _ _ _ _ _) ?_
     refine Pl.cutL (R3 w4 q F4.S [κ b1 1 d1,κ b2 n2 d2,κ b3 n4 d3]) Z.out.put ?_;intro Y6 g;have HY6:=hid g;have h:=HY34.out.kept g.old;have HL6:=hid h.low;have y0:=h.sh.at 0 _ D;have y1:=h.sh.at 1 _ D;have yz:=h.sh.z;obtain⟨x1,x2,x3⟩:=cell_of h.bx;have xz:=h.bx.z;rw[H.out.1] at x1;rw[H.out.2.1] at x2;rw[H.out.2.2] at x3;have u0:=g.s.at 0 _ D;have uz:=g.s.z;have u2:=g.x.at 72 (J Q q.clock) D;have uz2:=g.x.z;rw[HX4.out] at u2;clear g h)
  | (go_at_call 9;refine(AV (dv ig []) S2 (κ G 0 0) [] 64 Y1 d.out.sl (HF.out.kept d.out.low).shapes (AW _ _) (λx hx=>by cases hx) HF2.out (by show (0:Int)<=20000;decide) D ⟨by decide,by show (0:Int)+64<=200000;decide⟩).mono ?_
     rintro e I ⟨F,N,vln,vsm,vw,rfl,n,hfb,_,hnw,B⟩
     change Told F N (dA.clocks 64) vln vsm vw I at n
     have o:=HK.out;rw[show (⟨⟨dv ig [],0,[]⟩,[],[],[]⟩:Cs)=dA from D,<- o];rw[<- o] at n;obtain⟨a1,c1,e1⟩:=tZ n.ln;obtain⟨a2,c2,e2⟩:=tZ n.sm;obtain⟨a3,n3,c3,e3⟩:=ol n.ws;rw[HE.out.1] at e1;rw[HE.out.2.1] at e2;subst e1 e2 e3;have HIS:=hid (kC n.sl);have HSX:=hid n.sl;have HNW:=hid hnw;have HFB:=hid hfb;have r:=hid n.fit;have E:=hid (d.out.bx.kept B);have HL3:=hid (bw d.out.low B);have hne:w2.heap.size≠I.heap.size:=by have:=E.out.z;omega
     obtain⟨X,hX⟩:∃ X,X=K.s.M:=⟨_,D⟩
     have H:bG (X.main.Waits=Γ/\X.clock=64/\X.b.l=1):=hid (by rw[hX];exact HE.out.2.2);have t:bG (X.b.a=0/\X.b.f=0):=hid (by rw[hX,o];exact zz2);rw[<- hX] at HSX r ⊢;clear n B hX o hfb hnw)
  | (refine wpList_store_mid D 41 _ _ D w2.heap.size 0 (υ X F.S).toArray D D ((E.out.over _).there 0 75 (by rw[dG];omega)) cn (iq _ _ HIS.out) ?_
     refine Pl.cutL (LF w I w2.heap.size X F.S [κ G 0 0,κ G 0 0,κ G 0 0]) (LF.mk1 HL3.out d.out.ge E.out) ?_;intro Y2 hY2;have HY2:=hid hY2;clear hY2)
  | (refine wpList_store_mid D 47 _ _ D I.heap.size 0 #[κ a1 1 c1,κ a2 4 c2,κ a3 n3 c3] D D (HY2.out.sh.there 0 3 (by simp)) kX (by simp[bi]) ?_
     refine Pl.cutL (LF w I w2.heap.size X F.S [κ a1 1 c1,κ a2 4 c2,κ a3 n3 c3]) (HY2.out.put' hne HL3.out.size) ?_;intro Y3 p;have i:=hid p;have HSX3:=hid (HSX.out.away HNW.out p.size (λj h1 h2=>p.old j h1 (by have:=HFB.out;have:=d.out.bx.z;omega)));clear p))
 go_ret;exact⟨D,HL6.out⟩
section
variable {F : Gx} {N ob : Nat} {vl vs : π} {w w1 : u} {s s' : Bst} {ln : List Lin} {sm : List UInt8} {M : Mach}
variable {W W1 : u}
def GV.trans{vl' vs':π}{s':Bst}{ln':List Lin}{sm':List UInt8}{g:u}(h:GV F N ob vl vs w s ln sm W)(h2:GV F N ob vl' vs' W s' ln' sm' g):GV F N ob vl' vs' w s' ln' sm' g :=
 ⟨h2.c,h.b.trans h2.b,λk d=>by
   obtain⟨e,e1,e2⟩:=h.q k d;have f:Kpt N ob W k:=⟨d.n,by obtain⟨cs,t,fr,e3,i⟩:=d.t;exact⟨cs,t,fr,e.trans e3,i⟩,λθ a=>by rw[Lib.cell_of_heap h.c.ob 0] at a;cases a;exact e1,λθ a=>by rw[Lib.cell_of_heap h.c.ob 1] at a;cases a;exact e2⟩
   obtain⟨g0,g1,j⟩:=h2.q k f;exact⟨g0.trans e,g1,j⟩⟩
end
section
variable {F : Gx} {N ob : Nat} {vl vs v : π} {w W W1 : u} {inp : List Inp} {k : Cs}
structure GR (F : Gx) (N ob : Nat) (w w0 : u) (k : Cs) (W : u) : Prop where
 g:∃ vl vs,GV F N ob vl vs w0 k.s k.ln k.sm W
 r:RR w (υ aD aP) [κ G 0 0,κ G 0 0,κ G 0 0] W
structure GE (F : Gx) (N ob : Nat) (w : u) (k : Cs) (vl vs vw : π) (L1 L2 : List π) (ι : u) : Prop where
 r:RR w L1 L2 ι
 gd:Gd F ι k.s.M ⟨k.s.n,k.s.l,vw⟩
 o:Bx ι ob [vl,vs,vw]
 ln:ι.ownsRow N 68 18 vl k.ln.length (nj k.ln)
 sm:ι.ownsRow N 5 1 vs k.sm.length (gJ k.sm)
 lo:∀ k,F.all k->F.B<=k
 z:w.heap.size+3<=F.B/\F.B<=N/\N<=ob
def GE.s{L1 L2:List π}{vw:π}(h:GE F N ob w k vl vs vw L1 L2 W):W.rangeAt F.g 0 (υ k.s.M F.S)/\W.rangeAt ob 0 [vl,vs,vw]:=⟨h.gd.row,h.o.c⟩
def GE.kept{L1 L2:List π}{vw:π}(h:GE F N ob w k vl vs vw L1 L2 W)(hb:Below W.heap.size W W1):GE F N ob w k vl vs vw L1 L2 W1 :=
 ⟨h.r.kept hb,h.gd.kept hb,h.o.kept hb,jr h.ln (λj e=>hb.block j (jE h.ln j e).2.1),jr h.sm (λj e=>hb.block j (jE h.sm j e).2.1),h.lo,h.z⟩
def GE.puts{L1 L2 a c:List π}{vw:π}(h:GE F N ob w k vl vs vw L1 L2 W)(b:Nat)(hb:b<F.B)(L:List π)(d:RR w a c (W.setCells b 0 L)):GE F N ob w k vl vs vw a c (W.setCells b 0 L):=by
 obtain⟨i,z2,z3⟩:=h.z
 exact⟨d,h.gd.of_same (cq (pN _ _ _ _).symm) (λj _ f=>ji (by have:=h.lo j f;omega) _ _ _) (λj g=>ji (by have:=(jE h.gd.ws j g).1;omega) _ _ _),DW.bb h.o (by omega),
  jr h.ln (λj e=>ji (by have:=(jE h.ln j e).1;omega) _ _ _),jr h.sm (λj e=>ji (by have:=(jE h.sm j e).1;omega) _ _ _),h.lo,h.z⟩
def GE.put1{L2:List π}{vw:π}(h:GE F N ob w k vl vs vw (υ aD aP) L2 W):GE F N ob w k vl vs vw (υ k.s.M F.S) L2 (W.setCells (w.heap.size+1) 0 (υ k.s.M F.S)):=by
 obtain⟨b,z2,z3⟩:=h.z;have a:=h.r.b1.puts 0 (υ k.s.M F.S) (by rw[dG,dG];omega);rw[mK _ _ (by rw[dG,dG])] at a;exact h.puts _ (by omega) _ ⟨ni h.r.low (by omega) _ _,a,DW.bb h.r.b2 (by omega)⟩
def GE.put2{L1:List π}{vw x y z:π}(h:GE F N ob w k vl vs vw L1 [x,y,z] W):GE F N ob w k vl vs vw L1 [vl,vs,vw] (W.setCells (w.heap.size+2) 0 [vl,vs,vw]):=by
 obtain⟨b,z2,z3⟩:=h.z;have a:=h.r.b2.puts 0 [vl,vs,vw] (by simp);rw[mK _ _ (by simp)] at a;exact h.puts _ (by omega) _ ⟨ni h.r.low (by omega) _ _,DW.bb h.r.b1 (by omega),a⟩
def GE.of{L1 L2:List π}{vw:π}{w0:u}(b:GK F N ob)(h:GV F N ob vl vs w0 k.s k.ln k.sm W)(r:RR w L1 L2 W)(p:Gd F W k.s.M ⟨k.s.n,k.s.l,vw⟩)(g:∀ k,F.all k->F.B<=k)(q:w.heap.size+3<=F.B):GE F N ob w k vl vs vw L1 L2 (W.setCell ⟨ob,2,G⟩ vw):=by
 have a:=h.c.ob;have far:∀ j,j≠ob->(W.setCell ⟨ob,2,G⟩ vw).heap[j]?=W.heap[j]?:=λj d=>f8 d
 have hB:=b.B;have i:Below F.B W (W.setCell ⟨ob,2,G⟩ vw):=Pl.below (ax hB b.ob) [vw] 2 W ((aR W).mono h.c.big);have e:(W.setCell ⟨ob,2,G⟩ vw).heap[ob]?=A (χ ([vl,vs,vw]:List π).toArray 47 (0,0)):=vN a vw
 refine⟨r.far q i,p.of_same (by simp) (λj _ t=>far j (by have:=b.all j t;have:=b.ob;omega)) (λj d=>far j (λf=>?_)),⟨(aa.1 e).1,λj v d=>(Lib.cell_of_heap e (0+j)).trans (by rw[aX,ch];exact d),λo=>Lib.frozen_of_heap e o⟩,
  jr h.c.ln (λj m=>far j (λf=>?_)),jr h.c.sm (λj m=>far j (λf=>?_)),g,q,hB,b.ob⟩
 ·obtain⟨cs,fr,e2⟩:=p.wty j d
  subst f;rw[a] at e2;simp only[aZ,eJ] at e2;exact absurd e2.2.1 (by decide)
 ·subst f;exact mL h.c.ln a (by decide) m
 ·subst f;exact mL h.c.sm a (by decide) m
def Rk.run(M:Mach)(S:Sl)(v:π)(n:Nat)(w:u)(hs:cf w S M)(hsz:∀ j,j<5->(M.byt j).length<=140737488355328)(hF:Facts w)(hg:1<w.heap.size/\0<w.heap.size/\2<w.heap.size)(hin:bP w.heap.size w v inp)(hf:M.fit)(hok:∀ x∈inp,x.ok)(hli:inp.length<=40)(hc:chkIn inp M.clock=0)(hn:n<=200000)
 (hm:∀ j,j<n->(Cs.clocks ⟨⟨M,0,[]⟩,inp,[],[]⟩ j).may) :
 Δ ω 16 #[ac (υ M S).toArray,v,J Q n] w λe w'=>∃(F:Gx) (N:Nat) (vl vs vw:π),e=μ (Ψ #[ac (υ (Cs.clocks ⟨⟨M,0,[]⟩,inp,[],[]⟩ n).s.M F.S).toArray,ac #[vl,vs,vw]])/\cf w' F.S (Cs.clocks ⟨⟨M,0,[]⟩,inp,[],[]⟩ n).s.M/\(Cs.clocks ⟨⟨M,0,[]⟩,inp,[],[]⟩ n).s.M.fit /\
  w'.ownsRow N 68 18 vl (Cs.clocks ⟨⟨M,0,[]⟩,inp,[],[]⟩ n).ln.length (nj (Cs.clocks ⟨⟨M,0,[]⟩,inp,[],[]⟩ n).ln)/\w'.ownsRow N 5 1 vs (Cs.clocks ⟨⟨M,0,[]⟩,inp,[],[]⟩ n).sm.length (gJ (Cs.clocks ⟨⟨M,0,[]⟩,inp,[],[]⟩ n).sm) /\
  w'.ownsRow F.B 104 3 vw (Cs.clocks ⟨⟨M,0,[]⟩,inp,[],[]⟩ n).s.l.length (oC (Cs.clocks ⟨⟨M,0,[]⟩,inp,[],[]⟩ n).s.l)/\w.heap.size<=F.B/\Below w.heap.size w w':=by
 obtain⟨k0,p⟩:∃ k0:Cs,k0=⟨⟨M,0,[]⟩,inp,[],[]⟩:=⟨_,D⟩
 rw[<- p] at hm ⊢;have HD0:=hid (by rw[p];exact vV.of hc:vV inp k0);have HK0:=hid p;have hBm:=Bx.new w (υ M S) 41 (b:=w.heap.size) D;have hW:Below w.heap.size w (((w.alloc (χ (υ M S).toArray 41)).alloc (χ (υ aD aP).toArray 41)).alloc (χ #[κ G 0 0,κ G 0 0,κ G 0 0] 47)):=stA (stA (stA (aR w) _) _) _;have HRR:bG (RR w (υ aD aP) [κ G 0 0,κ G 0 0,κ G 0 0] (((w.alloc (χ (υ M S).toArray 41)).alloc (χ (υ aD aP).toArray 41)).alloc (χ #[κ G 0 0,κ G 0 0,κ G 0 0] 47))) :=
  ⟨hW,(Bx.new (w.alloc (χ (υ M S).toArray 41)) (υ aD aP) 41 (b:=w.heap.size+1) (by simp)).over _,Bx.new ((w.alloc (χ (υ M S).toArray 41)).alloc (χ (υ aD aP).toArray 41)) [κ G 0 0,κ G 0 0,κ G 0 0] 47 (b:=w.heap.size+2) (by simp)⟩
 have HBM:=hid ((hBm.over (χ (υ aD aP).toArray 41)).over (χ #[κ G 0 0,κ G 0 0,κ G 0 0] 47));have HS:=hid (hs.kept hW);have HFX:=hid (hF.kept hW);have HIN:=hid ((hin.kept hW));have HG:=hid hg;have HF:=hid hf;have HSZ:=hid hsz;have HM:=hid hm;have HOK:=hid hok;have HLI:=hid hli;have HN:=hid hn;clear hs hF hin hf hok hc hn hm hBm hW p hg hsz hli;go_enter func16,ntmps16;go_upto_region 3 with(first
  | (refine wpList_load_mid D 41 _ D w.heap.size 0 D (υ M S) _ HBM.out.c underlying41 D cn ?_)
  | (go_at_call 8;refine(wB M S _ HS.out HSZ.out).mono ?_;rintro e w1 ⟨S1,rfl,hO,R⟩;have HO:bG (OwnS (w.heap.size+5) S1 M w1):=hid (by simpa using hO);have HR1:=hid (HRR.out.kept R);have q:=hid R;clear hO R)
  | (refine zcX D 107 0 _ D (ac (υ M S1).toArray) _ D (xq M S1 _) ?_))
 have hB1:w.heap.size+5<=w1.heap.size:=by
  obtain⟨kk,cap,_,_,hBk,hbx,_⟩:=HO.out.own 0 (by omega);have:=hbx.z;omega
 obtain⟨F,T,hFg,hlo,hGK,U⟩:=zyg HO.out HF.out hB1 (HFX.out.kept q.out) (by have:=HG.out;omega) 107;obtain⟨w2,t⟩:∃ w2,w2=((w1.alloc (χ (υ M S1++sj).toArray 107)).alloc (χ #[κ G 0 0,κ G 0 0,κ G 0 0] 47)):=⟨_,D⟩
 rw[<- t] at U;have W:Below w1.heap.size w1 w2:=by rw[t];exact stA (stA (aR w1) _) _
 have HR2:=hid (HR1.out.kept W)
 have HIN2:bG (bP F.B w2 v inp):=hid (by
  rw[T];exact(((HIN.out.kept (q.out.mono (by simp <;> omega))).kept (W.mono (by omega))).mono (by omega)))
 have HGK:=hid hGK;have HLO:=hid hlo;have HGC:=hid U;have HFB:=hid T;rw[<- hFg] at *;clear hGK U hlo W HBM HRR HS HFX HIN HR1 q HO hB1 T;have HGR0:bG (GR F (F.g+1) (F.g+1) w w2 k0 w2):=hid ⟨⟨_,_,GV.start (by rw[HK0.out];exact HGC.out)⟩,HR2.out⟩;have HW2:=hid t;refine Pl.cutW (GR F (F.g+1) (F.g+1) w w2 k0) (by rw[<- HW2.out];exact HGR0.out) ?_;intro ι hY;have y:=hid hY;clear hY t HGC HR2 HGR0;have I:w.heap.size+3<=F.B:=by have:=HFB.out;omega
 have HFB3:=hid I;clear I;go_wp2;go_loopw [15] (λi wr=>∃ j:Nat,j<=n/\i=J Q j/\GR F (F.g+1) (F.g+1) w w2 (k0.clocks j) wr) (λi _=>n-(aU i).toNat)
 case atStart=>exact⟨0,bh _,D,y.out⟩
 case round =>
  obtain⟨j,hj,rfl,hX⟩:=hrel;obtain⟨⟨a,d,hG⟩,hR⟩:=hX;have f:=hid hG;have HR:=hid hR;clear y hG hR;by_cases E:j<n
  ·have HLT:=hid E
   have hjl:(j:Int)<n:=by omega
   have hj0:(0:Int)<=j:=by omega
   have hjb:(j:Int)<200000:=by have:=HN.out;omega
   have HNX:=hid (zyf HGK.out f.out.c (HIN2.out.kept f.out.b) HOK.out HLI.out (HD0.out.clocks j) (HM.out j E));go_wp2_with (go_at_call 41;refine HNX.out.mono ?_;rintro e w4 ⟨rfl,vl2,vs2,X⟩;have HX2:bG (GR F (F.g+1) (F.g+1) w w2 (k0.clocks (j+1)) w4):=hid ⟨⟨vl2,vs2,f.out.trans X⟩,HR.out.far HFB3.out X.b⟩;clear X)
   go_roundw
   case rel=>exact⟨j+1,HLT.out,by go_num,HX2.out⟩
   case measure=>have E:=HLT.out;simp[aU];omega
  ·have hjn:j=n:=by omega
   subst hjn;have hnl:¬ (j:Int)<j:=by omega
   obtain⟨k,hk⟩:∃ k,k=k0.clocks j:=⟨_,D⟩
   rw[<- hk] at f;have m:=hid hk;obtain⟨vw,h⟩:=f.out.c.gd;obtain⟨o,nw,cw,ew0⟩:=ol h.ws;have ew:vw=κ o nw cw:=ew0;clear ew0;subst ew;have m75:=h.at 75 (κ o nw cw) D;have o2:=Lib.cell_of_heap f.out.c.ob 2;have of:=λi=>Lib.frozen_of_heap f.out.c.ob i
   have oz:=f.out.c.lt;have gz:=h.bx.z;have HE:=hid (GE.of HGK.out f.out HR.out h HLO.out HFB3.out);have HSI:bG F.S.isSl:=hid h.isSl;have q:bG (F.B<=F.g):=hid h.nd.lo.1;clear h hk E;go_upto_region 8 with fail
   refine Pl.cutW (GE F (F.g+1) (F.g+1) w k a d (κ o nw cw) (υ aD aP) [κ G 0 0,κ G 0 0,κ G 0 0]) HE.out ?_;intro Y1 hY1;have y:=hid (hY1.kept (aR Y1).drew);clear hY1 HE m75 o2 of oz gz f HR;refine wp_region_held_drew (S:=λw'=>w'.rangeAt F.g 0 (υ k.s.M F.S)/\w'.rangeAt (F.g+1) 0 [a,d,κ o nw cw]) (by kernel_rfl) (y.out.s) ?_;intro hS;refine dy 0 ⟨A 26,_,_,_,_,G⟩ hS ?_;simp only[ag,xA,xB,xC];refine dy 1 ⟨A 27,_,_,_,_,G⟩ hS ?_;simp only[ag,xA,xB,xC];refine dy 2 ⟨A 28,_,_,_,_,G⟩ hS ?_;simp only[ag,xA,xB,xC];refine jW 3 (ac (υ k.s.M F.S).toArray) D (λw' Z=>ml 41 _ D F.g 0 D (υ k.s.M F.S) _ Z.1 underlying41 D cn) hS ?_;refine jW 4 (ac ([a,d,κ o nw cw]:List π).toArray) D (λw' Z=>ml 47 _ D (F.g+1) 0 D ([a,d,κ o nw cw]) _ Z.2 underlying47 D kX) hS ?_;have H:=hid y.out.put1;refine tK (i:=5) (op:=⟨G,_,_,_,_,G⟩) (by kernel_rfl) D D 41 _ _ D (w.heap.size+1) 0 (υ k.s.M F.S).toArray D D (y.out.r.b1.there 0 75 (by rw[dG];omega)) cn (iq _ _ HSI.out) H.out.s ?_
   have HY2:=hid H.out.put2;have hth:=H.out.r.b2.there 0 3 (by simp);obtain⟨al,nl,cl,el⟩:=ol y.out.ln;obtain⟨aS,nS,cS,es⟩:=ol y.out.sm;have L:(([a,d,κ o nw cw]:List π)).toArray.all (·.oneCell')=Γ:=by rw[el,es];simp[bi]
   have hss:=HY2.out.s;clear hS;refine tK (i:=6) (op:=⟨G,_,_,_,_,G⟩) (by kernel_rfl) D D 47 _ _ D (w.heap.size+2) 0 #[a,d,κ o nw cw] D D hth kX L hss ?_;refine wpAnyH_done (by kernel_rfl) ?_ _;refine Pl.cutE (GE F (F.g+1) (F.g+1) w k a d (κ o nw cw) (υ k.s.M F.S) [a,d,κ o nw cw]) HY2.out ?_;intro V hV;have P:=hid hV;clear hV y H HY2 hth L hss el es;go_wp2;refine Ξ (v:=Ψ #[ac (υ k.s.M F.S).toArray,ac #[a,d,κ o nw cw]]) ?_ D ⟨F,F.g+1,a,d,κ o nw cw,by rw[<- m.out],by rw[<- m.out];exact P.out.gd.slAt,by rw[<- m.out];exact P.out.gd.fit,by rw[<- m.out];exact P.out.ln,by rw[<- m.out];exact P.out.sm,by rw[<- m.out];exact P.out.gd.ws,by have:=HFB3.out;omega,P.out.r.low⟩;have l1:=run_loadVar_mid V (w.heap.size+1) 0 41 _ _ P.out.r.b1.c underlying41 D cn;have l2:=run_loadVar_mid V (w.heap.size+2) 0 47 _ _ P.out.r.b2.c underlying47 D kX;simp only[results,results16];simp;show (aE (bL ω (bC 41 ⟨w.heap.size+1,0,G⟩) V) _)=_
   rw[l1];show (aE (bL ω (bC 47 ⟨w.heap.size+2,0,G⟩) V) _)=_;rw[l2];rfl
end
def zzM{H:Type}{enc:aJ × π->H}{W:u}{v:π}{x:fF H × List dZ}{fuel:Nat}(f:dh enc ω W 0 (λ_=>Γ) Γ fuel 26 [v]=A x)(g:∀ n∈x.1.weights ω 26,n<=iS):∃ a k c,v=.slice a k c/\k<=iS:=by
 have c1:Tryz.prog.cellsOf 5=1:=by kernel_rfl
 have b1:Tryz.prog.bytesOf 5=1:=by kernel_rfl
 rcases open_ints underlying26 underlying5 c1 f with⟨hc,_⟩|⟨h,b,d,zs,hc,_,i,o,j,l,e,m⟩
 ·exact⟨G,0,0,by simpa using hc,bh _⟩
 ·refine⟨A h,b,d,by simpa using hc,?_⟩
  simp only[fO] at j;have:=g (((lits (H:=H) au (zs.take b)).length+(lits (H:=H) au (zs.drop b)).length)*Tryz.prog.bytesOf 5) (by rw[l];simp[qu,underlying26]);simp only[lits,bf,b1,bD,cW] at this;omega
def zeQ{H:Type}{enc:aJ × π->H}{W:u}{M:Mach}{S:Sl}{d:fF H}{p:List dZ}(h:dm enc ω W 0 (λ_=>Γ) Γ 41 (.agg (υ M S).toArray) d p)(E:∀ n∈d.weights ω 41,n<=iS)(F:S.lens M):∀ j,j<5->(M.byt j).length<=140737488355328:=by
 obtain⟨fuel,s⟩:=h;have I:dh enc ω W 0 (λ_=>Γ) Γ fuel 41 (υ M S)=A (d,p):=s;obtain⟨xs,m,_,z,_,o,b⟩:=eh underlying41 I;have P:xs.length=20:=o;simp only[gv] at z;have L:Tryz.prog.cellsOf 26=1:=by kernel_rfl
 have R:=reachBytes_lt;have key:∀(j:Nat) (i:Nat) (hi:i<20),(dh enc ω W 0 (λ_=>Γ) Γ m 26 (((υ M S).drop (30+j)).take (Tryz.prog.cellsOf 26))=xs[i]?)->(∀(y:fF H × List dZ),xs[i]?=A y->∀ n∈y.1.weights ω 26,n∈d.weights ω 41)->j<5->(M.byt j).length<=140737488355328:=λj i hi g q l=>by
  have v:=zjO M S j l;have N:((υ M S).drop (30+j)).take 1=[S.get j]:=by rw[og,mV,v];rfl
  rw[L,N,aq (by omega)] at g;obtain⟨a,k,c,e,T⟩:=zzM g (λn w=>E n (q _ (aq (by omega)) n w));obtain⟨U,V,B⟩:=F j l;rw[e] at B;simp only[iQ] at B;omega
 have r:∀(i:Nat) (y:fF H × List dZ),xs[i]?=A y->(i=2 \/ i=3 \/ i=4 \/ i=5 \/ i=6)->∀ n∈y.1.weights ω 26,n∈d.weights ω 41:=λi y f hi n w=>by
  rw[z.1];simp only[qu,underlying41];have x:(xs.map (·.1))[i]?=A y.1:=by rw[bn,f];rfl
  rcases hi with rfl|rfl|rfl|rfl|rfl
  all_goals exact DataW.weights_mem_each (t:=26) D x n w
 intro j l;rcases five l with rfl|rfl|rfl|rfl|rfl
 ·exact key 0 2 (by omega) (b 2 _ D) (λy f=>r 2 y f (by omega)) l
 ·exact key 1 3 (by omega) (b 3 _ D) (λy f=>r 3 y f (by omega)) l
 ·exact key 2 4 (by omega) (b 4 _ D) (λy f=>r 4 y f (by omega)) l
 ·exact key 3 5 (by omega) (b 5 _ D) (λy f=>r 5 y f (by omega)) l
 ·exact key 4 6 (by omega) (b 6 _ D) (λy f=>r 6 y f (by omega)) l
def zot(s:Bst)(h:s.l.length<=1000000):s.stepAux.l.length<=s.l.length+4:=by
 unfold Bst.stepAux;split
 ·omega
 ·have c:=C.fuel_step (m:=cL) (λs a=>ψ _) (λs a b=>by
   have:=zjQ s.M a (b%256);show 1000000001-s.l.length<=1000000001-(s.l++s.M.shA a (b%256)).length+1;rw[az];omega) s.M.aux s s.M.rung
  have d:1000000001-s.l.length<=1000000001-(C.step cL s.M.aux s s.M.rung).s.l.length+4:=c;show (C.step cL s.M.aux s s.M.rung).s.l.length<=_;omega
def zdL(k0:Cs)(a:k0.ln=[]/\k0.sm=[]/\k0.s.l=[]):∀ j:Nat,j<=20000->(k0.clocks j).ln.length<=j/\(k0.clocks j).sm.length<=j/\(k0.clocks j).s.l.length<=4*j
 | 0,_=>⟨by show k0.ln.length<=0;rw[a.1];simp,by show k0.sm.length<=0;rw[a.2.1];simp,by show k0.s.l.length<=4*0;rw[a.2.2];simp⟩
 | j+1,d=>by
  obtain⟨c,i2,i3⟩:=zdL k0 a j (by omega);obtain⟨k,b⟩:∃ k,k=k0.clocks j:=⟨_,D⟩
  have e:k0.clocks (j+1)=k.clock:=by rw[b];rfl
  rw[<- b] at c i2 i3;rw[e];refine⟨?_,?_,?_⟩
  ·show (k.ln++(k.s.M.pressed k.co).line).length<=_
   have:=zj8 (k.s.M.pressed k.co);rw[az];omega
  ·show (k.sm++(k.s.M.pressed k.co).sample).length<=_
   have:=AU (k.s.M.pressed k.co);rw[az];omega
  ·show ((Bst.stepMain ⟨k.s.M.pressed k.co,k.s.n,k.s.l⟩).stepAux).l.length<=_
   have h1:(Bst.stepMain ⟨k.s.M.pressed k.co,k.s.n,k.s.l⟩).l=k.s.l:=zQ _;have h2:=zot (Bst.stepMain ⟨k.s.M.pressed k.co,k.s.n,k.s.l⟩) (by rw[h1];omega);rw[h1] at h2;omega
structure LawB (w : u) (b1 : Nat) (M : Mach) (S S1 : Sl) (v : π) (l : List Inp) (ι : u) : Prop where
 low:Below w.heap.size w ι
 bm:Bx ι w.heap.size (υ M S)
 bo:Bx ι b1 (υ M S1)
 sm:cf ι S M
 so:cf ι S1 M
 inp:bP w.heap.size ι v l
 af:AF ι
 fa:Facts ι
structure LawR (w5 : u) (X : Mach) (SX : Sl) (p1 p2 p3 : π) (ln : List Lin) (sm : List UInt8) (ws : List Wt) (ι : u) : Prop where
 r:R3 w5 X SX [p1,p2,p3] ι
 sx:cf ι SX X
 sh:ShAt ι p1 p2 p3 ln sm ws
section
variable {w w1 ι Y' : u} {b1 : Nat} {M X : Mach} {S S1 SX : Sl} {v p1 p2 p3 : π} {l : List Inp} {ln : List Lin} {sm : List UInt8} {ws : List Wt}
def LawB.kept(h:LawB w b1 M S S1 v l ι)(hb:Below ι.heap.size ι Y'):LawB w b1 M S S1 v l Y' :=
 ⟨bw h.low hb,h.bm.kept hb,h.bo.kept hb,h.sm.kept hb,h.so.kept hb,h.inp.kept (hb.mono h.low.size),h.af.kept hb,h.fa.kept hb⟩
def LawB.mk1(c:Below w.heap.size w w1)(d:Bx w1 w.heap.size (υ M S))(e:cf w1 S M)(f:cf w1 S1 M)(a:bP w.heap.size w1 v l)(g:AF w1)(h:Facts w1):LawB w w1.heap.size M S S1 v l ((w1.alloc (χ (υ aD aP).toArray 41)).setCells w1.heap.size 0 (υ M S1)):=by
 have hb:Below w1.heap.size w1 ((w1.alloc (χ (υ aD aP).toArray 41)).setCells w1.heap.size 0 (υ M S1)):=ni (stA (aR w1) _) (ψ _) _ _;have h1:=(Bx.new w1 (υ aD aP) 41 (b:=w1.heap.size) D).puts 0 (υ M S1) (by rw[dG,dG];omega);rw[mK _ _ (by rw[dG,dG])] at h1;exact⟨bw c hb,d.kept hb,h1,e.kept hb,f.kept hb,a.kept (hb.mono c.size),g.kept hb,h.kept hb⟩
def LawB.inp'(h:LawB w b1 M S S1 v l ι):bP ι.heap.size ι v l:=h.inp.mono h.low.size
def LawR.kept(h:LawR w1 X SX p1 p2 p3 ln sm ws ι)(hb:Below ι.heap.size ι Y'):LawR w1 X SX p1 p2 p3 ln sm ws Y':=⟨h.r.kept hb,h.sx.kept hb,h.sh.kept hb⟩
def wF(V:u):cf V aP aD:=λj a=>by
 have hc:j=0 \/ j=1 \/ j=2 \/ j=3 \/ j=4:=by omega
 rcases hc with rfl|rfl|rfl|rfl|rfl <;> exact aj ⟨G,0,D,D⟩
def sH(V:u):ShAt V (κ G 0 0) (κ G 0 0) (κ G 0 0) [] [] []:=⟨⟨D,aj ⟨D,G,0,D⟩⟩,aj ⟨G,0,D,D⟩,⟨D,aj ⟨D,G,0,D⟩⟩⟩
def zqr{F:Fx}{N:Nat}{k:Cs}{vln vsm vw:π}{w:u}(h:Told F N k vln vsm vw w):ShAt w vln vsm vw k.ln k.sm k.s.l:=⟨vU h.ln,zda h.sm,vU h.ws⟩
end
def yw(w:u):Δ ω 13 #[ac (υ aD aP).toArray] w λe w'=>e=μ (ν Γ)/\Below w.heap.size w w':=by
 have d:=hid (Bx.new w (υ aD aP) 41 (b:=w.heap.size) D);go_enter func13,ntmps13;go_wp2_with (first
  | (refine wpList_load_mid D 41 _ D w.heap.size 0 D (υ aD aP) _ d.out.c underlying41 D cn ?_)
  | (refine zeN D 41 D _ (zqk _) ?_)
  | (go_at_call 12;refine(rv aD aP aP _ (wF _) (wF _)).mono ?_;rintro e w4 ⟨rfl,a⟩))
 go_ret;exact⟨D,bw (stA (aR w) _) a⟩
def pW(d:Nat)(M X:Mach)(v:π)(l:List Inp)(n r:Int)(ln:List Lin)(sm:List UInt8)(ws:List Wt):Prop :=
 ∀(S1:Sl) (W:u),cf W S1 M->AF W->bP W.heap.size W v l->Δ ω d #[ac (υ M S1).toArray,v,J Q n] W λe w' =>
  ∃(SX:Sl) (a1 a2 a3:Option Addr) (a b c c1 c2 c3:Nat),e=μ (Ψ #[ac (υ X SX).toArray,ac #[κ a1 a c1,κ a2 b c2,κ a3 c c3],J Q r])/\cf w' SX X/\ShAt w' (κ a1 a c1) (κ a2 b c2) (κ a3 c c3) ln sm ws/\Below W.heap.size W w'
def pI(d:Nat)(M:Mach)(v:π)(l:List Inp)(n:Int):Prop :=
 ∀(S1:Sl) (W:u),cf W S1 M->AF W->bP W.heap.size W v l->Δ ω d #[ac (υ M S1).toArray,v,J Q n] W λe w' =>
  ∃(X:Mach) (SX:Sl) (ln:List Lin) (sm:List UInt8) (ws:List Wt) (a1 a2 a3:Option Addr) (a b c c1 c2 c3:Nat),e=μ (Ψ #[ac (υ X SX).toArray,ac #[κ a1 a c1,κ a2 b c2,κ a3 c c3],J Q 0])/\cf w' SX X/\ShAt w' (κ a1 a c1) (κ a2 b c2) (κ a3 c c3) ln sm ws/\Below W.heap.size W w'
def sB(M X:Mach)(v:π)(l:List Inp)(n:Int)(ln:List Lin)(sm:List UInt8)(ws:List Wt):Prop :=
 ∀(S:Sl) (W:u),S.lens M->(∀ j,j<5->(M.byt j).length<=140737488355328)->cf W S M->Facts W->bP W.heap.size W v l->Δ ω 16 #[ac (υ M S).toArray,v,J Q n] W λe w' =>
  ∃(SX:Sl) (a1 a2 a3:Option Addr) (a b c c1 c2 c3:Nat),e=μ (Ψ #[ac (υ X SX).toArray,ac #[κ a1 a c1,κ a2 b c2,κ a3 c c3]])/\cf w' SX X/\ShAt w' (κ a1 a c1) (κ a2 b c2) (κ a3 c c3) ln sm ws/\Below W.heap.size W w'
def zov{M:Mach}{v:π}{l:List Inp}{n:Nat}{K:Cs}(m:K=Cs.clocks ⟨⟨M,0,[]⟩,l,[],[]⟩ n)(h:M.fit)(a:∀ x∈l,x.ok)(hc:chkIn l M.clock=0)(o:n<=20000/\M.clock+n<=200000)(c:M.b.f<=19900):sB M K.s.M v l n K.ln K.sm K.s.l:=λS w _ p q i d=>by
 have g:l.length<=40:=(wE hc).1;refine(Rk.run M S v n w q p i (zou i) d h a g hc (by omega) (λj r=>xV h c o r)).mono ?_;rw[<- m];rintro e w' ⟨F,N,vl,vs,vw,rfl,h1,h2,h3,h4,k,E,t⟩;obtain⟨a1,y,c1,e1⟩:=ol h3;obtain⟨a2,z,c2,e2⟩:=ol h4;obtain⟨a3,B,c3,e3⟩:=ol k;subst e1 e2 e3;exact⟨F.S,a1,a2,a3,y,z,B,c1,c2,c3,D,h1,⟨vU h3,zda h4,vU k⟩,t⟩
def zvx(M:Mach)(S:Sl)(v:π)(l:List Inp)(n:Int)(w:u)(hF:AF w)(P:Facts w)(hs:cf w S M)(hl:∀ j,j<5->(M.byt j).length<=140737488355328)(p:M.ok)(R:bP w.heap.size w v l)(hn:-9223372036854775808<=n/\n<=9223372036854775807)(hr:bS M l n≠0):Δ ω 4 #[ac (υ M S).toArray,v,J Q n] w λe w'=>e=μ (ν Γ)/\Below w.heap.size w w':=by
 have hnz:((bS M l n) != 0)=Γ:=by simpa using hr
 have a:∀(S1:Sl) (W:u),cf W S1 M->AF W->bP W.heap.size W v l->Δ ω 17 #[ac (υ M S1).toArray,v,J Q n] W λe w'=>e=μ (Ψ #[ac (υ aD aP).toArray,ac #[κ G 0 0,κ G 0 0,κ G 0 0],J Q (bS M l n)])/\Below W.heap.size W w':=λS1 W h1 h2 h3=>zsq M S1 v l n W h1 (λj hj=>by have:=hl j hj;omega) p h3 hn hr
 have N:Below w.heap.size w (w.alloc (χ (υ M S).toArray 41)):=stA (aR w) _;have HB:=hid (Bx.new w (υ M S) 41 (b:=w.heap.size) D);have HQ:=hid N;have HS:=hid (hs.kept N);have HIN:=hid (R.kept N);have HAF:=hid (hF.kept N);have HFA:=hid (P.kept N);have HLN:=hid hs.lens;have HL:=hid hl;have HOK:=hid p;have HN:=hid hn;clear N hF P hs hl p R hn;have f:=(λ(W:u) (h:bP W.heap.size W v l)=>Lk.badRun M S v l n W HLN.out HOK.out h HN.out)
 generalize bS M l n=r at hnz a f;have HRUN:=hid a;have HBR:=hid f;clear hr a f;go_enter func4,ntmps4;go_wp2_with (first
  | (go_at_call 14;refine(Lk.sameShown (κ G 0 0) (κ G 0 0) (κ G 0 0) (κ G 0 0) (κ G 0 0) (κ G 0 0) [] [] [] _ g.out.sh (sH _) (by simp) (by simp)).mono ?_;rintro e w10 ⟨rfl,T⟩;have HL10:=hid (bw HP9.out.low T))
  | (go_at_call 13;refine(yw _).mono ?_;have hy8:=q;rintro e w9 ⟨rfl,t⟩;have HP9:=hid (HP8.out.kept t);have g:=hid (q.out.kept t);have g0:=g.out.r.s.at 0 _ D;have g1:=g.out.r.s.at 1 _ D;have g2:=g.out.r.s.at 2 _ D;have gz:=g.out.r.s.z;clear t hy8)
  | (refine Bu.loadG D 41 _ D w2.heap.size 0 D (υ aD aP) _ q.out.r.x.c underlying41 D cn ?_)
  | (go_at_call 12;refine(rv M S1 S _ i.out.so i.out.sm).mono ?_;rintro e w8 ⟨rfl,y⟩;have HP8:=hid (i.out.kept y);have q:=hid (HR7.out.kept y);clear y)
  | (refine Bu.loadG D 41 _ D w1.heap.size 0 D (υ M S1) _ i.out.bo.c underlying41 D cn ?_)
  | (refine Bu.loadG D 41 _ D w.heap.size 0 D (υ M S) _ i.out.bm.c underlying41 D cn ?_)
  | (go_at_call 18;refine(zca _ U.out.af).mono ?_;rintro e w7 ⟨rfl,B⟩;have i:=hid (U.out.kept B);have HR7:=hid (HR6.out.kept B);clear B)
  | (go_at_call 12;refine(rv M S1 S _ k.out.so k.out.sm).mono ?_;rintro e w6 ⟨rfl,E⟩;have U:=hid (k.out.kept E);have HR6:=hid (HR5.out.kept E);clear E)
  | (refine Bu.loadG D 41 _ D w1.heap.size 0 D (υ M S1) _ k.out.bo.c underlying41 D cn ?_)
  | (refine Bu.loadG D 41 _ D w.heap.size 0 D (υ M S) _ k.out.bm.c underlying41 D cn ?_)
  | (go_at_call 18;refine(zca _ V.out.af).mono ?_;rintro e w5 ⟨rfl,F⟩;have k:=hid (V.out.kept F);have HR5:=hid (HR4.out.kept F);clear F)
  | (go_at_call 10;refine(HBR.out _ H.out.inp').mono ?_;rintro e w4 ⟨rfl,I⟩;have V:=hid (H.out.kept I);have HR4:=hid (HR3.out.kept I);clear I)
  | (refine wpList_load_mid D 41 _ D w.heap.size 0 D (υ M S) _ H.out.bm.c underlying41 D cn ?_)
  | (refine wpList_store_mid D 47 _ _ D (w2.heap.size+1) 0 #[κ G 0 0,κ G 0 0,κ G 0 0] D D (X.out.s.there 0 3 (by simp)) kX (lH _ _ _ _ _ _ _ _ _) ?_
     refine Pl.cutL (R3 w2 aD aP [κ G 0 0,κ G 0 0,κ G 0 0]) X.out.put ?_;intro Y3 m;have H:=hid (HP2.out.kept m.old);have HR3:=hid (⟨m,HSX.out.kept m.old,HSH.out.kept m.old⟩:LawR w2 aD aP (κ G 0 0) (κ G 0 0) (κ G 0 0) [] [] [] Y3);clear m)
  | (refine wpList_store_mid D 41 _ _ D w2.heap.size 0 (υ aD aP).toArray D D (R3.th1 w2) cn (iq _ _ HIS2.out) ?_
     refine Pl.cutL (R3 w2 aD aP nil3) (R3.mk1 w2 aD aP) ?_;intro Y2 Z;have X:=hid Z;clear Z)
  | (go_at_call 17;refine(HRUN.out _ _ o.out.so o.out.af o.out.inp').mono ?_;rintro e w2 ⟨rfl,hb2⟩;have L:=wF w2;have hsh:=sH w2;have HP2:=hid (o.out.kept hb2);have HIS2:=hid (kC L);have HSX:=hid L;have HSH:=hid hsh;clear hb2 L hsh)
  | (refine wpList_load_mid D 41 _ D w1.heap.size 0 D (υ M S1) _ o.out.bo.c underlying41 D cn ?_)
  | (refine wpList_store_mid D 41 _ _ D w1.heap.size 0 (υ M S1).toArray D D ((Bx.new w1 (υ aD aP) 41 (b:=w1.heap.size) D).there 0 75 (by rw[dG];omega)) cn (iq _ _ HIS1.out) ?_
     refine Pl.cutL (LawB w w1.heap.size M S S1 v l) (LawB.mk1 HL1.out HB1.out HS1.out HO.out HIN1.out HAF1.out HFA1.out) ?_;intro Y1 hY1;have o:=hid hY1;clear hY1)
  | (go_at_call 8;refine(wB M S _ HS.out HL.out).mono ?_;rintro e w1 ⟨S1,rfl,hO,d⟩;have HO:=hid hO.slAt;have HIS1:=hid (kC hO.slAt);have HL1:=hid (bw HQ.out d);have HB1:=hid (HB.out.kept d);have HS1:=hid (HS.out.kept d);have HIN1:=hid (HIN.out.kept (d.mono HQ.out.size));have HAF1:=hid (HAF.out.kept d);have HFA1:=hid (HFA.out.kept d);clear hO d)
  | (refine wpList_load_mid D 41 _ D w.heap.size 0 D (υ M S) _ HB.out.c underlying41 D cn ?_))
 go_ret;exact⟨D,HL10.out⟩
def zvy(M:Mach)(S:Sl)(v:π)(l:List Inp)(n:Int)(w:u)(hF:AF w)(y:Facts w)(U:cf w S M)(hl:∀ j,j<5->(M.byt j).length<=140737488355328)(z:M.ok)(B:bP w.heap.size w v l)(hn:-9223372036854775808<=n/\n<=9223372036854775807)(hr:bS M l n=0)(E:19000<M.b.f)(m:pI 17 M v l n):Δ ω 4 #[ac (υ M S).toArray,v,J Q n] w λe w'=>e=μ (ν Γ)/\Below w.heap.size w w':=by
 have hd:decide (19000<M.b.f)=Γ:=aO E;have HR:=hid hr;have HRUN:=hid m;have x:Below w.heap.size w (w.alloc (χ (υ M S).toArray 41)):=stA (aR w) _;have HB:=hid (Bx.new w (υ M S) 41 (b:=w.heap.size) D);have HQ:=hid x;have HS:=hid (U.kept x);have V:=hid (B.kept x);have Z:=hid (hF.kept x);have HFA:=hid (y.kept x);have HLN:=hid U.lens;have HL:=hid hl;have HOK:=hid z;have HN:=hid hn;clear x hF y U hl z B hn;have d:=(λ(W:u) (h:bP W.heap.size W v l)=>Lk.badRun M S v l n W HLN.out HOK.out h HN.out)
 rw[HR.out] at d;have HBR:=hid d;clear hr m E d;go_enter func4,ntmps4;go_wp2_with (first
  | (go_at_call 15;refine(xx M S _ _).mono ?_;rw[hd];rintro e w7 ⟨rfl,F⟩;have HL7:=hid (bw H.out.low F);clear F)
  | (refine wpList_load_mid D 41 _ D w.heap.size 0 D (υ M S) _ H.out.bm.c underlying41 D cn ?_)
  | (go_at_call 12;refine(rv M S1 S _ g.out.so g.out.sm).mono ?_;rintro e w6 ⟨rfl,o⟩;have H:=hid (g.out.kept o);have HR6:=hid (HR5.out.kept o);clear o)
  | (refine Bu.loadG D 41 _ D w1.heap.size 0 D (υ M S1) _ g.out.bo.c underlying41 D cn ?_)
  | (refine Bu.loadG D 41 _ D w.heap.size 0 D (υ M S) _ g.out.bm.c underlying41 D cn ?_)
  | (go_at_call 18;refine(zca _ I.out.af).mono ?_;rintro e w5 ⟨rfl,p⟩;have g:=hid (I.out.kept p);have HR5:=hid (HR4.out.kept p);clear p)
  | (go_at_call 10;refine(HBR.out _ q.out.inp').mono ?_;rintro e w4 ⟨rfl,r⟩;have I:=hid (q.out.kept r);have HR4:=hid (HR3.out.kept r);clear r)
  | (refine wpList_load_mid D 41 _ D w.heap.size 0 D (υ M S) _ q.out.bm.c underlying41 D cn ?_)
  | (refine wpList_store_mid D 47 _ _ D (w2.heap.size+1) 0 #[κ a1 n1 c1,κ a2 n2 c2,κ a3 n3 c3] D D (L.out.s.there 0 3 (by simp)) kX (lH _ _ _ _ _ _ _ _ _) ?_
     refine Pl.cutL (R3 w2 X SX [κ a1 n1 c1,κ a2 n2 c2,κ a3 n3 c3]) L.out.put ?_;intro Y3 i;have q:=hid (HP2.out.kept i.old);have HR3:=hid (⟨i,HSX.out.kept i.old,HSH.out.kept i.old⟩:LawR w2 X SX (κ a1 n1 c1) (κ a2 n2 c2) (κ a3 n3 c3) ln sm ws Y3);clear i)
  | (refine wpList_store_mid D 41 _ _ D w2.heap.size 0 (υ X SX).toArray D D (R3.th1 w2) cn (iq _ _ HIS2.out) ?_
     refine Pl.cutL (R3 w2 X SX nil3) (R3.mk1 w2 X SX) ?_;intro Y2 N;have L:=hid N;clear N)
  | (go_at_call 17;refine(HRUN.out _ _ k.out.so k.out.af k.out.inp').mono ?_;rintro e w2 ⟨X,SX,ln,sm,ws,a1,a2,a3,n1,n2,n3,c1,c2,c3,rfl,t,P,R⟩;have HP2:=hid (k.out.kept R);have HIS2:=hid (kC t);have HSX:=hid t;have HSH:=hid P;clear R t P)
  | (refine wpList_load_mid D 41 _ D w1.heap.size 0 D (υ M S1) _ k.out.bo.c underlying41 D cn ?_)
  | (refine wpList_store_mid D 41 _ _ D w1.heap.size 0 (υ M S1).toArray D D ((Bx.new w1 (υ aD aP) 41 (b:=w1.heap.size) D).there 0 75 (by rw[dG];omega)) cn (iq _ _ HIS1.out) ?_
     refine Pl.cutL (LawB w w1.heap.size M S S1 v l) (LawB.mk1 HL1.out HB1.out HS1.out HO.out HIN1.out HAF1.out HFA1.out) ?_;intro Y1 T;have k:=hid T;clear T)
  | (go_at_call 8;refine(wB M S _ HS.out HL.out).mono ?_;rintro e w1 ⟨S1,rfl,hO,a⟩;have HO:=hid hO.slAt;have HIS1:=hid (kC hO.slAt);have HL1:=hid (bw HQ.out a);have HB1:=hid (HB.out.kept a);have HS1:=hid (HS.out.kept a);have HIN1:=hid (V.out.kept (a.mono HQ.out.size));have HAF1:=hid (Z.out.kept a);have HFA1:=hid (HFA.out.kept a);clear hO a)
  | (refine wpList_load_mid D 41 _ D w.heap.size 0 D (υ M S) _ HB.out.c underlying41 D cn ?_))
 go_ret;exact⟨D,HL7.out⟩
def zvz(M:Mach)(S:Sl)(v:π)(l:List Inp)(n:Int)(w:u)(hF:AF w)(hFa:Facts w)(hs:cf w S M)(hl:∀ j,j<5->(M.byt j).length<=140737488355328)(hok:M.ok)(hin:bP w.heap.size w v l)(hn:-9223372036854775808<=n/\n<=9223372036854775807)(hr:bS M l n=0)(h19:¬ 19000<M.b.f)(X:Mach)(ln:List Lin)(sm:List UInt8)(ws:List Wt)(hkl:ln.length<=1000000/\ws.length<=1000000)(y:pW 17 M X v l n 0 ln sm ws)(B:sB M X v l n ln sm ws):Δ ω 4 #[ac (υ M S).toArray,v,J Q n] w λe w'=>e=μ (ν Γ)/\Below w.heap.size w w':=by
 have hd:decide (19000<M.b.f)=ξ:=aG h19;have HR:=hid hr;have HRUN:=hid y;have HKL:=hid hkl;have HREF:=hid (λ(W:u)=>B S W (hs.lens) hl);have Z:Below w.heap.size w (w.alloc (χ (υ M S).toArray 41)):=stA (aR w) _;have HB:=hid (Bx.new w (υ M S) 41 (b:=w.heap.size) D);have HQ:=hid Z;have HS:=hid (hs.kept Z);have HIN:=hid (hin.kept Z);have HAF:=hid (hF.kept Z);have HFA:=hid (hFa.kept Z);have HLN:=hid hs.lens;have HL:=hid hl;have HOK:=hid hok;have HN:=hid hn;clear Z hF hFa hs hl hok hin hn;have k:=(λ(W:u) (h:bP W.heap.size W v l)=>Lk.badRun M S v l n W HLN.out HOK.out h HN.out)
 rw[HR.out] at k;have HBR:=hid k;clear hr y h19 k hkl B;go_enter func4,ntmps4;go_wp2_with (first
  | (go_at_call 14;refine(Lk.sameShown (κ a1 n1 c1) (κ a2 n2 c2) (κ a3 n3 c3) (κ b1 m1 d1) (κ b2 m2 d2) (κ b3 m3 d3) ln sm ws _ HR10.out.sh HT10.out.sh HKL.out.1 HKL.out.2).mono ?_;rintro e w11 ⟨rfl,hb11⟩;have HL11:=hid (bw HP10.out.low hb11))
  | (go_at_call 12;refine(rv X SX a _ H.out.sx I.out.sx).mono ?_;rintro e w10 ⟨rfl,g⟩;have HP10:=hid (HP9.out.kept g);have HR10:=hid (H.out.kept g);have HT10:=hid (I.out.kept g);have g0:=HR10.out.r.s.at 0 _ D;have g1:=HR10.out.r.s.at 1 _ D;have g2:=HR10.out.r.s.at 2 _ D;have gz:=HR10.out.r.s.z;have s0:=HT10.out.r.s.at 0 _ D;have s1:=HT10.out.r.s.at 1 _ D;have s2:=HT10.out.r.s.at 2 _ D;have sz:=HT10.out.r.s.z;clear g)
  | (refine Bu.loadG D 41 _ D w2.heap.size 0 D (υ X SX) _ H.out.r.x.c underlying41 D cn ?_)
  | (refine Bu.loadG D 41 _ D E.heap.size 0 D (υ X a) _ I.out.r.x.c underlying41 D cn ?_)
  | (refine wpList_store_mid D 47 _ _ D (E.heap.size+1) 0 #[κ b1 m1 d1,κ b2 m2 d2,κ b3 m3 d3] D D (HY8.out.s.there 0 3 (by simp)) kX (lH _ _ _ _ _ _ _ _ _) ?_
     refine Pl.cutL (R3 E X a [κ b1 m1 d1,κ b2 m2 d2,κ b3 m3 d3]) HY8.out.put ?_;intro Y9 i;have HP9:=hid (HP8.out.kept i.old);have H:=hid (HR8.out.kept i.old);have I:=hid (⟨i,HSX8.out.kept i.old,HSH8.out.kept i.old⟩:LawR E X a (κ b1 m1 d1) (κ b2 m2 d2) (κ b3 m3 d3) ln sm ws Y9);clear i)
  | (refine wpList_store_mid D 41 _ _ D E.heap.size 0 (υ X a).toArray D D (R3.th1 E) cn (iq _ _ HIS8.out) ?_
     refine Pl.cutL (R3 E X a nil3) (R3.mk1 E X a) ?_;intro Y8 hY8;have HY8:=hid hY8;clear hY8)
  | (go_at_call 16;refine(HREF.out _ m.out.sm m.out.fa m.out.inp').mono ?_;rintro e E ⟨a,b1,b2,b3,m1,m2,m3,d1,d2,d3,rfl,o,F,L⟩;have HP8:=hid (m.out.kept L);have HR8:=hid (HR7.out.kept L);clear L;have HIS8:=hid (kC o);have HSX8:=hid o;have HSH8:=hid F;clear o F)
  | (refine wpList_load_mid D 41 _ D w.heap.size 0 D (υ M S) _ m.out.bm.c underlying41 D cn ?_)
  | (go_at_call 15;refine(xx M S _ _).mono ?_;rw[hd];rintro e w7 ⟨rfl,N⟩;have m:=hid (HP6.out.kept N);have HR7:=hid (HR6.out.kept N);clear N)
  | (refine wpList_load_mid D 41 _ D w.heap.size 0 D (υ M S) _ HP6.out.bm.c underlying41 D cn ?_)
  | (go_at_call 12;refine(rv M S1 S _ p.out.so p.out.sm).mono ?_;rintro e w6 ⟨rfl,P⟩;have HP6:=hid (p.out.kept P);have HR6:=hid (HR5.out.kept P);clear P)
  | (refine Bu.loadG D 41 _ D w1.heap.size 0 D (υ M S1) _ p.out.bo.c underlying41 D cn ?_)
  | (refine Bu.loadG D 41 _ D w.heap.size 0 D (υ M S) _ p.out.bm.c underlying41 D cn ?_)
  | (go_at_call 18;refine(zca _ HP4.out.af).mono ?_;rintro e w5 ⟨rfl,R⟩;have p:=hid (HP4.out.kept R);have HR5:=hid (HR4.out.kept R);clear R)
  | (go_at_call 10;refine(HBR.out _ T.out.inp').mono ?_;rintro e w4 ⟨rfl,U⟩;have HP4:=hid (T.out.kept U);have HR4:=hid (HR3.out.kept U);clear U)
  | (refine wpList_load_mid D 41 _ D w.heap.size 0 D (υ M S) _ T.out.bm.c underlying41 D cn ?_)
  | (refine wpList_store_mid D 47 _ _ D (w2.heap.size+1) 0 #[κ a1 n1 c1,κ a2 n2 c2,κ a3 n3 c3] D D (HY2.out.s.there 0 3 (by simp)) kX (lH _ _ _ _ _ _ _ _ _) ?_
     refine Pl.cutL (R3 w2 X SX [κ a1 n1 c1,κ a2 n2 c2,κ a3 n3 c3]) HY2.out.put ?_;intro Y3 q;have T:=hid (HP2.out.kept q.old);have HR3:=hid (⟨q,HSX.out.kept q.old,HSH.out.kept q.old⟩:LawR w2 X SX (κ a1 n1 c1) (κ a2 n2 c2) (κ a3 n3 c3) ln sm ws Y3);clear q)
  | (refine wpList_store_mid D 41 _ _ D w2.heap.size 0 (υ X SX).toArray D D (R3.th1 w2) cn (iq _ _ HIS2.out) ?_
     refine Pl.cutL (R3 w2 X SX nil3) (R3.mk1 w2 X SX) ?_;intro Y2 hY2;have HY2:=hid hY2;clear hY2)
  | (go_at_call 17;refine(HRUN.out _ _ t.out.so t.out.af t.out.inp').mono ?_;rintro e w2 ⟨SX,a1,a2,a3,n1,n2,n3,c1,c2,c3,rfl,V,hsh,hb2⟩;have HP2:=hid (t.out.kept hb2);have HIS2:=hid (kC V);have HSX:=hid V;have HSH:=hid hsh;clear hb2 V hsh)
  | (refine wpList_load_mid D 41 _ D w1.heap.size 0 D (υ M S1) _ t.out.bo.c underlying41 D cn ?_)
  | (refine wpList_store_mid D 41 _ _ D w1.heap.size 0 (υ M S1).toArray D D ((Bx.new w1 (υ aD aP) 41 (b:=w1.heap.size) D).there 0 75 (by rw[dG];omega)) cn (iq _ _ HIS1.out) ?_
     refine Pl.cutL (LawB w w1.heap.size M S S1 v l) (LawB.mk1 HL1.out HB1.out HS1.out HO.out HIN1.out HAF1.out HFA1.out) ?_;intro Y1 hY1;have t:=hid hY1;clear hY1)
  | (go_at_call 8;refine(wB M S _ HS.out HL.out).mono ?_;rintro e w1 ⟨S1,rfl,hO,d⟩;have HO:=hid hO.slAt;have HIS1:=hid (kC hO.slAt);have HL1:=hid (bw HQ.out d);have HB1:=hid (HB.out.kept d);have HS1:=hid (HS.out.kept d);have HIN1:=hid (HIN.out.kept (d.mono HQ.out.size));have HAF1:=hid (HAF.out.kept d);have HFA1:=hid (HFA.out.kept d);clear hO d)
  | (refine wpList_load_mid D 41 _ D w.heap.size 0 D (υ M S) _ HB.out.c underlying41 D cn ?_))
 go_ret;exact⟨D,HL11.out⟩
structure CtP (M : Mach) (n : Nat) (k : Cs) : Prop where
 lo:M.clock<=k.s.M.clock
 hi:k.s.M.clock<=M.clock+n
 ln:(k.ln.length:Int)<=k.s.M.clock-M.clock
 sm:(k.sm.length:Int)<=2*(k.s.M.clock-M.clock)
 l:(k.s.l.length:Int)<=4*(k.s.M.clock-M.clock)
def CtP.step{M:Mach}{n:Nat}(j:n<=20000/\M.clock+n<=200000){k:Cs}(h:CtP M n k)(c:k.s.M.clock<M.clock+n)(d:k.now.s.M.fit):CtP M n (k.event (M.clock+n)):=by
 have a:=sZ k;obtain⟨g1,f,g3⟩:=zvt (k:=k) (e:=M.clock+n) (by rw[a];exact c) j.2 d.b d.tc.1;obtain⟨tt,g⟩:∃ tt,tt=k.now.nxtG (M.clock+n):=⟨_,D⟩
 rw[<- g] at g1 f g3;rw[a] at g1 g3;have e1:k.event (M.clock+n)=k.now.latT tt:=by unfold Cs.event;rw[<- g]
 rw[e1];obtain⟨h1,h2,h3,h4,o⟩:=h;have hc:(k.now.latT tt).s.M.clock=tt:=D;have q1:=zj8 (k.s.M.pressed k.co);have p:=AU (k.s.M.pressed k.co);have l1:(k.now.latT tt).ln=k.ln++(k.s.M.pressed k.co).line:=D;have l2:(k.now.latT tt).sm=(k.sm++(k.s.M.pressed k.co).sample)++k.now.s.M.smp (tt-k.now.s.M.clock).toNat:=D;have l3:(k.now.latT tt).s.l=((Bst.stepMain ⟨k.s.M.pressed k.co,k.s.n,k.s.l⟩).stepAux).l:=D;have q:(k.now.s.M.smp (tt-k.now.s.M.clock).toNat).length<=(tt-k.s.M.clock).toNat:=by
  rw[a];unfold Mach.smp;have:=zjt k.now.s.M.s (tt-k.s.M.clock).toNat;split
  ·rw[cW];omega
  ·exact this
 have i:(Bst.stepMain ⟨k.s.M.pressed k.co,k.s.n,k.s.l⟩).l=k.s.l:=zQ _;have m:=ziH (Bst.stepMain ⟨k.s.M.pressed k.co,k.s.n,k.s.l⟩) (by rw[i];omega);rw[i] at m;refine⟨by rw[hc];omega,by rw[hc];exact f,?_,?_,?_⟩
 ·rw[hc,l1,az];push_cast;omega
 ·rw[hc,l2,az,az];push_cast;omega
 ·rw[hc,l3];omega
def zsr{M:Mach}{v:π}{l:List Inp}{n:Nat}(o:∀ x∈l,0<=x.d/\x.d<=255)(p:M.fit)(h:M.b.f<=20000)(hc:chkIn l M.clock=0)(m:n<=20000/\M.clock+n<=200000):pI 17 M v l n:=λS1 W q r i=>by
 refine(zi6 M S1 v l n W (CtP M n) q r.shapes i o p h hc m ⟨jH _,by show M.clock<=M.clock+n;omega,by show (([]:List Lin).length:Int)<=M.clock-M.clock;simp,by show (([]:List UInt8).length:Int)<=2*(M.clock-M.clock);simp,by show (([]:List Wt).length:Int)<=4*(M.clock-M.clock);simp⟩ (λk g j a=>g.step m j a) (λF N B k g=>?_)).mono ?_
 ·obtain⟨h1,h2,h3,h4,E⟩:=g
  omega
 ·rintro e w' ⟨F,N,vln,vsm,vw,k,g,t,rfl,c,_,_,_,hb⟩
  obtain⟨a1,w,c1,e1⟩:=ol c.ln;obtain⟨a2,y,c2,e2⟩:=ol c.sm;obtain⟨a3,z,c3,e3⟩:=ol c.ws;subst e1 e2 e3;exact⟨k.s.M,F.S,k.ln,k.sm,k.s.l,a1,a2,a3,w,y,z,c1,c2,c3,D,c.sl,zqr c,hb⟩
def zvA{M:Mach}{v:π}{l:List Inp}{n:Nat}{K:Cs}(h:K=Cs.clocks ⟨⟨M,0,[]⟩,l,[],[]⟩ n)(i:∀ x∈l,0<=x.d/\x.d<=255)(j:M.fit)(c:M.b.f<=19900)(hc:chkIn l M.clock=0)(k:n<=20000/\M.clock+n<=200000):pW 17 M K.s.M v l n 0 K.ln K.sm K.s.l:=λS1 W m o g=>by
 refine(zm4 M S1 v l n W m o.shapes g i j c hc k).mono ?_;rw[<- h];rintro e w' ⟨F,N,vln,vsm,vw,rfl,a,_,_,_,hb⟩;obtain⟨a1,p,c1,e1⟩:=ol a.ln;obtain⟨a2,q,c2,e2⟩:=ol a.sm;obtain⟨a3,r,c3,e3⟩:=ol a.ws;subst e1 e2 e3;exact⟨F.S,a1,a2,a3,p,q,r,c1,c2,c3,D,a.sl,zqr a,hb⟩
def zxR{M:Mach}{l:List Inp}{n:Int}(h:bS M l n=0):M.chk=0/\chkIn l M.clock=0/\0<=n/\n<=20000/\M.clock+n<=200000:=by
 unfold bS at h;split at h
 ·rename_i h1
  split at h
  ·rename_i h2
   split at h
   ·rename_i h3
    exact⟨h1,h2,h3⟩
   ·cases h
  ·rename_i h2
   exact absurd h h2
 ·rename_i h1
  exact absurd h h1
def zkV:kS:=by
 intro H enc W base v0 p v2 E d1 d2 p0 p1 p2 a k0 t0 k1 y k2 t2;obtain⟨M,S,rfl,c,k,F⟩:=zeP k0 t0;obtain⟨l,e,z,g⟩:=AX k1 y;obtain⟨n,rfl,_,_,B⟩:=mc underlying3 k2 t2;have q:=j9 B;have r:=zeQ t0 a.2.2 k.lens;by_cases m:bS M l n=0
 ·obtain⟨i,hc,a0,a1,a2⟩:=zxR m
  obtain⟨N,rfl⟩:=aA a0;have t:=wA c i;obtain⟨K,v⟩:∃ K,K=Cs.clocks ⟨⟨M,0,[]⟩,l,[],[]⟩ N:=⟨_,D⟩
  have o:N<=20000/\M.clock+N<=200000:=⟨by omega,a2⟩
  by_cases j:19000<M.b.f
  ·exact zvy M S p l N W a.1 a.2.1 k r c e q m j (zsr (λx h=>(g x h).d) t (zeA i) hc o)
  ·have w:=zdL ⟨⟨M,0,[]⟩,l,[],[]⟩ ⟨D,D,D⟩ N o.1
   rw[<- v] at w;exact zvz M S p l N W a.1 a.2.1 k r c e q m j K.s.M K.ln K.sm K.s.l (by omega) (zvA v (λx h=>(g x h).d) t (by omega) hc o) (zov v t (λx h=>⟨(wD l _ (wE hc).2 x h).1,(g x h).d⟩) hc o (by omega))
 ·exact zvx M S p l n W a.1 a.2.1 k r c e q m
theorem catchRun_holds:Rows.CatchRunCardSaid:=zkS zkV
end Go.Proofs.YthghjlinhokimaaGreatDoor
