/-
  Parts of a proof, joined.
-/
import Derived.Test.YthghjlinhokimaaGreatDoorZbA
import Derived.Test.YthghjlinhokimaaGreatDoorZbLockRun03
import Derived.Test.YthghjlinhokimaaGreatDoorCards
import Derived.Test.YthghjlinhokimaaGreatDoorTie
set_option linter.all false
set_option maxRecDepth 100000
open Option renaming none->G,some->A
open Bool renaming false->ξ,true->Γ
open Go.Proofs.Tryz renaming prog->ω
open Go.Act renaming put->ag
open Go.OpenSpec renaming ofChange->bQ
open Go.Value renaming okWide->bU,int->J,slice->κ,bool->ν
open Go.DataW renaming Trod->dm
open Go.IntKind renaming i64->Q,u16->Y,u8->au
namespace Go.Proofs.YthghjlinhokimaaGreatDoor
open Go.ChangeShapes Go.WideShapes Go.ChangeAt Go.RowKit Go.Proofs.Tryz
def lO:Prop:=∀(H:Type) (enc:TypeId × Value->H) (W:World) (base:Nat) (v0 a v2:Value) (b d1 d2:DataW H) (p0 p1 p2:List MemPlace),(AF W/\Facts W /\ ∀ n∈b.weights ω 41,n<=reachBytes) ->
 bU ω W .any base (Tryz.f3.params.getD 0 0) v0->dm enc ω W 0 (λ_=>Γ) Γ (Tryz.f3.params.getD 0 0) v0 b p0->bU ω W .any base (Tryz.f3.params.getD 1 0) a->dm enc ω W 0 (λ_=>Γ) Γ (Tryz.f3.params.getD 1 0) a d1 p1->bU ω W .any base (Tryz.f3.params.getD 2 0) v2->dm enc ω W 0 (λ_=>Γ) Γ (Tryz.f3.params.getD 2 0) v2 d2 p2 ->
 Calls ω 3 #[v0,a,v2] W λe w'=>e=.returned (ν Γ)/\Below W.heap.size W w'
theorem zhd(d:lO)(os:Os)(b:os.Started)(H:Type)(enc:TypeId × Value->H):ReturnsInHanded {} Tryz.checked os 3 .any (λw args=>(Rows.lockRunSpec.pre enc ω Tryz.f3 [] ξ w args/\laidMetH ω Rows.lockRunRow.laid w)/\sizedMet enc ω Tryz.f3 (bQ Rows.lockRunSpec) ξ w args)
  (Rows.lockRunSpec.post enc ω Tryz.f3 ξ Γ ξ ξ):=by
 refine zbe (C:=Tryz.checked) (X:=λw _=>laidMetH ω Rows.lockRunRow.laid w) (λ_ _ _ E h=>h.of_heap E) own b (by kernel_rfl) func3
  (ChangeSpec.witness_shaped (enc:=enc) (C:=Tryz.checked) (os:=os) (X:=λw _=>laidMetH ω Rows.lockRunRow.laid w) ξ (World.laidAll ω os Rows.lockRunRow.laid) #[.agg #[J Y 0,J Y 0,J Y 0,J Y 0,J Y 0,J Y 0,J Y 0,J Y 0,J Y 0,ν ξ,ν ξ,ν ξ,ν ξ,ν ξ,ν ξ,J Y 0,J Y 0,J Y 0,J Y 0,J Y 0,J Y 0,J Y 0,J Y 0,J Y 0,ν ξ,ν ξ,ν ξ,ν ξ,ν ξ,ν ξ,κ G 0 0,κ G 0 0,κ G 0 0,κ G 0 0,κ G 0 0,J au 0,ν ξ,J au 0,J au 0,ν ξ,J au 0,J Y 0,J Y 0,ν ξ,ν ξ,J Y 0,J Y 0,J au 0,ν ξ,J Y 0,J Y 0,J Y 0,J au 0,ν ξ,J Y 0,J Y 0,J Y 0,J au 0,ν ξ,J Y 0,J Q 0,J Q 0,J Q 0,ν ξ,J Q 0,J Y 0,J Y 0,ν ξ,ν ξ,J au 0,J au 0,ν ξ,J Q 0,J Q 0,J Q 0],κ G 0 0,J Q 0] 8 (World.laidAll_os _ _ _)
    (World.shaped_of_ZipB (by kernel_rfl) (by kernel_rfl)) (by kernel_rfl) (by kernel_rfl) (by kernel_rfl)
    (by rw[MakeChecks.laidMetH_plain _ _ _ (by kernel_rfl)];exact laidMet_laidAll _ (by kernel_rfl) (by kernel_rfl))) ?_
 intro W base args F gs i c B _ k l f _;have a:∀(j:Nat) t v,Tryz.f3.params[j]?=A t->args[j]?=A v->bU ω W .any base t v:=c;have g:=B;obtain⟨p,q,m,I,rfl,_,_⟩:=B;have o:DataW.TrodAll enc ω W 0 (λ_=>Γ) Γ Tryz.f3.params.toList args.toList F p:=m;have r:=o;rw[Tryz.params3] at o a;obtain⟨v0,L,M,N,p0,q0,s,rfl,rfl,P,r0⟩:=cR o;obtain⟨y,R,d1,T,p1,q1,rfl,rfl,rfl,h1,r1⟩:=cR r0;obtain⟨v2,U,d2,V,p2,q2,rfl,rfl,rfl,h2,r2⟩:=cR r1;obtain⟨rfl,rfl,rfl⟩:=kx r2;obtain rfl:args=#[v0,y,v2]:=by cases args;simp_all
 obtain⟨rfl,rfl⟩:=kl I;rw[MakeChecks.laidMetH_plain _ _ _ (by kernel_rfl)] at l;have z:=λx Z=>g.lt x (gZ _ Z)
 refine(d H enc W base v0 y v2 M d1 d2 _ _ _ (⟨sL l f (by simp[Rows.lockRunRow]) (by simp[Rows.lockRunRow]),Ag l f (by simp[Rows.lockRunRow]) (by simp[Rows.lockRunRow]),λn hn=>by have:=cx.1 k n (DataW.weights_mem_each (j:=0) D D n hn);simpa using this⟩) (a 0 _ v0 D D) P (a 1 _ y D D) h1 (a 2 _ v2 D D) h2).mono λe W' ⟨he,hb⟩=>?_
 subst he;exact⟨_,D,_,_,_,[],_,[],g,lM (nM underlying4 _),Af (by kernel_rfl) hb (by kernel_rfl) r z,D,hb.frame _,λh=>by cases h⟩
theorem aW{a b:Bool}(c:a=Γ)(hb:b=Γ):(a && b)=Γ:=by rw[c,hb];rfl
theorem zqO:(Rows.lockRunRow.wf (bQ Rows.lockRunSpec))=Γ:=by kernel_rfl
theorem zqP:(laidOutB ω)=Γ:=by kernel_rfl
theorem zqQ:(mapsRowed ω)=Γ:=by kernel_rfl
theorem zqR:(Tryz.f3.params.all (Tryz.prog.readableRec ·))=Γ:=by kernel_rfl
theorem zqS:(namedTie ω Rows.lockRunRow.named Rows.lockRunSpec.vars)=Γ:=by kernel_rfl
theorem zqT:((Rows.lockRunRow.stops == []))=Γ:=by kernel_rfl
theorem zqU:((Tryz.prog.stops == []))=Γ:=by kernel_rfl
theorem zqV:((Rows.lockRunRow.knobs == []))=Γ:=by kernel_rfl
theorem zqW:((Tryz.prog.stopKnobs == []))=Γ:=by kernel_rfl
theorem zqX:((Rows.lockRunRow.inPlace == Tryz.prog.inPlace 3))=Γ:=by kernel_rfl
theorem znq:((Rows.lockRunRow.unfollowed == Tryz.prog.unfollowed 3))=Γ:=by kernel_rfl
theorem znr:((Rows.lockRunRow.recurses == Tryz.prog.recurses 3))=Γ:=by kernel_rfl
theorem zns:((Rows.lockRunRow.named == Tryz.prog.varsNamed 3))=Γ:=by kernel_rfl
theorem znt:((Rows.lockRunRow.maps == (Tryz.f3.params.toList++Rows.lockRunSpec.plain.varTypes ω).any (Tryz.prog.mapsRec ·)))=Γ:=by kernel_rfl
theorem znu:((Rows.lockRunRow.ifaces == (Tryz.f3.params.toList++Rows.lockRunSpec.plain.varTypes ω).any (Tryz.prog.ifacesRec ·)))=Γ:=by kernel_rfl
theorem znv:((Rows.lockRunRow.mapsOut == Tryz.prog.mapsAmong Tryz.f3.resultTypes.toList))=Γ:=by kernel_rfl
theorem znw:((Rows.lockRunRow.loops == (Tryz.f3.params.toList++Rows.lockRunSpec.plain.varTypes ω).any (Tryz.prog.loopsFrom ·)))=Γ:=by kernel_rfl
theorem znx:((Rows.lockRunRow.wideKeys == (Tryz.f3.params.toList++Rows.lockRunSpec.plain.varTypes ω++Tryz.f3.resultTypes.toList).any (Tryz.prog.wideKeysFrom ·)))=Γ:=by kernel_rfl
theorem zny:(Rows.lockRunSpec.vars.all (Tryz.prog.varReadable ·))=Γ:=by kernel_rfl
theorem znz:(Tryz.f3.resultTypes.all (λt=>Tryz.prog.readableRec t && decide (t<Tryz.prog.types.size)))=Γ:=by kernel_rfl
theorem znA:((Rows.lockRunRow.ifacesOut == Tryz.f3.resultTypes.toList.any (Tryz.prog.ifacesRec ·)))=Γ:=by kernel_rfl
theorem znB:((Rows.lockRunRow.loopsOut == Tryz.f3.resultTypes.toList.any (Tryz.prog.loopsFrom ·)))=Γ:=by kernel_rfl
theorem znC:((Rows.lockRunRow.plainKeys == Tryz.prog.plainKeys))=Γ:=by kernel_rfl
theorem znD:(Rows.lockRunRow.shortTexts.isNone)=Γ:=by kernel_rfl
theorem znE:(Tryz.prog.stopsHeard)=Γ:=by kernel_rfl
theorem znF:(Tryz.prog.mayEnter)=Γ:=by kernel_rfl
theorem znG:((Rows.lockRunRow.lifted == Tryz.prog.liftsFinal))=Γ:=by kernel_rfl
theorem znH:((Tryz.prog.make == A Rows.lockRunRow.make))=Γ:=by kernel_rfl
theorem znI:((Rows.lockRunRow.kinds == (if Rows.lockRunRow.domain.isEmpty then [] else Tryz.f3.params.toList.map λt=>match Tryz.prog.underlying t with|some (.int k)=>A k|_=>G)))=Γ:=by kernel_rfl
theorem znJ:((Rows.lockRunRow.pinned == Rows.lockRunRow.pinnedBy))=Γ:=by kernel_rfl
theorem znK:((Rows.lockRunRow.veiled == (Tryz.f3.params.toList++Rows.lockRunSpec.plain.varTypes ω++Tryz.f3.resultTypes.toList).any (Tryz.prog.veiledRec ·)))=Γ:=by kernel_rfl
theorem znL:(Rows.lockRunRow.veiledFits ω Tryz.f3.params.toList (Tryz.f3.params.toList++Rows.lockRunSpec.plain.varTypes ω++Tryz.f3.resultTypes.toList))=Γ:=by kernel_rfl
theorem zjs:joinedFacts ω 3 Tryz.f3 Rows.lockRunSpec Rows.lockRunRow=Γ:=aW (aW (aW (aW (aW (aW (aW (aW (aW (aW (aW (aW (aW (aW (aW (aW (aW (aW (aW (aW (aW (aW (aW (aW (aW (aW (aW (aW (aW (aW (aW (zqO) zqP) zqQ) zqR) zqS) zqT) zqU) zqV) zqW) zqX) znq) znr) zns) znt) znu) znv) znw) znx) zny) znz) znA) znB) znC) znD) znE) znF) znG) znH) znI) znJ) znK) znL
theorem znM(b:lO):Rows.LockRunSaid :=
 fR 3 Tryz.f3 rfl rfl rfl rfl rfl rfl rfl ⟨D,D,D,D,D⟩ rfl rfl rfl rfl rfl (by kernel_rfl) func3 zjs
  (du (by kernel_rfl)) (by unfold Func.isWrapper;first|(rw[am (by decide +kernel)];kernel_rfl)|(rw[ae (by decide +kernel)];exact⟨D,D⟩))
  (λos a H enc _=>zhd b os a H enc)
theorem zqY:Rows.lockRunRow.wfByText (bQ Rows.lockRunSpec)=Γ:=by kernel_rfl
theorem zqZ:Tryz.pinned.checked.prog.mainIs=A (Rows.lockRunCard.stood.harness.1,Rows.lockRunCard.stood.harness.2.toList):=by kernel_rfl
theorem zq0:(!Rows.lockRunCard.stood.harness.1 && Rows.lockRunCard.stood.harness.2.isEmpty && !Rows.lockRunCard.stood.looks)=ξ:=by kernel_rfl
theorem zq1:Tryz.pinned.checked.prog.funcNamed Rows.lockRunRow.func=A 3:=by kernel_rfl
theorem zq2:Rows.lockRunCard.stood.looks=Tryz.pinned.checked.prog.looks []:=by kernel_rfl
theorem zq3:(Tryz.f3.params.toList.all λt=>!(Tryz.pinned.checked.prog.wantsStandIn t))=Γ:=by kernel_rfl
theorem zq4:ξ=Rows.lockRunRow.goesBy Tryz.pinned.checked.prog:=by kernel_rfl
theorem zli(a:lO):Rows.LockRunCardSaid :=
 Claim7.holds_tied_plain_at .later [] Rows.lockRunCard.laidKinds Γ Rows.lockRunCard.stood.harness Rows.lockRunCard.stood.looks (znM a) (λ_ h=>by cases h) zqY (λ_ h=>by cases h) lockRun_row_tie D ⟨D,D⟩ zqZ zq0
  (λf c d b=>by
    obtain rfl:3=f:=aL (zq1.symm.trans d);obtain rfl:Tryz.f3=c:=aL (Tryz.func3.symm.trans b);exact⟨zq2,λj t e=>by
     have g:t∈Tryz.f3.params.toList:=bu (i:=j) (by rw[eu];exact e);have:=cx.1 zq3 t g;exact iP _ ▸ this⟩)
  zq4
end Go.Proofs.YthghjlinhokimaaGreatDoor
