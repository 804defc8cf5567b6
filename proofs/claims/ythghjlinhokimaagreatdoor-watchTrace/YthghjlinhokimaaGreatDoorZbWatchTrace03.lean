/-
  Parts of a proof, joined.
-/
import Derived.Test.YthghjlinhokimaaGreatDoorZbA
import Derived.Test.YthghjlinhokimaaGreatDoorZbWatchTrace02
import Derived.Test.YthghjlinhokimaaGreatDoorCards
import Derived.Test.YthghjlinhokimaaGreatDoorTie
set_option linter.all false
set_option maxRecDepth 100000
open Option renaming none->G,some->A
open Bool renaming false->ξ,true->Γ
open Go.Proofs.Tryz renaming prog->ω
open Go.Act renaming put->ag
open Go.OpenSpec renaming ofChange->bQ
open Go.Value renaming okWide->bU,int->J,slice->κ,bool->ν
open Go.DataW renaming Trod->dm
open Go.IntKind renaming i64->Q,u16->Y,u8->au
namespace Go.Proofs.YthghjlinhokimaaGreatDoor
open Go.ChangeShapes Go.WideShapes Go.ChangeAt Go.RowKit Go.Proofs.Tryz
def jO:Prop:=∀(H:Type) (enc:TypeId × Value->H) (W:World) (base:Nat) (v0 a v2:Value) (b d1 d2:DataW H) (p0 p1 p2:List MemPlace),(AF W/\Facts W /\ ∀ n∈b.weights ω 41,n<=reachBytes) ->
 bU ω W .any base (Tryz.f6.params.getD 0 0) v0->dm enc ω W 0 (λ_=>Γ) Γ (Tryz.f6.params.getD 0 0) v0 b p0->bU ω W .any base (Tryz.f6.params.getD 1 0) a->dm enc ω W 0 (λ_=>Γ) Γ (Tryz.f6.params.getD 1 0) a d1 p1->bU ω W .any base (Tryz.f6.params.getD 2 0) v2->dm enc ω W 0 (λ_=>Γ) Γ (Tryz.f6.params.getD 2 0) v2 d2 p2 ->
 Calls ω 6 #[v0,a,v2] W λe w'=>e=.returned (ν Γ)/\Below W.heap.size W w'
theorem zfo(d:jO)(os:Os)(b:os.Started)(H:Type)(enc:TypeId × Value->H):ReturnsInHanded {} Tryz.checked os 6 .any (λw args=>(Rows.watchTraceSpec.pre enc ω Tryz.f6 [] ξ w args/\laidMetH ω Rows.watchTraceRow.laid w)/\sizedMet enc ω Tryz.f6 (bQ Rows.watchTraceSpec) ξ w args)
  (Rows.watchTraceSpec.post enc ω Tryz.f6 ξ Γ ξ ξ):=by
 refine zbe (C:=Tryz.checked) (X:=λw _=>laidMetH ω Rows.watchTraceRow.laid w) (λ_ _ _ E h=>h.of_heap E) own b (by kernel_rfl) func6
  (ChangeSpec.witness_shaped (enc:=enc) (C:=Tryz.checked) (os:=os) (X:=λw _=>laidMetH ω Rows.watchTraceRow.laid w) ξ (World.laidAll ω os Rows.watchTraceRow.laid) #[.agg #[J Y 0,J Y 0,J Y 0,J Y 0,J Y 0,J Y 0,J Y 0,J Y 0,J Y 0,ν ξ,ν ξ,ν ξ,ν ξ,ν ξ,ν ξ,J Y 0,J Y 0,J Y 0,J Y 0,J Y 0,J Y 0,J Y 0,J Y 0,J Y 0,ν ξ,ν ξ,ν ξ,ν ξ,ν ξ,ν ξ,κ G 0 0,κ G 0 0,κ G 0 0,κ G 0 0,κ G 0 0,J au 0,ν ξ,J au 0,J au 0,ν ξ,J au 0,J Y 0,J Y 0,ν ξ,ν ξ,J Y 0,J Y 0,J au 0,ν ξ,J Y 0,J Y 0,J Y 0,J au 0,ν ξ,J Y 0,J Y 0,J Y 0,J au 0,ν ξ,J Y 0,J Q 0,J Q 0,J Q 0,ν ξ,J Q 0,J Y 0,J Y 0,ν ξ,ν ξ,J au 0,J au 0,ν ξ,J Q 0,J Q 0,J Q 0],κ G 0 0,J Q 0] 8 (World.laidAll_os _ _ _)
    (World.shaped_of_ZipB (by kernel_rfl) (by kernel_rfl)) (by kernel_rfl) (by kernel_rfl) (by kernel_rfl)
    (by rw[MakeChecks.laidMetH_plain _ _ _ (by kernel_rfl)];exact laidMet_laidAll _ (by kernel_rfl) (by kernel_rfl))) ?_
 intro W base args F gs i c B _ k l f _;have a:∀(j:Nat) t v,Tryz.f6.params[j]?=A t->args[j]?=A v->bU ω W .any base t v:=c;have g:=B;obtain⟨p,q,m,I,rfl,_,_⟩:=B;have o:DataW.TrodAll enc ω W 0 (λ_=>Γ) Γ Tryz.f6.params.toList args.toList F p:=m;have r:=o;rw[Tryz.params6] at o a;obtain⟨v0,L,M,N,p0,q0,s,rfl,rfl,P,r0⟩:=cR o;obtain⟨y,R,d1,T,p1,q1,rfl,rfl,rfl,h1,r1⟩:=cR r0;obtain⟨v2,U,d2,V,p2,q2,rfl,rfl,rfl,h2,r2⟩:=cR r1;obtain⟨rfl,rfl,rfl⟩:=kx r2;obtain rfl:args=#[v0,y,v2]:=by cases args;simp_all
 obtain⟨rfl,rfl⟩:=kl I;rw[MakeChecks.laidMetH_plain _ _ _ (by kernel_rfl)] at l;have z:=λx Z=>g.lt x (gZ _ Z)
 refine(d H enc W base v0 y v2 M d1 d2 _ _ _ (⟨sL l f (by simp[Rows.watchTraceRow]) (by simp[Rows.watchTraceRow]),Ag l f (by simp[Rows.watchTraceRow]) (by simp[Rows.watchTraceRow]),λn hn=>by have:=cx.1 k n (DataW.weights_mem_each (j:=0) D D n hn);simpa using this⟩) (a 0 _ v0 D D) P (a 1 _ y D D) h1 (a 2 _ v2 D D) h2).mono λe W' ⟨he,hb⟩=>?_
 subst he;exact⟨_,D,_,_,_,[],_,[],g,lM (nM underlying4 _),Af (by kernel_rfl) hb (by kernel_rfl) r z,D,hb.frame _,λh=>by cases h⟩
theorem aW{a b:Bool}(c:a=Γ)(hb:b=Γ):(a && b)=Γ:=by rw[c,hb];rfl
theorem zkz:(Rows.watchTraceRow.wf (bQ Rows.watchTraceSpec))=Γ:=by kernel_rfl
theorem zkA:(laidOutB ω)=Γ:=by kernel_rfl
theorem zkB:(mapsRowed ω)=Γ:=by kernel_rfl
theorem zkC:(Tryz.f6.params.all (Tryz.prog.readableRec ·))=Γ:=by kernel_rfl
theorem zkD:(namedTie ω Rows.watchTraceRow.named Rows.watchTraceSpec.vars)=Γ:=by kernel_rfl
theorem zkE:((Rows.watchTraceRow.stops == []))=Γ:=by kernel_rfl
theorem zkF:((Tryz.prog.stops == []))=Γ:=by kernel_rfl
theorem zkG:((Rows.watchTraceRow.knobs == []))=Γ:=by kernel_rfl
theorem zkH:((Tryz.prog.stopKnobs == []))=Γ:=by kernel_rfl
theorem zkI:((Rows.watchTraceRow.inPlace == Tryz.prog.inPlace 6))=Γ:=by kernel_rfl
theorem zhJ:((Rows.watchTraceRow.unfollowed == Tryz.prog.unfollowed 6))=Γ:=by kernel_rfl
theorem zhK:((Rows.watchTraceRow.recurses == Tryz.prog.recurses 6))=Γ:=by kernel_rfl
theorem zhL:((Rows.watchTraceRow.named == Tryz.prog.varsNamed 6))=Γ:=by kernel_rfl
theorem zhM:((Rows.watchTraceRow.maps == (Tryz.f6.params.toList++Rows.watchTraceSpec.plain.varTypes ω).any (Tryz.prog.mapsRec ·)))=Γ:=by kernel_rfl
theorem zhN:((Rows.watchTraceRow.ifaces == (Tryz.f6.params.toList++Rows.watchTraceSpec.plain.varTypes ω).any (Tryz.prog.ifacesRec ·)))=Γ:=by kernel_rfl
theorem zhO:((Rows.watchTraceRow.mapsOut == Tryz.prog.mapsAmong Tryz.f6.resultTypes.toList))=Γ:=by kernel_rfl
theorem zhP:((Rows.watchTraceRow.loops == (Tryz.f6.params.toList++Rows.watchTraceSpec.plain.varTypes ω).any (Tryz.prog.loopsFrom ·)))=Γ:=by kernel_rfl
theorem zhQ:((Rows.watchTraceRow.wideKeys == (Tryz.f6.params.toList++Rows.watchTraceSpec.plain.varTypes ω++Tryz.f6.resultTypes.toList).any (Tryz.prog.wideKeysFrom ·)))=Γ:=by kernel_rfl
theorem zhR:(Rows.watchTraceSpec.vars.all (Tryz.prog.varReadable ·))=Γ:=by kernel_rfl
theorem zhS:(Tryz.f6.resultTypes.all (λt=>Tryz.prog.readableRec t && decide (t<Tryz.prog.types.size)))=Γ:=by kernel_rfl
theorem zhT:((Rows.watchTraceRow.ifacesOut == Tryz.f6.resultTypes.toList.any (Tryz.prog.ifacesRec ·)))=Γ:=by kernel_rfl
theorem zhU:((Rows.watchTraceRow.loopsOut == Tryz.f6.resultTypes.toList.any (Tryz.prog.loopsFrom ·)))=Γ:=by kernel_rfl
theorem zhV:((Rows.watchTraceRow.plainKeys == Tryz.prog.plainKeys))=Γ:=by kernel_rfl
theorem zhW:(Rows.watchTraceRow.shortTexts.isNone)=Γ:=by kernel_rfl
theorem zhX:(Tryz.prog.stopsHeard)=Γ:=by kernel_rfl
theorem zhY:(Tryz.prog.mayEnter)=Γ:=by kernel_rfl
theorem zhZ:((Rows.watchTraceRow.lifted == Tryz.prog.liftsFinal))=Γ:=by kernel_rfl
theorem zh0:((Tryz.prog.make == A Rows.watchTraceRow.make))=Γ:=by kernel_rfl
theorem zh1:((Rows.watchTraceRow.kinds == (if Rows.watchTraceRow.domain.isEmpty then [] else Tryz.f6.params.toList.map λt=>match Tryz.prog.underlying t with|some (.int k)=>A k|_=>G)))=Γ:=by kernel_rfl
theorem zh2:((Rows.watchTraceRow.pinned == Rows.watchTraceRow.pinnedBy))=Γ:=by kernel_rfl
theorem zh3:((Rows.watchTraceRow.veiled == (Tryz.f6.params.toList++Rows.watchTraceSpec.plain.varTypes ω++Tryz.f6.resultTypes.toList).any (Tryz.prog.veiledRec ·)))=Γ:=by kernel_rfl
theorem zh4:(Rows.watchTraceRow.veiledFits ω Tryz.f6.params.toList (Tryz.f6.params.toList++Rows.watchTraceSpec.plain.varTypes ω++Tryz.f6.resultTypes.toList))=Γ:=by kernel_rfl
theorem zfK:joinedFacts ω 6 Tryz.f6 Rows.watchTraceSpec Rows.watchTraceRow=Γ:=aW (aW (aW (aW (aW (aW (aW (aW (aW (aW (aW (aW (aW (aW (aW (aW (aW (aW (aW (aW (aW (aW (aW (aW (aW (aW (aW (aW (aW (aW (aW (zkz) zkA) zkB) zkC) zkD) zkE) zkF) zkG) zkH) zkI) zhJ) zhK) zhL) zhM) zhN) zhO) zhP) zhQ) zhR) zhS) zhT) zhU) zhV) zhW) zhX) zhY) zhZ) zh0) zh1) zh2) zh3) zh4
theorem zh5(b:jO):Rows.WatchTraceSaid :=
 fR 6 Tryz.f6 rfl rfl rfl rfl rfl rfl rfl ⟨D,D,D,D,D⟩ rfl rfl rfl rfl rfl (by kernel_rfl) func6 zfK
  (du (by kernel_rfl)) (by unfold Func.isWrapper;first|(rw[am (by decide +kernel)];kernel_rfl)|(rw[ae (by decide +kernel)];exact⟨D,D⟩))
  (λos a H enc _=>zfo b os a H enc)
theorem zkJ:Rows.watchTraceRow.wfByText (bQ Rows.watchTraceSpec)=Γ:=by kernel_rfl
theorem zkK:Tryz.pinned.checked.prog.mainIs=A (Rows.watchTraceCard.stood.harness.1,Rows.watchTraceCard.stood.harness.2.toList):=by kernel_rfl
theorem zkL:(!Rows.watchTraceCard.stood.harness.1 && Rows.watchTraceCard.stood.harness.2.isEmpty && !Rows.watchTraceCard.stood.looks)=ξ:=by kernel_rfl
theorem zkM:Tryz.pinned.checked.prog.funcNamed Rows.watchTraceRow.func=A 6:=by kernel_rfl
theorem zkN:Rows.watchTraceCard.stood.looks=Tryz.pinned.checked.prog.looks []:=by kernel_rfl
theorem zkO:(Tryz.f6.params.toList.all λt=>!(Tryz.pinned.checked.prog.wantsStandIn t))=Γ:=by kernel_rfl
theorem zkP:ξ=Rows.watchTraceRow.goesBy Tryz.pinned.checked.prog:=by kernel_rfl
theorem zg0(a:jO):Rows.WatchTraceCardSaid :=
 Claim7.holds_tied_plain_at .later [] Rows.watchTraceCard.laidKinds Γ Rows.watchTraceCard.stood.harness Rows.watchTraceCard.stood.looks (zh5 a) (λ_ h=>by cases h) zkJ (λ_ h=>by cases h) watchTrace_row_tie D ⟨D,D⟩ zkK zkL
  (λf c d b=>by
    obtain rfl:6=f:=aL (zkM.symm.trans d);obtain rfl:Tryz.f6=c:=aL (Tryz.func6.symm.trans b);exact⟨zkN,λj t e=>by
     have g:t∈Tryz.f6.params.toList:=bu (i:=j) (by rw[eu];exact e);have:=cx.1 zkO t g;exact iP _ ▸ this⟩)
  zkP
end Go.Proofs.YthghjlinhokimaaGreatDoor
