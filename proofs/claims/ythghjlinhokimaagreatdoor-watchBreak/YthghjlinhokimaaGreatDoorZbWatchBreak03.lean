/-
  Parts of a proof, joined.
-/
import Derived.Test.YthghjlinhokimaaGreatDoorZbA
import Derived.Test.YthghjlinhokimaaGreatDoorZbWatchBreak02
import Derived.Test.YthghjlinhokimaaGreatDoorCards
import Derived.Test.YthghjlinhokimaaGreatDoorTie
set_option linter.all false
set_option maxRecDepth 100000
open Option renaming none->G,some->A
open Bool renaming false->ξ,true->Γ
open Go.Proofs.Tryz renaming prog->ω
open Go.Act renaming put->ag
open Go.OpenSpec renaming ofChange->bQ
open Go.Value renaming okWide->bU,int->J,slice->κ,bool->ν
open Go.DataW renaming Trod->dm
open Go.IntKind renaming i64->Q,u16->Y,u8->au
namespace Go.Proofs.YthghjlinhokimaaGreatDoor
open Go.ChangeShapes Go.WideShapes Go.ChangeAt Go.RowKit Go.Proofs.Tryz
def jN:Prop:=∀(H:Type) (enc:TypeId × Value->H) (W:World) (base:Nat) (v0 a v2 v3:Value) (b d1 d2 d3:DataW H) (p0 p1 p2 p3:List MemPlace),(AF W/\Facts W /\ ∀ n∈b.weights ω 41,n<=reachBytes) ->
 bU ω W .any base (Tryz.f7.params.getD 0 0) v0->dm enc ω W 0 (λ_=>Γ) Γ (Tryz.f7.params.getD 0 0) v0 b p0->bU ω W .any base (Tryz.f7.params.getD 1 0) a->dm enc ω W 0 (λ_=>Γ) Γ (Tryz.f7.params.getD 1 0) a d1 p1->bU ω W .any base (Tryz.f7.params.getD 2 0) v2->dm enc ω W 0 (λ_=>Γ) Γ (Tryz.f7.params.getD 2 0) v2 d2 p2->bU ω W .any base (Tryz.f7.params.getD 3 0) v3->dm enc ω W 0 (λ_=>Γ) Γ (Tryz.f7.params.getD 3 0) v3 d3 p3 ->
 Calls ω 7 #[v0,a,v2,v3] W λe w'=>e=.returned (ν Γ)/\Below W.heap.size W w'
theorem zfm(d:jN)(os:Os)(b:os.Started)(H:Type)(enc:TypeId × Value->H):ReturnsInHanded {} Tryz.checked os 7 .any (λw args=>(Rows.watchBreakSpec.pre enc ω Tryz.f7 [] ξ w args/\laidMetH ω Rows.watchBreakRow.laid w)/\sizedMet enc ω Tryz.f7 (bQ Rows.watchBreakSpec) ξ w args)
  (Rows.watchBreakSpec.post enc ω Tryz.f7 ξ Γ ξ ξ):=by
 refine zbe (C:=Tryz.checked) (X:=λw _=>laidMetH ω Rows.watchBreakRow.laid w) (λ_ _ _ E h=>h.of_heap E) own b (by kernel_rfl) func7
  (ChangeSpec.witness_shaped (enc:=enc) (C:=Tryz.checked) (os:=os) (X:=λw _=>laidMetH ω Rows.watchBreakRow.laid w) ξ (World.laidAll ω os Rows.watchBreakRow.laid) #[.agg #[J Y 0,J Y 0,J Y 0,J Y 0,J Y 0,J Y 0,J Y 0,J Y 0,J Y 0,ν ξ,ν ξ,ν ξ,ν ξ,ν ξ,ν ξ,J Y 0,J Y 0,J Y 0,J Y 0,J Y 0,J Y 0,J Y 0,J Y 0,J Y 0,ν ξ,ν ξ,ν ξ,ν ξ,ν ξ,ν ξ,κ G 0 0,κ G 0 0,κ G 0 0,κ G 0 0,κ G 0 0,J au 0,ν ξ,J au 0,J au 0,ν ξ,J au 0,J Y 0,J Y 0,ν ξ,ν ξ,J Y 0,J Y 0,J au 0,ν ξ,J Y 0,J Y 0,J Y 0,J au 0,ν ξ,J Y 0,J Y 0,J Y 0,J au 0,ν ξ,J Y 0,J Q 0,J Q 0,J Q 0,ν ξ,J Q 0,J Y 0,J Y 0,ν ξ,ν ξ,J au 0,J au 0,ν ξ,J Q 0,J Q 0,J Q 0],κ G 0 0,J Q 0,J Y 0] 8 (World.laidAll_os _ _ _)
    (World.shaped_of_ZipB (by kernel_rfl) (by kernel_rfl)) (by kernel_rfl) (by kernel_rfl) (by kernel_rfl)
    (by rw[MakeChecks.laidMetH_plain _ _ _ (by kernel_rfl)];exact laidMet_laidAll _ (by kernel_rfl) (by kernel_rfl))) ?_
 intro W base args F gs i c B _ k l f _;have a:∀(j:Nat) t v,Tryz.f7.params[j]?=A t->args[j]?=A v->bU ω W .any base t v:=c;have g:=B;obtain⟨p,q,m,I,rfl,_,_⟩:=B;have o:DataW.TrodAll enc ω W 0 (λ_=>Γ) Γ Tryz.f7.params.toList args.toList F p:=m;have r:=o;rw[Tryz.params7] at o a;obtain⟨v0,L,M,N,p0,q0,s,rfl,rfl,P,r0⟩:=cR o;obtain⟨y,R,d1,T,p1,q1,rfl,rfl,rfl,h1,r1⟩:=cR r0;obtain⟨v2,U,d2,V,p2,q2,rfl,rfl,rfl,h2,r2⟩:=cR r1;obtain⟨v3,Z,d3,ds3,p3,q3,rfl,rfl,rfl,h3,r3⟩:=cR r2;obtain⟨rfl,rfl,rfl⟩:=kx r3;obtain rfl:args=#[v0,y,v2,v3]:=by cases args;simp_all
 obtain⟨rfl,rfl⟩:=kl I;rw[MakeChecks.laidMetH_plain _ _ _ (by kernel_rfl)] at l;have z:=λx hx=>g.lt x (gZ _ hx)
 refine(d H enc W base v0 y v2 v3 M d1 d2 d3 _ _ _ _ (⟨sL l f (by simp[Rows.watchBreakRow]) (by simp[Rows.watchBreakRow]),Ag l f (by simp[Rows.watchBreakRow]) (by simp[Rows.watchBreakRow]),λn hn=>by have:=cx.1 k n (DataW.weights_mem_each (j:=0) D D n hn);simpa using this⟩) (a 0 _ v0 D D) P (a 1 _ y D D) h1 (a 2 _ v2 D D) h2 (a 3 _ v3 D D) h3).mono λe W' ⟨he,hb⟩=>?_
 subst he;exact⟨_,D,_,_,_,[],_,[],g,lM (nM underlying4 _),Af (by kernel_rfl) hb (by kernel_rfl) r z,D,hb.frame _,λh=>by cases h⟩
theorem aW{a b:Bool}(c:a=Γ)(hb:b=Γ):(a && b)=Γ:=by rw[c,hb];rfl
theorem zkg:(Rows.watchBreakRow.wf (bQ Rows.watchBreakSpec))=Γ:=by kernel_rfl
theorem zkh:(laidOutB ω)=Γ:=by kernel_rfl
theorem zki:(mapsRowed ω)=Γ:=by kernel_rfl
theorem zkj:(Tryz.f7.params.all (Tryz.prog.readableRec ·))=Γ:=by kernel_rfl
theorem zkk:(namedTie ω Rows.watchBreakRow.named Rows.watchBreakSpec.vars)=Γ:=by kernel_rfl
theorem zkl:((Rows.watchBreakRow.stops == []))=Γ:=by kernel_rfl
theorem zkm:((Tryz.prog.stops == []))=Γ:=by kernel_rfl
theorem zkn:((Rows.watchBreakRow.knobs == []))=Γ:=by kernel_rfl
theorem zko:((Tryz.prog.stopKnobs == []))=Γ:=by kernel_rfl
theorem zkp:((Rows.watchBreakRow.inPlace == Tryz.prog.inPlace 7))=Γ:=by kernel_rfl
theorem zhl:((Rows.watchBreakRow.unfollowed == Tryz.prog.unfollowed 7))=Γ:=by kernel_rfl
theorem zhm:((Rows.watchBreakRow.recurses == Tryz.prog.recurses 7))=Γ:=by kernel_rfl
theorem zhn:((Rows.watchBreakRow.named == Tryz.prog.varsNamed 7))=Γ:=by kernel_rfl
theorem zho:((Rows.watchBreakRow.maps == (Tryz.f7.params.toList++Rows.watchBreakSpec.plain.varTypes ω).any (Tryz.prog.mapsRec ·)))=Γ:=by kernel_rfl
theorem zhp:((Rows.watchBreakRow.ifaces == (Tryz.f7.params.toList++Rows.watchBreakSpec.plain.varTypes ω).any (Tryz.prog.ifacesRec ·)))=Γ:=by kernel_rfl
theorem zhq:((Rows.watchBreakRow.mapsOut == Tryz.prog.mapsAmong Tryz.f7.resultTypes.toList))=Γ:=by kernel_rfl
theorem zhr:((Rows.watchBreakRow.loops == (Tryz.f7.params.toList++Rows.watchBreakSpec.plain.varTypes ω).any (Tryz.prog.loopsFrom ·)))=Γ:=by kernel_rfl
theorem zhs:((Rows.watchBreakRow.wideKeys == (Tryz.f7.params.toList++Rows.watchBreakSpec.plain.varTypes ω++Tryz.f7.resultTypes.toList).any (Tryz.prog.wideKeysFrom ·)))=Γ:=by kernel_rfl
theorem zht:(Rows.watchBreakSpec.vars.all (Tryz.prog.varReadable ·))=Γ:=by kernel_rfl
theorem zhu:(Tryz.f7.resultTypes.all (λt=>Tryz.prog.readableRec t && decide (t<Tryz.prog.types.size)))=Γ:=by kernel_rfl
theorem zhv:((Rows.watchBreakRow.ifacesOut == Tryz.f7.resultTypes.toList.any (Tryz.prog.ifacesRec ·)))=Γ:=by kernel_rfl
theorem zhw:((Rows.watchBreakRow.loopsOut == Tryz.f7.resultTypes.toList.any (Tryz.prog.loopsFrom ·)))=Γ:=by kernel_rfl
theorem zhx:((Rows.watchBreakRow.plainKeys == Tryz.prog.plainKeys))=Γ:=by kernel_rfl
theorem zhy:(Rows.watchBreakRow.shortTexts.isNone)=Γ:=by kernel_rfl
theorem zhz:(Tryz.prog.stopsHeard)=Γ:=by kernel_rfl
theorem zhA:(Tryz.prog.mayEnter)=Γ:=by kernel_rfl
theorem zhB:((Rows.watchBreakRow.lifted == Tryz.prog.liftsFinal))=Γ:=by kernel_rfl
theorem zhC:((Tryz.prog.make == A Rows.watchBreakRow.make))=Γ:=by kernel_rfl
theorem zhD:((Rows.watchBreakRow.kinds == (if Rows.watchBreakRow.domain.isEmpty then [] else Tryz.f7.params.toList.map λt=>match Tryz.prog.underlying t with|some (.int k)=>A k|_=>G)))=Γ:=by kernel_rfl
theorem zhE:((Rows.watchBreakRow.pinned == Rows.watchBreakRow.pinnedBy))=Γ:=by kernel_rfl
theorem zhF:((Rows.watchBreakRow.veiled == (Tryz.f7.params.toList++Rows.watchBreakSpec.plain.varTypes ω++Tryz.f7.resultTypes.toList).any (Tryz.prog.veiledRec ·)))=Γ:=by kernel_rfl
theorem zhG:(Rows.watchBreakRow.veiledFits ω Tryz.f7.params.toList (Tryz.f7.params.toList++Rows.watchBreakSpec.plain.varTypes ω++Tryz.f7.resultTypes.toList))=Γ:=by kernel_rfl
theorem zfJ:joinedFacts ω 7 Tryz.f7 Rows.watchBreakSpec Rows.watchBreakRow=Γ:=aW (aW (aW (aW (aW (aW (aW (aW (aW (aW (aW (aW (aW (aW (aW (aW (aW (aW (aW (aW (aW (aW (aW (aW (aW (aW (aW (aW (aW (aW (aW (zkg) zkh) zki) zkj) zkk) zkl) zkm) zkn) zko) zkp) zhl) zhm) zhn) zho) zhp) zhq) zhr) zhs) zht) zhu) zhv) zhw) zhx) zhy) zhz) zhA) zhB) zhC) zhD) zhE) zhF) zhG
theorem zhH(b:jN):Rows.WatchBreakSaid :=
 fR 7 Tryz.f7 rfl rfl rfl rfl rfl rfl rfl ⟨D,D,D,D,D⟩ rfl rfl rfl rfl rfl (by kernel_rfl) func7 zfJ
  (du (by kernel_rfl)) (by unfold Func.isWrapper;first|(rw[am (by decide +kernel)];kernel_rfl)|(rw[ae (by decide +kernel)];exact⟨D,D⟩))
  (λos a H enc _=>zfm b os a H enc)
theorem zkq:Rows.watchBreakRow.wfByText (bQ Rows.watchBreakSpec)=Γ:=by kernel_rfl
theorem zkr:Tryz.pinned.checked.prog.mainIs=A (Rows.watchBreakCard.stood.harness.1,Rows.watchBreakCard.stood.harness.2.toList):=by kernel_rfl
theorem zks:(!Rows.watchBreakCard.stood.harness.1 && Rows.watchBreakCard.stood.harness.2.isEmpty && !Rows.watchBreakCard.stood.looks)=ξ:=by kernel_rfl
theorem zkt:Tryz.pinned.checked.prog.funcNamed Rows.watchBreakRow.func=A 7:=by kernel_rfl
theorem zku:Rows.watchBreakCard.stood.looks=Tryz.pinned.checked.prog.looks []:=by kernel_rfl
theorem zkv:(Tryz.f7.params.toList.all λt=>!(Tryz.pinned.checked.prog.wantsStandIn t))=Γ:=by kernel_rfl
theorem zkw:ξ=Rows.watchBreakRow.goesBy Tryz.pinned.checked.prog:=by kernel_rfl
theorem zgU(a:jN):Rows.WatchBreakCardSaid :=
 Claim7.holds_tied_plain_at .later [] Rows.watchBreakCard.laidKinds Γ Rows.watchBreakCard.stood.harness Rows.watchBreakCard.stood.looks (zhH a) (λ_ h=>by cases h) zkq (λ_ h=>by cases h) watchBreak_row_tie D ⟨D,D⟩ zkr zks
  (λf c d b=>by
    obtain rfl:7=f:=aL (zkt.symm.trans d);obtain rfl:Tryz.f7=c:=aL (Tryz.func7.symm.trans b);exact⟨zku,λj t e=>by
     have g:t∈Tryz.f7.params.toList:=bu (i:=j) (by rw[eu];exact e);have:=cx.1 zkv t g;exact iP _ ▸ this⟩)
  zkw
end Go.Proofs.YthghjlinhokimaaGreatDoor
