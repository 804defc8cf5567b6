/-
  Parts of a proof, joined.
-/
import Derived.Test.YthghjlinhokimaaGreatDoorZcA
import Derived.Test.YthghjlinhokimaaGreatDoorZcWatchBreak02
import Derived.Test.YthghjlinhokimaaGreatDoorCards
import Derived.Test.YthghjlinhokimaaGreatDoorTie
set_option linter.all false
set_option maxRecDepth 100000
namespace Go.Proofs.YthghjlinhokimaaGreatDoor
open Go.ChangeShapes Go.WideShapes Go.ChangeAt Go.RowKit Go.Proofs.Tryz
def gh:Prop:=∀(H:Type) (enc:TypeId × Value->H) (W:World) (base:Nat) (v0 a v2 v3:Value) (b d1 d2 d3:DataW H) (p0 p1 p2 p3:List MemPlace),(AF W/\Facts W /\ ∀ n∈b.weights prog 41,n<=reachBytes) ->
 Value.okWide prog W .any base (Tryz.f7.params.getD 0 0) v0->DataW.Trod enc prog W 0 (λ_=>true) true (Tryz.f7.params.getD 0 0) v0 b p0->Value.okWide prog W .any base (Tryz.f7.params.getD 1 0) a->DataW.Trod enc prog W 0 (λ_=>true) true (Tryz.f7.params.getD 1 0) a d1 p1->Value.okWide prog W .any base (Tryz.f7.params.getD 2 0) v2->DataW.Trod enc prog W 0 (λ_=>true) true (Tryz.f7.params.getD 2 0) v2 d2 p2->Value.okWide prog W .any base (Tryz.f7.params.getD 3 0) v3->DataW.Trod enc prog W 0 (λ_=>true) true (Tryz.f7.params.getD 3 0) v3 d3 p3 ->
 Calls prog 7 #[v0,a,v2,v3] W λe w'=>e=.returned (.bool true)/\Below W.heap.size W w'
theorem zeN(d:gh)(os:Os)(b:os.Started)(H:Type)(enc:TypeId × Value->H):ReturnsInHanded {} Tryz.checked os 7 .any (λw args=>(Rows.watchBreakSpec.pre enc prog Tryz.f7 [] false w args/\laidMetH prog Rows.watchBreakRow.laid w)/\sizedMet enc prog Tryz.f7 (OpenSpec.ofChange Rows.watchBreakSpec) false w args)
  (Rows.watchBreakSpec.post enc prog Tryz.f7 false true false false):=by
 refine zb7 (C:=Tryz.checked) (X:=λw _=>laidMetH prog Rows.watchBreakRow.laid w) (λ_ _ _ B h=>h.of_heap B) own b (by kernel_rfl) func7
  (ChangeSpec.witness_shaped (enc:=enc) (C:=Tryz.checked) (os:=os) (X:=λw _=>laidMetH prog Rows.watchBreakRow.laid w) false (World.laidAll prog os Rows.watchBreakRow.laid) #[.agg #[.int .u16 0,.int .u16 0,.int .u16 0,.int .u16 0,.int .u16 0,.int .u16 0,.int .u16 0,.int .u16 0,.int .u16 0,.bool false,.bool false,.bool false,.bool false,.bool false,.bool false,.int .u16 0,.int .u16 0,.int .u16 0,.int .u16 0,.int .u16 0,.int .u16 0,.int .u16 0,.int .u16 0,.int .u16 0,.bool false,.bool false,.bool false,.bool false,.bool false,.bool false,.slice none 0 0,.slice none 0 0,.slice none 0 0,.slice none 0 0,.slice none 0 0,.int .u8 0,.bool false,.int .u8 0,.int .u8 0,.bool false,.int .u8 0,.int .u16 0,.int .u16 0,.bool false,.bool false,.int .u16 0,.int .u16 0,.int .u8 0,.bool false,.int .u16 0,.int .u16 0,.int .u16 0,.int .u8 0,.bool false,.int .u16 0,.int .u16 0,.int .u16 0,.int .u8 0,.bool false,.int .u16 0,.int .i64 0,.int .i64 0,.int .i64 0,.bool false,.int .i64 0,.int .u16 0,.int .u16 0,.bool false,.bool false,.int .u8 0,.int .u8 0,.bool false,.int .i64 0,.int .i64 0,.int .i64 0],.slice none 0 0,.int .i64 0,.int .u16 0] 8 (World.laidAll_os _ _ _)
    (World.shaped_of_ZipB (by kernel_rfl) (by kernel_rfl)) (by kernel_rfl) (by kernel_rfl) (by kernel_rfl)
    (by rw[MakeChecks.laidMetH_plain _ _ _ (by kernel_rfl)];exact laidMet_laidAll _ (by kernel_rfl) (by kernel_rfl))) ?_
 intro W base args E gs i c z _ k l f _;have a:∀(j:Nat) t v,Tryz.f7.params[j]?=some t->args[j]?=some v->Value.okWide prog W .any base t v:=c;have g:=z;obtain⟨p,q,m,F,rfl,_,_⟩:=z;have o:DataW.TrodAll enc prog W 0 (λ_=>true) true Tryz.f7.params.toList args.toList E p:=m;have r:=o;rw[Tryz.params7] at o a;obtain⟨v0,I,L,M,p0,q0,s,rfl,rfl,N,r0⟩:=cM o;obtain⟨u,P,d1,R,p1,q1,rfl,rfl,rfl,h1,r1⟩:=cM r0;obtain⟨v2,T,d2,V,p2,q2,rfl,rfl,rfl,h2,r2⟩:=cM r1;obtain⟨v3,Y,d3,Z,p3,q3,rfl,rfl,rfl,h3,r3⟩:=cM r2;obtain⟨rfl,rfl,rfl⟩:=jU r3;obtain rfl:args=#[v0,u,v2,v3]:=by cases args;simp_all
 obtain⟨rfl,rfl⟩:=kc F;rw[MakeChecks.laidMetH_plain _ _ _ (by kernel_rfl)] at l;have y:=λx hx=>g.lt x (gP _ hx)
 refine(d H enc W base v0 u v2 v3 L d1 d2 d3 _ _ _ _ (⟨qF l f (by simp[Rows.watchBreakRow]) (by simp[Rows.watchBreakRow]),zhK l f (by simp[Rows.watchBreakRow]) (by simp[Rows.watchBreakRow]),λn hn=>by have:=bW.1 k n (DataW.weights_mem_each (j:=0) U U n hn);simpa using this⟩) (a 0 _ v0 U U) N (a 1 _ u U U) h1 (a 2 _ v2 U U) h2 (a 3 _ v3 U U) h3).mono λe W' ⟨he,hb⟩=>?_
 subst he;exact⟨_,U,_,_,_,[],_,[],g,kW (l7 underlying4 _),zbr (by kernel_rfl) hb (by kernel_rfl) r y,U,hb.frame _,λh=>by cases h⟩
theorem bj{a b:Bool}(c:a=true)(hb:b=true):(a && b)=true:=by rw[c,hb];rfl
theorem ziR:(Rows.watchBreakRow.wf (OpenSpec.ofChange Rows.watchBreakSpec))=true:=by kernel_rfl
theorem ziS:(laidOutB prog)=true:=by kernel_rfl
theorem ziT:(mapsRowed prog)=true:=by kernel_rfl
theorem ziU:(Tryz.f7.params.all (Tryz.prog.readableRec ·))=true:=by kernel_rfl
theorem ziV:(namedTie prog Rows.watchBreakRow.named Rows.watchBreakSpec.vars)=true:=by kernel_rfl
theorem ziW:((Rows.watchBreakRow.stops == []))=true:=by kernel_rfl
theorem ziX:((Tryz.prog.stops == []))=true:=by kernel_rfl
theorem ziY:((Rows.watchBreakRow.knobs == []))=true:=by kernel_rfl
theorem ziZ:((Tryz.prog.stopKnobs == []))=true:=by kernel_rfl
theorem zi0:((Rows.watchBreakRow.inPlace == Tryz.prog.inPlace 7))=true:=by kernel_rfl
theorem zgx:((Rows.watchBreakRow.unfollowed == Tryz.prog.unfollowed 7))=true:=by kernel_rfl
theorem zgy:((Rows.watchBreakRow.recurses == Tryz.prog.recurses 7))=true:=by kernel_rfl
theorem zgz:((Rows.watchBreakRow.named == Tryz.prog.varsNamed 7))=true:=by kernel_rfl
theorem zgA:((Rows.watchBreakRow.maps == (Tryz.f7.params.toList++Rows.watchBreakSpec.plain.varTypes prog).any (Tryz.prog.mapsRec ·)))=true:=by kernel_rfl
theorem zgB:((Rows.watchBreakRow.ifaces == (Tryz.f7.params.toList++Rows.watchBreakSpec.plain.varTypes prog).any (Tryz.prog.ifacesRec ·)))=true:=by kernel_rfl
theorem zgC:((Rows.watchBreakRow.mapsOut == Tryz.prog.mapsAmong Tryz.f7.resultTypes.toList))=true:=by kernel_rfl
theorem zgD:((Rows.watchBreakRow.loops == (Tryz.f7.params.toList++Rows.watchBreakSpec.plain.varTypes prog).any (Tryz.prog.loopsFrom ·)))=true:=by kernel_rfl
theorem zgE:((Rows.watchBreakRow.wideKeys == (Tryz.f7.params.toList++Rows.watchBreakSpec.plain.varTypes prog++Tryz.f7.resultTypes.toList).any (Tryz.prog.wideKeysFrom ·)))=true:=by kernel_rfl
theorem zgF:(Rows.watchBreakSpec.vars.all (Tryz.prog.varReadable ·))=true:=by kernel_rfl
theorem zgG:(Tryz.f7.resultTypes.all (λt=>Tryz.prog.readableRec t && decide (t<Tryz.prog.types.size)))=true:=by kernel_rfl
theorem zgH:((Rows.watchBreakRow.ifacesOut == Tryz.f7.resultTypes.toList.any (Tryz.prog.ifacesRec ·)))=true:=by kernel_rfl
theorem zgI:((Rows.watchBreakRow.loopsOut == Tryz.f7.resultTypes.toList.any (Tryz.prog.loopsFrom ·)))=true:=by kernel_rfl
theorem zgJ:((Rows.watchBreakRow.plainKeys == Tryz.prog.plainKeys))=true:=by kernel_rfl
theorem zgK:(Rows.watchBreakRow.shortTexts.isNone)=true:=by kernel_rfl
theorem zgL:(Tryz.prog.stopsHeard)=true:=by kernel_rfl
theorem zgM:(Tryz.prog.mayEnter)=true:=by kernel_rfl
theorem zgN:((Rows.watchBreakRow.lifted == Tryz.prog.liftsFinal))=true:=by kernel_rfl
theorem zgO:((Tryz.prog.make == some Rows.watchBreakRow.make))=true:=by kernel_rfl
theorem zgP:((Rows.watchBreakRow.kinds == (if Rows.watchBreakRow.domain.isEmpty then [] else Tryz.f7.params.toList.map λt=>match Tryz.prog.underlying t with|some (.int k)=>some k|_=>none)))=true:=by kernel_rfl
theorem zgQ:((Rows.watchBreakRow.pinned == Rows.watchBreakRow.pinnedBy))=true:=by kernel_rfl
theorem zgR:((Rows.watchBreakRow.veiled == (Tryz.f7.params.toList++Rows.watchBreakSpec.plain.varTypes prog++Tryz.f7.resultTypes.toList).any (Tryz.prog.veiledRec ·)))=true:=by kernel_rfl
theorem zgS:(Rows.watchBreakRow.veiledFits prog Tryz.f7.params.toList (Tryz.f7.params.toList++Rows.watchBreakSpec.plain.varTypes prog++Tryz.f7.resultTypes.toList))=true:=by kernel_rfl
theorem ze4:joinedFacts prog 7 Tryz.f7 Rows.watchBreakSpec Rows.watchBreakRow=true:=bj (bj (bj (bj (bj (bj (bj (bj (bj (bj (bj (bj (bj (bj (bj (bj (bj (bj (bj (bj (bj (bj (bj (bj (bj (bj (bj (bj (bj (bj (bj (ziR) ziS) ziT) ziU) ziV) ziW) ziX) ziY) ziZ) zi0) zgx) zgy) zgz) zgA) zgB) zgC) zgD) zgE) zgF) zgG) zgH) zgI) zgJ) zgK) zgL) zgM) zgN) zgO) zgP) zgQ) zgR) zgS
theorem zgT(b:gh):Rows.WatchBreakSaid :=
 fY 7 Tryz.f7 rfl rfl rfl rfl rfl rfl rfl ⟨U,U,U,U,U⟩ rfl rfl rfl rfl rfl (by kernel_rfl) func7 ze4
  (cF (by kernel_rfl)) (by unfold Func.isWrapper;first|(rw[Q (by decide +kernel)];kernel_rfl)|(rw[G (by decide +kernel)];exact⟨U,U⟩))
  (λos a H enc _=>zeN b os a H enc)
theorem zi1:Rows.watchBreakRow.wfByText (OpenSpec.ofChange Rows.watchBreakSpec)=true:=by kernel_rfl
theorem zi2:Tryz.pinned.checked.prog.mainIs=some (Rows.watchBreakCard.stood.harness.1,Rows.watchBreakCard.stood.harness.2.toList):=by kernel_rfl
theorem zi3:(!Rows.watchBreakCard.stood.harness.1 && Rows.watchBreakCard.stood.harness.2.isEmpty && !Rows.watchBreakCard.stood.looks)=false:=by kernel_rfl
theorem zi4:Tryz.pinned.checked.prog.funcNamed Rows.watchBreakRow.func=some 7:=by kernel_rfl
theorem zi5:Rows.watchBreakCard.stood.looks=Tryz.pinned.checked.prog.looks []:=by kernel_rfl
theorem zi6:(Tryz.f7.params.toList.all λt=>!(Tryz.pinned.checked.prog.wantsStandIn t))=true:=by kernel_rfl
theorem zi7:false=Rows.watchBreakRow.goesBy Tryz.pinned.checked.prog:=by kernel_rfl
theorem zge(a:gh):Rows.WatchBreakCardSaid :=
 Claim7.holds_tied_plain_at .later [] Rows.watchBreakCard.laidKinds true Rows.watchBreakCard.stood.harness Rows.watchBreakCard.stood.looks (zgT a) (λ_ h=>by cases h) zi1 (λ_ h=>by cases h) watchBreak_row_tie U ⟨U,U⟩ zi2 zi3
  (λf c d b=>by
    obtain rfl:7=f:=aH (zi4.symm.trans d);obtain rfl:Tryz.f7=c:=aH (Tryz.func7.symm.trans b);exact⟨zi5,λj t e=>by
     have g:t∈Tryz.f7.params.toList:=bh (i:=j) (by rw[dM];exact e);have:=bW.1 zi6 t g;exact iQ _ ▸ this⟩)
  zi7
end Go.Proofs.YthghjlinhokimaaGreatDoor
