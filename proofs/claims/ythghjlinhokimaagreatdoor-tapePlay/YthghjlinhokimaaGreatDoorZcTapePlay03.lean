/-
  Parts of a proof, joined.
-/
import Derived.Test.YthghjlinhokimaaGreatDoorZcA
import Derived.Test.YthghjlinhokimaaGreatDoorZcTapePlay02
import Derived.Test.YthghjlinhokimaaGreatDoorCards
import Derived.Test.YthghjlinhokimaaGreatDoorTie
set_option linter.all false
set_option maxRecDepth 100000
namespace Go.Proofs.YthghjlinhokimaaGreatDoor
open Go.ChangeShapes Go.WideShapes Go.ChangeAt Go.RowKit Go.Proofs.Tryz
def il:Prop:=∀(H:Type) (enc:TypeId × Value->H) (W:World) (base:Nat) (v0 a v2 v3 v4:Value) (b d1 d2 d3 d4:DataW H) (p0 p1 p2 p3 c:List MemPlace),Tp.F W/\Facts W ->
 Value.okWide prog W .any base (Tryz.f5.params.getD 0 0) v0->DataW.Trod enc prog W 0 (λ_=>true) true (Tryz.f5.params.getD 0 0) v0 b p0->Value.okWide prog W .any base (Tryz.f5.params.getD 1 0) a->DataW.Trod enc prog W 0 (λ_=>true) true (Tryz.f5.params.getD 1 0) a d1 p1->Value.okWide prog W .any base (Tryz.f5.params.getD 2 0) v2->DataW.Trod enc prog W 0 (λ_=>true) true (Tryz.f5.params.getD 2 0) v2 d2 p2->Value.okWide prog W .any base (Tryz.f5.params.getD 3 0) v3->DataW.Trod enc prog W 0 (λ_=>true) true (Tryz.f5.params.getD 3 0) v3 d3 p3->Value.okWide prog W .any base (Tryz.f5.params.getD 4 0) v4->DataW.Trod enc prog W 0 (λ_=>true) true (Tryz.f5.params.getD 4 0) v4 d4 c ->
 Calls prog 5 #[v0,a,v2,v3,v4] W λe w'=>e=.returned (.bool true)/\Below W.heap.size W w'
theorem zf0(d:il)(os:Os)(b:os.Started)(H:Type)(enc:TypeId × Value->H):ReturnsInHanded {} Tryz.checked os 5 .any (λw args=>(Rows.tapePlaySpec.pre enc prog Tryz.f5 [] false w args/\laidMetH prog Rows.tapePlayRow.laid w)/\sizedMet enc prog Tryz.f5 (OpenSpec.ofChange Rows.tapePlaySpec) false w args)
  (Rows.tapePlaySpec.post enc prog Tryz.f5 false true false false):=by
 refine zc0 (C:=Tryz.checked) (X:=λw _=>laidMetH prog Rows.tapePlayRow.laid w) (λ_ _ _ y h=>h.of_heap y) own b (by kernel_rfl) func5
  (ChangeSpec.witness_shaped (enc:=enc) (C:=Tryz.checked) (os:=os) (X:=λw _=>laidMetH prog Rows.tapePlayRow.laid w) false (World.laidAll prog os Rows.tapePlayRow.laid) #[.slice none 0 0,.slice none 0 0,.slice none 0 0,.int .i64 0,.int .i64 0] 8 (World.laidAll_os _ _ _)
    (World.shaped_of_ZipB (by kernel_rfl) (by kernel_rfl)) (by kernel_rfl) (by kernel_rfl) (by kernel_rfl)
    (by rw[MakeChecks.laidMetH_plain _ _ _ (by kernel_rfl)];exact laidMet_laidAll _ (by kernel_rfl) (by kernel_rfl))) ?_
 intro W base args z gs i c u _ B k f _;have a:∀(j:Nat) t v,Tryz.f5.params[j]?=some t->args[j]?=some v->Value.okWide prog W .any base t v:=c;have g:=u;obtain⟨p,q,l,E,rfl,_,_⟩:=u;have m:DataW.TrodAll enc prog W 0 (λ_=>true) true Tryz.f5.params.toList args.toList z p:=l;have n:=m;rw[Tryz.params5] at m a;obtain⟨v0,F,I,L,p0,q0,o,rfl,rfl,M,r0⟩:=cM m;obtain⟨r,N,d1,P,p1,q1,rfl,rfl,rfl,h1,r1⟩:=cM r0;obtain⟨v2,R,d2,T,p2,q2,rfl,rfl,rfl,h2,r2⟩:=cM r1;obtain⟨v3,V,d3,Y,p3,q3,rfl,rfl,rfl,h3,r3⟩:=cM r2;obtain⟨v4,Z,d4,ds4,p4,q4,rfl,rfl,rfl,h4,r4⟩:=cM r3;obtain⟨rfl,rfl,rfl⟩:=jU r4;obtain rfl:args=#[v0,r,v2,v3,v4]:=by cases args;simp_all
 obtain⟨rfl,rfl⟩:=kc E;rw[MakeChecks.laidMetH_plain _ _ _ (by kernel_rfl)] at k;have s:=λx hx=>g.lt x (gP _ hx)
 refine(d H enc W base v0 r v2 v3 v4 I d1 d2 d3 d4 _ _ _ _ _ (⟨zwS k f (by simp[Rows.tapePlayRow]) (by simp[Rows.tapePlayRow]) (by simp[Rows.tapePlayRow]),zhK k f (by simp[Rows.tapePlayRow]) (by simp[Rows.tapePlayRow])⟩) (a 0 _ v0 U U) M (a 1 _ r U U) h1 (a 2 _ v2 U U) h2 (a 3 _ v3 U U) h3 (a 4 _ v4 U U) h4).mono λe W' ⟨he,hb⟩=>?_
 subst he;exact⟨_,U,_,_,_,[],_,[],g,kW (l7 underlying4 _),zbr (by kernel_rfl) hb (by kernel_rfl) n s,U,hb.frame _,λh=>by cases h⟩
theorem bj{a b:Bool}(c:a=true)(hb:b=true):(a && b)=true:=by rw[c,hb];rfl
theorem zmn:(Rows.tapePlayRow.wf (OpenSpec.ofChange Rows.tapePlaySpec))=true:=by kernel_rfl
theorem zmo:(laidOutB prog)=true:=by kernel_rfl
theorem zmp:(mapsRowed prog)=true:=by kernel_rfl
theorem zmq:(Tryz.f5.params.all (Tryz.prog.readableRec ·))=true:=by kernel_rfl
theorem zmr:(namedTie prog Rows.tapePlayRow.named Rows.tapePlaySpec.vars)=true:=by kernel_rfl
theorem zms:((Rows.tapePlayRow.stops == []))=true:=by kernel_rfl
theorem zmt:((Tryz.prog.stops == []))=true:=by kernel_rfl
theorem zmu:((Rows.tapePlayRow.knobs == []))=true:=by kernel_rfl
theorem zmv:((Tryz.prog.stopKnobs == []))=true:=by kernel_rfl
theorem zmw:((Rows.tapePlayRow.inPlace == Tryz.prog.inPlace 5))=true:=by kernel_rfl
theorem zke:((Rows.tapePlayRow.unfollowed == Tryz.prog.unfollowed 5))=true:=by kernel_rfl
theorem zkf:((Rows.tapePlayRow.recurses == Tryz.prog.recurses 5))=true:=by kernel_rfl
theorem zkg:((Rows.tapePlayRow.named == Tryz.prog.varsNamed 5))=true:=by kernel_rfl
theorem zkh:((Rows.tapePlayRow.maps == (Tryz.f5.params.toList++Rows.tapePlaySpec.plain.varTypes prog).any (Tryz.prog.mapsRec ·)))=true:=by kernel_rfl
theorem zki:((Rows.tapePlayRow.ifaces == (Tryz.f5.params.toList++Rows.tapePlaySpec.plain.varTypes prog).any (Tryz.prog.ifacesRec ·)))=true:=by kernel_rfl
theorem zkj:((Rows.tapePlayRow.mapsOut == Tryz.prog.mapsAmong Tryz.f5.resultTypes.toList))=true:=by kernel_rfl
theorem zkk:((Rows.tapePlayRow.loops == (Tryz.f5.params.toList++Rows.tapePlaySpec.plain.varTypes prog).any (Tryz.prog.loopsFrom ·)))=true:=by kernel_rfl
theorem zkl:((Rows.tapePlayRow.wideKeys == (Tryz.f5.params.toList++Rows.tapePlaySpec.plain.varTypes prog++Tryz.f5.resultTypes.toList).any (Tryz.prog.wideKeysFrom ·)))=true:=by kernel_rfl
theorem zkm:(Rows.tapePlaySpec.vars.all (Tryz.prog.varReadable ·))=true:=by kernel_rfl
theorem zkn:(Tryz.f5.resultTypes.all (λt=>Tryz.prog.readableRec t && decide (t<Tryz.prog.types.size)))=true:=by kernel_rfl
theorem zko:((Rows.tapePlayRow.ifacesOut == Tryz.f5.resultTypes.toList.any (Tryz.prog.ifacesRec ·)))=true:=by kernel_rfl
theorem zkp:((Rows.tapePlayRow.loopsOut == Tryz.f5.resultTypes.toList.any (Tryz.prog.loopsFrom ·)))=true:=by kernel_rfl
theorem zkq:((Rows.tapePlayRow.plainKeys == Tryz.prog.plainKeys))=true:=by kernel_rfl
theorem zkr:(Rows.tapePlayRow.shortTexts.isNone)=true:=by kernel_rfl
theorem zks:(Tryz.prog.stopsHeard)=true:=by kernel_rfl
theorem zkt:(Tryz.prog.mayEnter)=true:=by kernel_rfl
theorem zku:((Rows.tapePlayRow.lifted == Tryz.prog.liftsFinal))=true:=by kernel_rfl
theorem zkv:((Tryz.prog.make == some Rows.tapePlayRow.make))=true:=by kernel_rfl
theorem zkw:((Rows.tapePlayRow.kinds == (if Rows.tapePlayRow.domain.isEmpty then [] else Tryz.f5.params.toList.map λt=>match Tryz.prog.underlying t with|some (.int k)=>some k|_=>none)))=true:=by kernel_rfl
theorem zkx:((Rows.tapePlayRow.pinned == Rows.tapePlayRow.pinnedBy))=true:=by kernel_rfl
theorem zky:((Rows.tapePlayRow.veiled == (Tryz.f5.params.toList++Rows.tapePlaySpec.plain.varTypes prog++Tryz.f5.resultTypes.toList).any (Tryz.prog.veiledRec ·)))=true:=by kernel_rfl
theorem zkz:(Rows.tapePlayRow.veiledFits prog Tryz.f5.params.toList (Tryz.f5.params.toList++Rows.tapePlaySpec.plain.varTypes prog++Tryz.f5.resultTypes.toList))=true:=by kernel_rfl
theorem zgv:joinedFacts prog 5 Tryz.f5 Rows.tapePlaySpec Rows.tapePlayRow=true:=bj (bj (bj (bj (bj (bj (bj (bj (bj (bj (bj (bj (bj (bj (bj (bj (bj (bj (bj (bj (bj (bj (bj (bj (bj (bj (bj (bj (bj (bj (bj (zmn) zmo) zmp) zmq) zmr) zms) zmt) zmu) zmv) zmw) zke) zkf) zkg) zkh) zki) zkj) zkk) zkl) zkm) zkn) zko) zkp) zkq) zkr) zks) zkt) zku) zkv) zkw) zkx) zky) zkz
theorem zkA(b:il):Rows.TapePlaySaid :=
 fY 5 Tryz.f5 rfl rfl rfl rfl rfl rfl rfl ⟨U,U,U,U,U⟩ rfl rfl rfl rfl rfl (by kernel_rfl) func5 zgv
  (cF (by kernel_rfl)) (by unfold Func.isWrapper;first|(rw[Q (by decide +kernel)];kernel_rfl)|(rw[G (by decide +kernel)];exact⟨U,U⟩))
  (λos a H enc _=>zf0 b os a H enc)
theorem zmx:Rows.tapePlayRow.wfByText (OpenSpec.ofChange Rows.tapePlaySpec)=true:=by kernel_rfl
theorem zmy:Tryz.pinned.checked.prog.mainIs=some (Rows.tapePlayCard.stood.harness.1,Rows.tapePlayCard.stood.harness.2.toList):=by kernel_rfl
theorem zmz:(!Rows.tapePlayCard.stood.harness.1 && Rows.tapePlayCard.stood.harness.2.isEmpty && !Rows.tapePlayCard.stood.looks)=false:=by kernel_rfl
theorem zmA:Tryz.pinned.checked.prog.funcNamed Rows.tapePlayRow.func=some 5:=by kernel_rfl
theorem zmB:Rows.tapePlayCard.stood.looks=Tryz.pinned.checked.prog.looks []:=by kernel_rfl
theorem zmC:(Tryz.f5.params.toList.all λt=>!(Tryz.pinned.checked.prog.wantsStandIn t))=true:=by kernel_rfl
theorem zmD:false=Rows.tapePlayRow.goesBy Tryz.pinned.checked.prog:=by kernel_rfl
theorem ziO(a:il):Rows.TapePlayCardSaid :=
 Claim7.holds_tied_plain_at .later [] Rows.tapePlayCard.laidKinds true Rows.tapePlayCard.stood.harness Rows.tapePlayCard.stood.looks (zkA a) (λ_ h=>by cases h) zmx (λ_ h=>by cases h) tapePlay_row_tie U ⟨U,U⟩ zmy zmz
  (λf c d b=>by
    obtain rfl:5=f:=aH (zmA.symm.trans d);obtain rfl:Tryz.f5=c:=aH (Tryz.func5.symm.trans b);exact⟨zmB,λj t e=>by
     have g:t∈Tryz.f5.params.toList:=bh (i:=j) (by rw[dM];exact e);have:=bW.1 zmC t g;exact iQ _ ▸ this⟩)
  zmD
end Go.Proofs.YthghjlinhokimaaGreatDoor
