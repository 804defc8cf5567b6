/-
  Parts of a proof, joined.
-/
import Derived.Test.YthghjlinhokimaaGreatDoorZcA
import Derived.Test.YthghjlinhokimaaGreatDoorZcLockRun03
import Derived.Test.YthghjlinhokimaaGreatDoorCards
import Derived.Test.YthghjlinhokimaaGreatDoorTie
set_option linter.all false
set_option maxRecDepth 100000
namespace Go.Proofs.YthghjlinhokimaaGreatDoor
open Go.ChangeShapes Go.WideShapes Go.ChangeAt Go.RowKit Go.Proofs.Tryz
def iP:Prop:=∀(H:Type) (enc:TypeId × Value->H) (W:World) (base:Nat) (v0 a v2:Value) (b d1 d2:DataW H) (p0 p1 p2:List MemPlace),(AF W/\Facts W /\ ∀ n∈b.weights prog 41,n<=reachBytes) ->
 Value.okWide prog W .any base (Tryz.f3.params.getD 0 0) v0->DataW.Trod enc prog W 0 (λ_=>true) true (Tryz.f3.params.getD 0 0) v0 b p0->Value.okWide prog W .any base (Tryz.f3.params.getD 1 0) a->DataW.Trod enc prog W 0 (λ_=>true) true (Tryz.f3.params.getD 1 0) a d1 p1->Value.okWide prog W .any base (Tryz.f3.params.getD 2 0) v2->DataW.Trod enc prog W 0 (λ_=>true) true (Tryz.f3.params.getD 2 0) v2 d2 p2 ->
 Calls prog 3 #[v0,a,v2] W λe w'=>e=.returned (.bool true)/\Below W.heap.size W w'
theorem zgo(d:iP)(os:Os)(b:os.Started)(H:Type)(enc:TypeId × Value->H):ReturnsInHanded {} Tryz.checked os 3 .any (λw args=>(Rows.lockRunSpec.pre enc prog Tryz.f3 [] false w args/\laidMetH prog Rows.lockRunRow.laid w)/\sizedMet enc prog Tryz.f3 (OpenSpec.ofChange Rows.lockRunSpec) false w args)
  (Rows.lockRunSpec.post enc prog Tryz.f3 false true false false):=by
 refine zb7 (C:=Tryz.checked) (X:=λw _=>laidMetH prog Rows.lockRunRow.laid w) (λ_ _ _ B h=>h.of_heap B) own b (by kernel_rfl) func3
  (ChangeSpec.witness_shaped (enc:=enc) (C:=Tryz.checked) (os:=os) (X:=λw _=>laidMetH prog Rows.lockRunRow.laid w) false (World.laidAll prog os Rows.lockRunRow.laid) #[.agg #[.int .u16 0,.int .u16 0,.int .u16 0,.int .u16 0,.int .u16 0,.int .u16 0,.int .u16 0,.int .u16 0,.int .u16 0,.bool false,.bool false,.bool false,.bool false,.bool false,.bool false,.int .u16 0,.int .u16 0,.int .u16 0,.int .u16 0,.int .u16 0,.int .u16 0,.int .u16 0,.int .u16 0,.int .u16 0,.bool false,.bool false,.bool false,.bool false,.bool false,.bool false,.slice none 0 0,.slice none 0 0,.slice none 0 0,.slice none 0 0,.slice none 0 0,.int .u8 0,.bool false,.int .u8 0,.int .u8 0,.bool false,.int .u8 0,.int .u16 0,.int .u16 0,.bool false,.bool false,.int .u16 0,.int .u16 0,.int .u8 0,.bool false,.int .u16 0,.int .u16 0,.int .u16 0,.int .u8 0,.bool false,.int .u16 0,.int .u16 0,.int .u16 0,.int .u8 0,.bool false,.int .u16 0,.int .i64 0,.int .i64 0,.int .i64 0,.bool false,.int .i64 0,.int .u16 0,.int .u16 0,.bool false,.bool false,.int .u8 0,.int .u8 0,.bool false,.int .i64 0,.int .i64 0,.int .i64 0],.slice none 0 0,.int .i64 0] 8 (World.laidAll_os _ _ _)
    (World.shaped_of_ZipB (by kernel_rfl) (by kernel_rfl)) (by kernel_rfl) (by kernel_rfl) (by kernel_rfl)
    (by rw[MakeChecks.laidMetH_plain _ _ _ (by kernel_rfl)];exact laidMet_laidAll _ (by kernel_rfl) (by kernel_rfl))) ?_
 intro W base args E gs i c z _ k l f _;have a:∀(j:Nat) t v,Tryz.f3.params[j]?=some t->args[j]?=some v->Value.okWide prog W .any base t v:=c;have g:=z;obtain⟨p,q,m,F,rfl,_,_⟩:=z;have o:DataW.TrodAll enc prog W 0 (λ_=>true) true Tryz.f3.params.toList args.toList E p:=m;have r:=o;rw[Tryz.params3] at o a;obtain⟨v0,I,L,M,p0,q0,s,rfl,rfl,N,r0⟩:=cM o;obtain⟨u,P,d1,R,p1,q1,rfl,rfl,rfl,h1,r1⟩:=cM r0;obtain⟨v2,T,d2,V,p2,q2,rfl,rfl,rfl,h2,r2⟩:=cM r1;obtain⟨rfl,rfl,rfl⟩:=jU r2;obtain rfl:args=#[v0,u,v2]:=by cases args;simp_all
 obtain⟨rfl,rfl⟩:=kc F;rw[MakeChecks.laidMetH_plain _ _ _ (by kernel_rfl)] at l;have y:=λx Y=>g.lt x (gP _ Y)
 refine(d H enc W base v0 u v2 L d1 d2 _ _ _ (⟨qF l f (by simp[Rows.lockRunRow]) (by simp[Rows.lockRunRow]),zhK l f (by simp[Rows.lockRunRow]) (by simp[Rows.lockRunRow]),λn Z=>by have:=bW.1 k n (DataW.weights_mem_each (j:=0) U U n Z);simpa using this⟩) (a 0 _ v0 U U) N (a 1 _ u U U) h1 (a 2 _ v2 U U) h2).mono λe W' ⟨he,hb⟩=>?_
 subst he;exact⟨_,U,_,_,_,[],_,[],g,kW (l7 underlying4 _),zbr (by kernel_rfl) hb (by kernel_rfl) r y,U,hb.frame _,λh=>by cases h⟩
theorem bj{a b:Bool}(c:a=true)(hb:b=true):(a && b)=true:=by rw[c,hb];rfl
theorem zn9:(Rows.lockRunRow.wf (OpenSpec.ofChange Rows.lockRunSpec))=true:=by kernel_rfl
theorem zoa:(laidOutB prog)=true:=by kernel_rfl
theorem zob:(mapsRowed prog)=true:=by kernel_rfl
theorem zoc:(Tryz.f3.params.all (Tryz.prog.readableRec ·))=true:=by kernel_rfl
theorem zod:(namedTie prog Rows.lockRunRow.named Rows.lockRunSpec.vars)=true:=by kernel_rfl
theorem zoe:((Rows.lockRunRow.stops == []))=true:=by kernel_rfl
theorem zof:((Tryz.prog.stops == []))=true:=by kernel_rfl
theorem zog:((Rows.lockRunRow.knobs == []))=true:=by kernel_rfl
theorem zoh:((Tryz.prog.stopKnobs == []))=true:=by kernel_rfl
theorem zoi:((Rows.lockRunRow.inPlace == Tryz.prog.inPlace 3))=true:=by kernel_rfl
theorem zlg:((Rows.lockRunRow.unfollowed == Tryz.prog.unfollowed 3))=true:=by kernel_rfl
theorem zlh:((Rows.lockRunRow.recurses == Tryz.prog.recurses 3))=true:=by kernel_rfl
theorem zli:((Rows.lockRunRow.named == Tryz.prog.varsNamed 3))=true:=by kernel_rfl
theorem zlj:((Rows.lockRunRow.maps == (Tryz.f3.params.toList++Rows.lockRunSpec.plain.varTypes prog).any (Tryz.prog.mapsRec ·)))=true:=by kernel_rfl
theorem zlk:((Rows.lockRunRow.ifaces == (Tryz.f3.params.toList++Rows.lockRunSpec.plain.varTypes prog).any (Tryz.prog.ifacesRec ·)))=true:=by kernel_rfl
theorem zll:((Rows.lockRunRow.mapsOut == Tryz.prog.mapsAmong Tryz.f3.resultTypes.toList))=true:=by kernel_rfl
theorem zlm:((Rows.lockRunRow.loops == (Tryz.f3.params.toList++Rows.lockRunSpec.plain.varTypes prog).any (Tryz.prog.loopsFrom ·)))=true:=by kernel_rfl
theorem zln:((Rows.lockRunRow.wideKeys == (Tryz.f3.params.toList++Rows.lockRunSpec.plain.varTypes prog++Tryz.f3.resultTypes.toList).any (Tryz.prog.wideKeysFrom ·)))=true:=by kernel_rfl
theorem zlo:(Rows.lockRunSpec.vars.all (Tryz.prog.varReadable ·))=true:=by kernel_rfl
theorem zlp:(Tryz.f3.resultTypes.all (λt=>Tryz.prog.readableRec t && decide (t<Tryz.prog.types.size)))=true:=by kernel_rfl
theorem zlq:((Rows.lockRunRow.ifacesOut == Tryz.f3.resultTypes.toList.any (Tryz.prog.ifacesRec ·)))=true:=by kernel_rfl
theorem zlr:((Rows.lockRunRow.loopsOut == Tryz.f3.resultTypes.toList.any (Tryz.prog.loopsFrom ·)))=true:=by kernel_rfl
theorem zls:((Rows.lockRunRow.plainKeys == Tryz.prog.plainKeys))=true:=by kernel_rfl
theorem zlt:(Rows.lockRunRow.shortTexts.isNone)=true:=by kernel_rfl
theorem zlu:(Tryz.prog.stopsHeard)=true:=by kernel_rfl
theorem zlv:(Tryz.prog.mayEnter)=true:=by kernel_rfl
theorem zlw:((Rows.lockRunRow.lifted == Tryz.prog.liftsFinal))=true:=by kernel_rfl
theorem zlx:((Tryz.prog.make == some Rows.lockRunRow.make))=true:=by kernel_rfl
theorem zly:((Rows.lockRunRow.kinds == (if Rows.lockRunRow.domain.isEmpty then [] else Tryz.f3.params.toList.map λt=>match Tryz.prog.underlying t with|some (.int k)=>some k|_=>none)))=true:=by kernel_rfl
theorem zlz:((Rows.lockRunRow.pinned == Rows.lockRunRow.pinnedBy))=true:=by kernel_rfl
theorem zlA:((Rows.lockRunRow.veiled == (Tryz.f3.params.toList++Rows.lockRunSpec.plain.varTypes prog++Tryz.f3.resultTypes.toList).any (Tryz.prog.veiledRec ·)))=true:=by kernel_rfl
theorem zlB:(Rows.lockRunRow.veiledFits prog Tryz.f3.params.toList (Tryz.f3.params.toList++Rows.lockRunSpec.plain.varTypes prog++Tryz.f3.resultTypes.toList))=true:=by kernel_rfl
theorem zh4:joinedFacts prog 3 Tryz.f3 Rows.lockRunSpec Rows.lockRunRow=true:=bj (bj (bj (bj (bj (bj (bj (bj (bj (bj (bj (bj (bj (bj (bj (bj (bj (bj (bj (bj (bj (bj (bj (bj (bj (bj (bj (bj (bj (bj (bj (zn9) zoa) zob) zoc) zod) zoe) zof) zog) zoh) zoi) zlg) zlh) zli) zlj) zlk) zll) zlm) zln) zlo) zlp) zlq) zlr) zls) zlt) zlu) zlv) zlw) zlx) zly) zlz) zlA) zlB
theorem zlC(b:iP):Rows.LockRunSaid :=
 fY 3 Tryz.f3 rfl rfl rfl rfl rfl rfl rfl ⟨U,U,U,U,U⟩ rfl rfl rfl rfl rfl (by kernel_rfl) func3 zh4
  (cF (by kernel_rfl)) (by unfold Func.isWrapper;first|(rw[Q (by decide +kernel)];kernel_rfl)|(rw[G (by decide +kernel)];exact⟨U,U⟩))
  (λos a H enc _=>zgo b os a H enc)
theorem zoj:Rows.lockRunRow.wfByText (OpenSpec.ofChange Rows.lockRunSpec)=true:=by kernel_rfl
theorem zol:Tryz.pinned.checked.prog.mainIs=some (Rows.lockRunCard.stood.harness.1,Rows.lockRunCard.stood.harness.2.toList):=by kernel_rfl
theorem zom:(!Rows.lockRunCard.stood.harness.1 && Rows.lockRunCard.stood.harness.2.isEmpty && !Rows.lockRunCard.stood.looks)=false:=by kernel_rfl
theorem zon:Tryz.pinned.checked.prog.funcNamed Rows.lockRunRow.func=some 3:=by kernel_rfl
theorem zoo:Rows.lockRunCard.stood.looks=Tryz.pinned.checked.prog.looks []:=by kernel_rfl
theorem zop:(Tryz.f3.params.toList.all λt=>!(Tryz.pinned.checked.prog.wantsStandIn t))=true:=by kernel_rfl
theorem zoq:false=Rows.lockRunRow.goesBy Tryz.pinned.checked.prog:=by kernel_rfl
theorem zjv(a:iP):Rows.LockRunCardSaid :=
 Claim7.holds_tied_plain_at .later [] Rows.lockRunCard.laidKinds true Rows.lockRunCard.stood.harness Rows.lockRunCard.stood.looks (zlC a) (λ_ h=>by cases h) zoj (λ_ h=>by cases h) lockRun_row_tie U ⟨U,U⟩ zol zom
  (λf c d b=>by
    obtain rfl:3=f:=aH (zon.symm.trans d);obtain rfl:Tryz.f3=c:=aH (Tryz.func3.symm.trans b);exact⟨zoo,λj t e=>by
     have g:t∈Tryz.f3.params.toList:=bh (i:=j) (by rw[dM];exact e);have:=bW.1 zop t g;exact iQ _ ▸ this⟩)
  zoq
end Go.Proofs.YthghjlinhokimaaGreatDoor
