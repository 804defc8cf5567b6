/-
  Parts of a proof, joined.
-/
import Derived.Test.YthghjlinhokimaaGreatDoorZbA
import Derived.Test.YthghjlinhokimaaGreatDoorZbTapePlay02
import Derived.Test.YthghjlinhokimaaGreatDoorCards
import Derived.Test.YthghjlinhokimaaGreatDoorTie
set_option linter.all false
set_option maxRecDepth 100000
open Option renaming some->A
open Bool renaming false->ξ,true->Γ
open Go.Proofs.Tryz renaming prog->ω
open Go.Act renaming put->ag
open Go.OpenSpec renaming ofChange->bQ
open Go.Value renaming okWide->bU,int->J,slice->κ
open Go.DataW renaming Trod->dm
namespace Go.Proofs.YthghjlinhokimaaGreatDoor
open Go.ChangeShapes Go.WideShapes Go.ChangeAt Go.RowKit Go.Proofs.Tryz
def kR:Prop:=∀(H:Type) (enc:TypeId × Value->H) (W:World) (base:Nat) (v0 a v2 v3 v4:Value) (b d1 d2 d3 d4:DataW H) (p0 p1 p2 p3 c:List MemPlace),Tp.F W/\Facts W ->
 bU ω W .any base (Tryz.f5.params.getD 0 0) v0->dm enc ω W 0 (λ_=>Γ) Γ (Tryz.f5.params.getD 0 0) v0 b p0->bU ω W .any base (Tryz.f5.params.getD 1 0) a->dm enc ω W 0 (λ_=>Γ) Γ (Tryz.f5.params.getD 1 0) a d1 p1->bU ω W .any base (Tryz.f5.params.getD 2 0) v2->dm enc ω W 0 (λ_=>Γ) Γ (Tryz.f5.params.getD 2 0) v2 d2 p2->bU ω W .any base (Tryz.f5.params.getD 3 0) v3->dm enc ω W 0 (λ_=>Γ) Γ (Tryz.f5.params.getD 3 0) v3 d3 p3->bU ω W .any base (Tryz.f5.params.getD 4 0) v4->dm enc ω W 0 (λ_=>Γ) Γ (Tryz.f5.params.getD 4 0) v4 d4 c ->
 Calls ω 5 #[v0,a,v2,v3,v4] W λe w'=>e=.returned (.bool Γ)/\Below W.heap.size W w'
theorem zgG(d:kR)(os:Os)(b:os.Started)(H:Type)(enc:TypeId × Value->H):ReturnsInHanded {} Tryz.checked os 5 .any (λw args=>(Rows.tapePlaySpec.pre enc ω Tryz.f5 [] ξ w args/\laidMetH ω Rows.tapePlayRow.laid w)/\sizedMet enc ω Tryz.f5 (bQ Rows.tapePlaySpec) ξ w args)
  (Rows.tapePlaySpec.post enc ω Tryz.f5 ξ Γ ξ ξ):=by
 refine zdo (C:=Tryz.checked) (X:=λw _=>laidMetH ω Rows.tapePlayRow.laid w) (λ_ _ _ z h=>h.of_heap z) own b (by kernel_rfl) func5
  (ChangeSpec.witness_shaped (enc:=enc) (C:=Tryz.checked) (os:=os) (X:=λw _=>laidMetH ω Rows.tapePlayRow.laid w) ξ (World.laidAll ω os Rows.tapePlayRow.laid) #[κ none 0 0,κ none 0 0,κ none 0 0,J .i64 0,J .i64 0] 8 (World.laidAll_os _ _ _)
    (World.shaped_of_ZipB (by kernel_rfl) (by kernel_rfl)) (by kernel_rfl) (by kernel_rfl) (by kernel_rfl)
    (by rw[MakeChecks.laidMetH_plain _ _ _ (by kernel_rfl)];exact laidMet_laidAll _ (by kernel_rfl) (by kernel_rfl))) ?_
 intro W base args B gs i c y _ E k f _;have a:∀(j:Nat) t v,Tryz.f5.params[j]?=A t->args[j]?=A v->bU ω W .any base t v:=c;have g:=y;obtain⟨p,q,l,F,rfl,_,_⟩:=y;have m:DataW.TrodAll enc ω W 0 (λ_=>Γ) Γ Tryz.f5.params.toList args.toList B p:=l;have n:=m;rw[Tryz.params5] at m a;obtain⟨v0,I,L,M,p0,q0,o,rfl,rfl,N,r0⟩:=cR m;obtain⟨r,P,d1,R,p1,q1,rfl,rfl,rfl,h1,r1⟩:=cR r0;obtain⟨v2,T,d2,U,p2,q2,rfl,rfl,rfl,h2,r2⟩:=cR r1;obtain⟨v3,V,d3,Z,p3,q3,rfl,rfl,rfl,h3,r3⟩:=cR r2;obtain⟨v4,vs4,d4,ds4,p4,q4,rfl,rfl,rfl,h4,r4⟩:=cR r3;obtain⟨rfl,rfl,rfl⟩:=kx r4;obtain rfl:args=#[v0,r,v2,v3,v4]:=by cases args;simp_all
 obtain⟨rfl,rfl⟩:=kl F;rw[MakeChecks.laidMetH_plain _ _ _ (by kernel_rfl)] at k;have s:=λx hx=>g.lt x (gZ _ hx)
 refine(d H enc W base v0 r v2 v3 v4 L d1 d2 d3 d4 _ _ _ _ _ (⟨zzO k f (by simp[Rows.tapePlayRow]) (by simp[Rows.tapePlayRow]) (by simp[Rows.tapePlayRow]),Ag k f (by simp[Rows.tapePlayRow]) (by simp[Rows.tapePlayRow])⟩) (a 0 _ v0 D D) N (a 1 _ r D D) h1 (a 2 _ v2 D D) h2 (a 3 _ v3 D D) h3 (a 4 _ v4 D D) h4).mono λe W' ⟨he,hb⟩=>?_
 subst he;exact⟨_,D,_,_,_,[],_,[],g,lM (nM underlying4 _),Af (by kernel_rfl) hb (by kernel_rfl) n s,D,hb.frame _,λh=>by cases h⟩
theorem aW{a b:Bool}(c:a=Γ)(hb:b=Γ):(a && b)=Γ:=by rw[c,hb];rfl
theorem zoy:(Rows.tapePlayRow.wf (bQ Rows.tapePlaySpec))=Γ:=by kernel_rfl
theorem zoz:(laidOutB ω)=Γ:=by kernel_rfl
theorem zoA:(mapsRowed ω)=Γ:=by kernel_rfl
theorem zoB:(Tryz.f5.params.all (Tryz.prog.readableRec ·))=Γ:=by kernel_rfl
theorem zoC:(namedTie ω Rows.tapePlayRow.named Rows.tapePlaySpec.vars)=Γ:=by kernel_rfl
theorem zoD:((Rows.tapePlayRow.stops == []))=Γ:=by kernel_rfl
theorem zoE:((Tryz.prog.stops == []))=Γ:=by kernel_rfl
theorem zoF:((Rows.tapePlayRow.knobs == []))=Γ:=by kernel_rfl
theorem zoG:((Tryz.prog.stopKnobs == []))=Γ:=by kernel_rfl
theorem zoH:((Rows.tapePlayRow.inPlace == Tryz.prog.inPlace 5))=Γ:=by kernel_rfl
theorem zlY:((Rows.tapePlayRow.unfollowed == Tryz.prog.unfollowed 5))=Γ:=by kernel_rfl
theorem zlZ:((Rows.tapePlayRow.recurses == Tryz.prog.recurses 5))=Γ:=by kernel_rfl
theorem zl0:((Rows.tapePlayRow.named == Tryz.prog.varsNamed 5))=Γ:=by kernel_rfl
theorem zl1:((Rows.tapePlayRow.maps == (Tryz.f5.params.toList++Rows.tapePlaySpec.plain.varTypes ω).any (Tryz.prog.mapsRec ·)))=Γ:=by kernel_rfl
theorem zl2:((Rows.tapePlayRow.ifaces == (Tryz.f5.params.toList++Rows.tapePlaySpec.plain.varTypes ω).any (Tryz.prog.ifacesRec ·)))=Γ:=by kernel_rfl
theorem zl3:((Rows.tapePlayRow.mapsOut == Tryz.prog.mapsAmong Tryz.f5.resultTypes.toList))=Γ:=by kernel_rfl
theorem zl4:((Rows.tapePlayRow.loops == (Tryz.f5.params.toList++Rows.tapePlaySpec.plain.varTypes ω).any (Tryz.prog.loopsFrom ·)))=Γ:=by kernel_rfl
theorem zl5:((Rows.tapePlayRow.wideKeys == (Tryz.f5.params.toList++Rows.tapePlaySpec.plain.varTypes ω++Tryz.f5.resultTypes.toList).any (Tryz.prog.wideKeysFrom ·)))=Γ:=by kernel_rfl
theorem zl6:(Rows.tapePlaySpec.vars.all (Tryz.prog.varReadable ·))=Γ:=by kernel_rfl
theorem zl7:(Tryz.f5.resultTypes.all (λt=>Tryz.prog.readableRec t && decide (t<Tryz.prog.types.size)))=Γ:=by kernel_rfl
theorem zl8:((Rows.tapePlayRow.ifacesOut == Tryz.f5.resultTypes.toList.any (Tryz.prog.ifacesRec ·)))=Γ:=by kernel_rfl
theorem zl9:((Rows.tapePlayRow.loopsOut == Tryz.f5.resultTypes.toList.any (Tryz.prog.loopsFrom ·)))=Γ:=by kernel_rfl
theorem zma:((Rows.tapePlayRow.plainKeys == Tryz.prog.plainKeys))=Γ:=by kernel_rfl
theorem zmb:(Rows.tapePlayRow.shortTexts.isNone)=Γ:=by kernel_rfl
theorem zmc:(Tryz.prog.stopsHeard)=Γ:=by kernel_rfl
theorem zmd:(Tryz.prog.mayEnter)=Γ:=by kernel_rfl
theorem zme:((Rows.tapePlayRow.lifted == Tryz.prog.liftsFinal))=Γ:=by kernel_rfl
theorem zmf:((Tryz.prog.make == A Rows.tapePlayRow.make))=Γ:=by kernel_rfl
theorem zmg:((Rows.tapePlayRow.kinds == (if Rows.tapePlayRow.domain.isEmpty then [] else Tryz.f5.params.toList.map λt=>match Tryz.prog.underlying t with|some (.int k)=>A k|_=>none)))=Γ:=by kernel_rfl
theorem zmh:((Rows.tapePlayRow.pinned == Rows.tapePlayRow.pinnedBy))=Γ:=by kernel_rfl
theorem zmi:((Rows.tapePlayRow.veiled == (Tryz.f5.params.toList++Rows.tapePlaySpec.plain.varTypes ω++Tryz.f5.resultTypes.toList).any (Tryz.prog.veiledRec ·)))=Γ:=by kernel_rfl
theorem zmj:(Rows.tapePlayRow.veiledFits ω Tryz.f5.params.toList (Tryz.f5.params.toList++Rows.tapePlaySpec.plain.varTypes ω++Tryz.f5.resultTypes.toList))=Γ:=by kernel_rfl
theorem zhj:joinedFacts ω 5 Tryz.f5 Rows.tapePlaySpec Rows.tapePlayRow=Γ:=aW (aW (aW (aW (aW (aW (aW (aW (aW (aW (aW (aW (aW (aW (aW (aW (aW (aW (aW (aW (aW (aW (aW (aW (aW (aW (aW (aW (aW (aW (aW (zoy) zoz) zoA) zoB) zoC) zoD) zoE) zoF) zoG) zoH) zlY) zlZ) zl0) zl1) zl2) zl3) zl4) zl5) zl6) zl7) zl8) zl9) zma) zmb) zmc) zmd) zme) zmf) zmg) zmh) zmi) zmj
theorem zmk(b:kR):Rows.TapePlaySaid :=
 fR 5 Tryz.f5 rfl rfl rfl rfl rfl rfl rfl ⟨D,D,D,D,D⟩ rfl rfl rfl rfl rfl (by kernel_rfl) func5 zhj
  (du (by kernel_rfl)) (by unfold Func.isWrapper;first|(rw[am (by decide +kernel)];kernel_rfl)|(rw[ae (by decide +kernel)];exact⟨D,D⟩))
  (λos a H enc _=>zgG b os a H enc)
theorem zoI:Rows.tapePlayRow.wfByText (bQ Rows.tapePlaySpec)=Γ:=by kernel_rfl
theorem zoJ:Tryz.pinned.checked.prog.mainIs=A (Rows.tapePlayCard.stood.harness.1,Rows.tapePlayCard.stood.harness.2.toList):=by kernel_rfl
theorem zoK:(!Rows.tapePlayCard.stood.harness.1 && Rows.tapePlayCard.stood.harness.2.isEmpty && !Rows.tapePlayCard.stood.looks)=ξ:=by kernel_rfl
theorem zoL:Tryz.pinned.checked.prog.funcNamed Rows.tapePlayRow.func=A 5:=by kernel_rfl
theorem zoM:Rows.tapePlayCard.stood.looks=Tryz.pinned.checked.prog.looks []:=by kernel_rfl
theorem zoN:(Tryz.f5.params.toList.all λt=>!(Tryz.pinned.checked.prog.wantsStandIn t))=Γ:=by kernel_rfl
theorem zoO:ξ=Rows.tapePlayRow.goesBy Tryz.pinned.checked.prog:=by kernel_rfl
theorem zkd(a:kR):Rows.TapePlayCardSaid :=
 Claim7.holds_tied_plain_at .later [] Rows.tapePlayCard.laidKinds Γ Rows.tapePlayCard.stood.harness Rows.tapePlayCard.stood.looks (zmk a) (λ_ h=>by cases h) zoI (λ_ h=>by cases h) tapePlay_row_tie D ⟨D,D⟩ zoJ zoK
  (λf c d b=>by
    obtain rfl:5=f:=aL (zoL.symm.trans d);obtain rfl:Tryz.f5=c:=aL (Tryz.func5.symm.trans b);exact⟨zoM,λj t e=>by
     have g:t∈Tryz.f5.params.toList:=bu (i:=j) (by rw[eu];exact e);have:=cx.1 zoN t g;exact iP _ ▸ this⟩)
  zoO
end Go.Proofs.YthghjlinhokimaaGreatDoor
