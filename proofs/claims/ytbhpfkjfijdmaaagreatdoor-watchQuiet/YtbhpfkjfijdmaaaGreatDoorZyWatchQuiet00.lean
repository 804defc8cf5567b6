/-
  For every machine, anything that is pressed and every number the law WatchQuiet of the program returns true and leaves its arguments as they were; the listed library variables are as the tied card says.
-/
import Derived.Test.YtbhpfkjfijdmaaaGreatDoorZy05
import Derived.Test.YtbhpfkjfijdmaaaGreatDoorCards
import Derived.Test.YtbhpfkjfijdmaaaGreatDoorTie
import Derived.SevenTiedAt
import Derived.Test.YtbhpfkjfijdmaaaGreatDoorZy42
import Derived.Test.YtbhpfkjfijdmaaaGreatDoorZy37
namespace Go.Proofs.YtbhpfkjfijdmaaaGreatDoor
open Go.ChangeShapes Go.WideShapes Go.ChangeAt Go.RowKit
set_option linter.unusedVariables false
set_option maxRecDepth 100000
def WatchQuietWalk:Prop:=∀ (H:Type) (enc:TypeId × Value->H) (W:World) (base:Nat) (v0 v1 v2:Value) (d0 d1 d2:DataW H) (p0 p1 p2:List MemPlace),AF W ->
 Value.okWide Tryz.prog W .any base (Tryz.f5.params.getD 0 0) v0->DataW.Trod enc Tryz.prog W 0 (fun _=>true) true (Tryz.f5.params.getD 0 0) v0 d0 p0->Value.okWide Tryz.prog W .any base (Tryz.f5.params.getD 1 0) v1->DataW.Trod enc Tryz.prog W 0 (fun _=>true) true (Tryz.f5.params.getD 1 0) v1 d1 p1->Value.okWide Tryz.prog W .any base (Tryz.f5.params.getD 2 0) v2->DataW.Trod enc Tryz.prog W 0 (fun _=>true) true (Tryz.f5.params.getD 2 0) v2 d2 p2 ->
 Calls Tryz.prog 5 #[v0,v1,v2] W fun e w'=>e = .returned (.bool true)/\Below W.heap.size W w'
theorem watchQuiet_lifted (walk:WatchQuietWalk) (os:Os) (started:os.Started) (H:Type) (enc:TypeId × Value->H) :
 ReturnsInHanded {} Tryz.checked os 5 .any (fun w args=>(Rows.watchQuietSpec.pre enc Tryz.prog Tryz.f5 [] false w args/\laidMetH Tryz.prog Rows.watchQuietRow.laid w)/\sizedMet enc Tryz.prog Tryz.f5 (OpenSpec.ofChange Rows.watchQuietSpec) false w args)
  (Rows.watchQuietSpec.post enc Tryz.prog Tryz.f5 false true false false):=by
 refine returns_and_shaped (C:=Tryz.checked) (X:=fun w _=>laidMetH Tryz.prog Rows.watchQuietRow.laid w) (fun _ _ _ hh h=>h.of_heap hh) own started (by kernel_rfl) Tryz.func5
  (ChangeSpec.witness_shaped (enc:=enc) (C:=Tryz.checked) (os:=os) (X:=fun w _=>laidMetH Tryz.prog Rows.watchQuietRow.laid w) false (World.laidAll Tryz.prog os Rows.watchQuietRow.laid) #[.agg #[.int .u16 0,.int .u16 0,.int .u16 0,.int .u16 0,.int .u16 0,.int .u16 0,.int .u16 0,.int .u16 0,.int .u16 0,.bool false,.bool false,.bool false,.bool false,.bool false,.bool false,.int .u16 0,.int .u16 0,.int .u16 0,.int .u16 0,.int .u16 0,.int .u16 0,.int .u16 0,.int .u16 0,.int .u16 0,.bool false,.bool false,.bool false,.bool false,.bool false,.bool false,.slice none 0 0,.slice none 0 0,.slice none 0 0,.slice none 0 0,.slice none 0 0,.int .u8 0,.bool false,.int .u8 0,.int .u8 0,.bool false,.int .u8 0,.int .u16 0,.int .u16 0,.bool false,.bool false,.int .u16 0,.int .u16 0,.int .u8 0,.bool false,.int .u16 0,.int .u16 0,.int .u16 0,.int .u8 0,.bool false,.int .u16 0,.int .u16 0,.int .u16 0,.int .u8 0,.bool false,.int .u16 0,.int .i64 0,.int .i64 0,.int .i64 0,.bool false,.int .i64 0,.int .u16 0,.int .u16 0,.bool false,.bool false,.int .u8 0,.int .u8 0,.bool false,.int .i64 0,.int .i64 0,.int .i64 0],.slice none 0 0,.int .i64 0] 8 (World.laidAll_os _ _ _)
    (World.shaped_of_ZipB (by kernel_rfl) (by kernel_rfl)) (by kernel_rfl) (by kernel_rfl) (by kernel_rfl)
    (by rw [MakeChecks.laidMetH_plain _ _ _ (by kernel_rfl)];exact laidMet_laidAll _ (by kernel_rfl) (by kernel_rfl))) ?_
 intro W base args ds gs before hval0 hW _ hwt hL hsh _
 have hval:∀ (j:Nat) t v,Tryz.f5.params[j]? = some t->args[j]? = some v->Value.okWide Tryz.prog W .any base t v:=hval0
 have hW':=hW
 obtain ⟨p,q,hA0,hV,rfl,_,_⟩:=hW
 have hA:DataW.TrodAll enc Tryz.prog W 0 (fun _=>true) true Tryz.f5.params.toList args.toList ds p:=hA0
 have hA1:=hA
 rw [Tryz.params5] at hA hval
 obtain ⟨v0,vs0,d0,ds0,p0,q0,hargs,rfl,rfl,h0,r0⟩:=trodAll_cons hA
 obtain ⟨v1,vs1,d1,ds1,p1,q1,rfl,rfl,rfl,h1,r1⟩:=trodAll_cons r0
 obtain ⟨v2,vs2,d2,ds2,p2,q2,rfl,rfl,rfl,h2,r2⟩:=trodAll_cons r1
 obtain ⟨rfl,rfl,rfl⟩:=trodAll_nil r2
 obtain rfl:args=#[v0,v1,v2]:=by cases args;simp_all
 obtain ⟨rfl,rfl⟩:=trodVars_none hV
 rw [MakeChecks.laidMetH_plain _ _ _ (by kernel_rfl)] at hL
 have hlt:=fun x hx=>hW'.lt x (List.mem_append_left _ hx)
 refine (walk H enc W base v0 v1 v2 d0 d1 d2 _ _ _ (af_of hL hsh (by simp [Rows.watchQuietRow]) (by simp [Rows.watchQuietRow])) (hval 0 _ v0 rfl rfl) h0 (hval 1 _ v1 rfl rfl) h1 (hval 2 _ v2 rfl rfl) h2).mono fun e W' ⟨he,hb⟩=>?_
 subst he
 exact ⟨_,rfl,_,_,_,[],_,[],hW',trodAll_mk1 (shut_bool Tryz.underlying4 _),trodAll_below_all (by kernel_rfl) hb (by kernel_rfl) hA1 hlt,rfl,hb.frame _,fun h=>by cases h⟩
theorem and_t {a b:Bool} (ha:a=true) (hb:b=true):(a && b)=true:=by rw [ha,hb];rfl
theorem watchQuiet_f0:(Rows.watchQuietRow.wf (OpenSpec.ofChange Rows.watchQuietSpec))=true:=by kernel_rfl
theorem watchQuiet_f1:(laidOutB Tryz.prog)=true:=by kernel_rfl
theorem watchQuiet_f2:(mapsRowed Tryz.prog)=true:=by kernel_rfl
theorem watchQuiet_f3:(Tryz.f5.params.all (Tryz.prog.readableRec ·))=true:=by kernel_rfl
theorem watchQuiet_f4:(namedTie Tryz.prog Rows.watchQuietRow.named Rows.watchQuietSpec.vars)=true:=by kernel_rfl
theorem watchQuiet_f5:((Rows.watchQuietRow.stops == []))=true:=by kernel_rfl
theorem watchQuiet_f6:((Tryz.prog.stops == []))=true:=by kernel_rfl
theorem watchQuiet_f7:((Rows.watchQuietRow.knobs == []))=true:=by kernel_rfl
theorem watchQuiet_f8:((Tryz.prog.stopKnobs == []))=true:=by kernel_rfl
theorem watchQuiet_f9:((Rows.watchQuietRow.inPlace == Tryz.prog.inPlace 5))=true:=by kernel_rfl
theorem watchQuiet_f10:((Rows.watchQuietRow.unfollowed == Tryz.prog.unfollowed 5))=true:=by kernel_rfl
theorem watchQuiet_f11:((Rows.watchQuietRow.recurses == Tryz.prog.recurses 5))=true:=by kernel_rfl
theorem watchQuiet_f12:((Rows.watchQuietRow.named == Tryz.prog.varsNamed 5))=true:=by kernel_rfl
theorem watchQuiet_f13:((Rows.watchQuietRow.maps == (Tryz.f5.params.toList++Rows.watchQuietSpec.plain.varTypes Tryz.prog).any (Tryz.prog.mapsRec ·)))=true:=by kernel_rfl
theorem watchQuiet_f14:((Rows.watchQuietRow.ifaces == (Tryz.f5.params.toList++Rows.watchQuietSpec.plain.varTypes Tryz.prog).any (Tryz.prog.ifacesRec ·)))=true:=by kernel_rfl
theorem watchQuiet_f15:((Rows.watchQuietRow.mapsOut == Tryz.prog.mapsAmong Tryz.f5.resultTypes.toList))=true:=by kernel_rfl
theorem watchQuiet_f16:((Rows.watchQuietRow.loops == (Tryz.f5.params.toList++Rows.watchQuietSpec.plain.varTypes Tryz.prog).any (Tryz.prog.loopsFrom ·)))=true:=by kernel_rfl
theorem watchQuiet_f17:((Rows.watchQuietRow.wideKeys == (Tryz.f5.params.toList++Rows.watchQuietSpec.plain.varTypes Tryz.prog++Tryz.f5.resultTypes.toList).any (Tryz.prog.wideKeysFrom ·)))=true:=by kernel_rfl
theorem watchQuiet_f18:(Rows.watchQuietSpec.vars.all (Tryz.prog.varReadable ·))=true:=by kernel_rfl
theorem watchQuiet_f19:(Tryz.f5.resultTypes.all (fun t=>Tryz.prog.readableRec t && decide (t < Tryz.prog.types.size)))=true:=by kernel_rfl
theorem watchQuiet_f20:((Rows.watchQuietRow.ifacesOut == Tryz.f5.resultTypes.toList.any (Tryz.prog.ifacesRec ·)))=true:=by kernel_rfl
theorem watchQuiet_f21:((Rows.watchQuietRow.loopsOut == Tryz.f5.resultTypes.toList.any (Tryz.prog.loopsFrom ·)))=true:=by kernel_rfl
theorem watchQuiet_f22:((Rows.watchQuietRow.plainKeys == Tryz.prog.plainKeys))=true:=by kernel_rfl
theorem watchQuiet_f23:(Rows.watchQuietRow.shortTexts.isNone)=true:=by kernel_rfl
theorem watchQuiet_f24:(Tryz.prog.stopsHeard)=true:=by kernel_rfl
theorem watchQuiet_f25:(Tryz.prog.mayEnter)=true:=by kernel_rfl
theorem watchQuiet_f26:((Rows.watchQuietRow.lifted == Tryz.prog.liftsFinal))=true:=by kernel_rfl
theorem watchQuiet_f27:((Tryz.prog.make == some Rows.watchQuietRow.make))=true:=by kernel_rfl
theorem watchQuiet_f28:((Rows.watchQuietRow.kinds == (if Rows.watchQuietRow.domain.isEmpty then [] else Tryz.f5.params.toList.map fun t=>match Tryz.prog.underlying t with | some (.int k)=>some k | _=>none)))=true:=by kernel_rfl
theorem watchQuiet_f29:((Rows.watchQuietRow.pinned == Rows.watchQuietRow.pinnedBy))=true:=by kernel_rfl
theorem watchQuiet_f30:((Rows.watchQuietRow.veiled == (Tryz.f5.params.toList++Rows.watchQuietSpec.plain.varTypes Tryz.prog++Tryz.f5.resultTypes.toList).any (Tryz.prog.veiledRec ·)))=true:=by kernel_rfl
theorem watchQuiet_f31:(Rows.watchQuietRow.veiledFits Tryz.prog Tryz.f5.params.toList (Tryz.f5.params.toList++Rows.watchQuietSpec.plain.varTypes Tryz.prog++Tryz.f5.resultTypes.toList))=true:=by kernel_rfl
theorem watchQuiet_facts:joinedFacts Tryz.prog 5 Tryz.f5 Rows.watchQuietSpec Rows.watchQuietRow=true:=and_t (and_t (and_t (and_t (and_t (and_t (and_t (and_t (and_t (and_t (and_t (and_t (and_t (and_t (and_t (and_t (and_t (and_t (and_t (and_t (and_t (and_t (and_t (and_t (and_t (and_t (and_t (and_t (and_t (and_t (and_t (watchQuiet_f0) watchQuiet_f1) watchQuiet_f2) watchQuiet_f3) watchQuiet_f4) watchQuiet_f5) watchQuiet_f6) watchQuiet_f7) watchQuiet_f8) watchQuiet_f9) watchQuiet_f10) watchQuiet_f11) watchQuiet_f12) watchQuiet_f13) watchQuiet_f14) watchQuiet_f15) watchQuiet_f16) watchQuiet_f17) watchQuiet_f18) watchQuiet_f19) watchQuiet_f20) watchQuiet_f21) watchQuiet_f22) watchQuiet_f23) watchQuiet_f24) watchQuiet_f25) watchQuiet_f26) watchQuiet_f27) watchQuiet_f28) watchQuiet_f29) watchQuiet_f30) watchQuiet_f31
theorem watchQuiet_row (walk:WatchQuietWalk):Rows.WatchQuietSaid :=
 OpenClaim.holds_of_wide 5 Tryz.f5 rfl rfl rfl rfl rfl rfl rfl ⟨rfl,rfl,rfl,rfl,rfl⟩ rfl rfl rfl rfl rfl (by kernel_rfl) Tryz.func5 watchQuiet_facts
  (of_decide_eq_true (by kernel_rfl)) (by unfold Func.isWrapper;first | (rw [if_pos (by decide +kernel)];kernel_rfl) | (rw [if_neg (by decide +kernel)];exact ⟨rfl,rfl⟩))
  (fun os started H enc _=>watchQuiet_lifted walk os started H enc)
theorem watchQuiet_card (walk:WatchQuietWalk):Rows.WatchQuietCardSaid :=
 Claim7.holds_tied_plain_at .later [] _ true _ true (watchQuiet_row walk) (fun _ h=>by cases h) (by kernel_rfl) (fun _ h=>by cases h) watchQuiet_row_tie rfl ⟨rfl,rfl⟩ (by kernel_rfl) rfl
  (fun f fn hf hfn=>by
    obtain rfl:f=5:=Option.some.inj ((show Tryz.prog.funcNamed "marquee/marqueelaw.WatchQuiet" = some 5 by kernel_rfl).symm.trans hf) |>.symm
    obtain rfl:fn=Tryz.f5:=(Option.some.inj (Tryz.func5.symm.trans hfn)).symm
    exact ⟨by kernel_rfl,fun j t ht=>by
     have hm:t ∈ Tryz.f5.params.toList:=List.mem_of_getElem? (i:=j) (by rw [Array.getElem?_toList];exact ht)
     have hall:Tryz.f5.params.toList.all (fun t=>!(Tryz.prog.wantsStandIn t))=true:=by kernel_rfl
     have:=List.all_eq_true.1 hall t hm
     exact Bool.not_eq_true' _ ▸ this⟩)
  (by kernel_rfl)
theorem watchQuiet_walk:WatchQuietWalk:=by
 intro H enc W base v0 v1 v2 d0 d1 d2 p0 p1 p2 hF k0 t0 k1 t1 k2 t2
 obtain ⟨M,S,rfl,hok,hs,hz⟩:=open_mach k0 t0
 obtain ⟨l,hin,hll,hlf⟩:=open_inputs k1 t1
 obtain ⟨a,rfl,_,_,wa⟩:=open_int Tryz.underlying3 k2 t2
 exact Wc.quiet M S v1 l a W hF hs hz hok hin (fun x hx=>(hlf x hx).d) (bounds_i64 wa)
theorem watchQuiet_holds:Rows.WatchQuietCardSaid:=watchQuiet_card watchQuiet_walk
end Go.Proofs.YtbhpfkjfijdmaaaGreatDoor
