/-
  Parts of a proof, joined.
-/
import Derived.Test.YtbennamieealbaaGreatDoorZc06
import Derived.Test.YtbennamieealbaaGreatDoorCards
import Derived.Test.YtbennamieealbaaGreatDoorTie
import Derived.SevenTiedAt
import Derived.Test.YtbennamieealbaaGreatDoorZc37
import Derived.Test.YtbennamieealbaaGreatDoorZc39
import Derived.Test.YtbennamieealbaaGreatDoorZc38
import Derived.Test.YtbennamieealbaaGreatDoorZc41
set_option linter.unusedVariables false
set_option maxRecDepth 100000
set_option maxHeartbeats 3200000
namespace Go.Proofs.YtbennamieealbaaGreatDoor
open Go.ChangeShapes Go.WideShapes Go.ChangeAt Go.RowKit
def CatchPartsWalk:Prop:=∀ (H:Type) (enc:TypeId × Value->H) (W:World) (base:Nat) (v0 v1 v2 v3:Value) (d0 d1 d2 d3:DataW H) (p0 p1 p2 p3:List MemPlace),AF W ->
 Value.okWide Tryz.prog W .any base (Tryz.f4.params.getD 0 0) v0->DataW.Trod enc Tryz.prog W 0 (λ_=>true) true (Tryz.f4.params.getD 0 0) v0 d0 p0->Value.okWide Tryz.prog W .any base (Tryz.f4.params.getD 1 0) v1->DataW.Trod enc Tryz.prog W 0 (λ_=>true) true (Tryz.f4.params.getD 1 0) v1 d1 p1->Value.okWide Tryz.prog W .any base (Tryz.f4.params.getD 2 0) v2->DataW.Trod enc Tryz.prog W 0 (λ_=>true) true (Tryz.f4.params.getD 2 0) v2 d2 p2->Value.okWide Tryz.prog W .any base (Tryz.f4.params.getD 3 0) v3->DataW.Trod enc Tryz.prog W 0 (λ_=>true) true (Tryz.f4.params.getD 3 0) v3 d3 p3 ->
 Calls Tryz.prog 4 #[v0,v1,v2,v3] W λe w'=>e = .returned (.bool true)/\Below W.heap.size W w'
theorem zdg (walk:CatchPartsWalk) (os:Os) (started:os.Started) (H:Type) (enc:TypeId × Value->H) :
 ReturnsInHanded {} Tryz.checked os 4 .any (λw args=>(Rows.catchPartsSpec.pre enc Tryz.prog Tryz.f4 [] false w args/\laidMetH Tryz.prog Rows.catchPartsRow.laid w)/\sizedMet enc Tryz.prog Tryz.f4 (OpenSpec.ofChange Rows.catchPartsSpec) false w args)
  (Rows.catchPartsSpec.post enc Tryz.prog Tryz.f4 false true false false):=by
 refine zbA (C:=Tryz.checked) (X:=λw _=>laidMetH Tryz.prog Rows.catchPartsRow.laid w) (λ_ _ _ hh h=>h.of_heap hh) own started (by kernel_rfl) Tryz.func4
  (ChangeSpec.witness_shaped (enc:=enc) (C:=Tryz.checked) (os:=os) (X:=λw _=>laidMetH Tryz.prog Rows.catchPartsRow.laid w) false (World.laidAll Tryz.prog os Rows.catchPartsRow.laid) #[.agg #[.int .u16 0,.int .u16 0,.int .u16 0,.int .u16 0,.int .u16 0,.int .u16 0,.int .u16 0,.int .u16 0,.int .u16 0,.bool false,.bool false,.bool false,.bool false,.bool false,.bool false,.int .u16 0,.int .u16 0,.int .u16 0,.int .u16 0,.int .u16 0,.int .u16 0,.int .u16 0,.int .u16 0,.int .u16 0,.bool false,.bool false,.bool false,.bool false,.bool false,.bool false,.slice none 0 0,.slice none 0 0,.slice none 0 0,.slice none 0 0,.slice none 0 0,.int .u8 0,.bool false,.int .u8 0,.int .u8 0,.bool false,.int .u8 0,.int .u16 0,.int .u16 0,.bool false,.bool false,.int .u16 0,.int .u16 0,.int .u8 0,.bool false,.int .u16 0,.int .u16 0,.int .u16 0,.int .u8 0,.bool false,.int .u16 0,.int .u16 0,.int .u16 0,.int .u8 0,.bool false,.int .u16 0,.int .i64 0,.int .i64 0,.int .i64 0,.bool false,.int .i64 0,.int .u16 0,.int .u16 0,.bool false,.bool false,.int .u8 0,.int .u8 0,.bool false,.int .i64 0,.int .i64 0,.int .i64 0],.slice none 0 0,.int .i64 0,.int .i64 0] 8 (World.laidAll_os _ _ _)
    (World.shaped_of_ZipB (by kernel_rfl) (by kernel_rfl)) (by kernel_rfl) (by kernel_rfl) (by kernel_rfl)
    (by rw [MakeChecks.laidMetH_plain _ _ _ (by kernel_rfl)];exact laidMet_laidAll _ (by kernel_rfl) (by kernel_rfl))) ?_
 intro W base args ds gs before hval0 hW _ hwt hL hsh _
 have hval:∀ (j:Nat) t v,Tryz.f4.params[j]? = some t->args[j]? = some v->Value.okWide Tryz.prog W .any base t v:=hval0
 have hW':=hW
 obtain ⟨p,q,hA0,hV,rfl,_,_⟩:=hW
 have hA:DataW.TrodAll enc Tryz.prog W 0 (λ_=>true) true Tryz.f4.params.toList args.toList ds p:=hA0
 have hA1:=hA
 rw [Tryz.params4] at hA hval
 obtain ⟨v0,vs0,d0,ds0,p0,q0,hargs,rfl,rfl,h0,r0⟩:=trodAll_cons hA
 obtain ⟨v1,vs1,d1,ds1,p1,q1,rfl,rfl,rfl,h1,r1⟩:=trodAll_cons r0
 obtain ⟨v2,vs2,d2,ds2,p2,q2,rfl,rfl,rfl,h2,r2⟩:=trodAll_cons r1
 obtain ⟨v3,vs3,d3,ds3,p3,q3,rfl,rfl,rfl,h3,r3⟩:=trodAll_cons r2
 obtain ⟨rfl,rfl,rfl⟩:=trodAll_nil r3
 obtain rfl:args=#[v0,v1,v2,v3]:=by cases args;simp_all
 obtain ⟨rfl,rfl⟩:=trodVars_none hV
 rw [MakeChecks.laidMetH_plain _ _ _ (by kernel_rfl)] at hL
 have hlt:=λx hx=>hW'.lt x (List.mem_append_left _ hx)
 refine (walk H enc W base v0 v1 v2 v3 d0 d1 d2 d3 _ _ _ _ (af_of hL hsh (by simp [Rows.catchPartsRow]) (by simp [Rows.catchPartsRow])) (hval 0 _ v0 rfl rfl) h0 (hval 1 _ v1 rfl rfl) h1 (hval 2 _ v2 rfl rfl) h2 (hval 3 _ v3 rfl rfl) h3).mono λe W' ⟨he,hb⟩=>?_
 subst he
 exact ⟨_,rfl,_,_,_,[],_,[],hW',trodAll_mk1 (shut_bool Tryz.underlying4 _),zbL (by kernel_rfl) hb (by kernel_rfl) hA1 hlt,rfl,hb.frame _,λh=>by cases h⟩
theorem and_t {a b:Bool} (ha:a=true) (hb:b=true):(a && b)=true:=by rw [ha,hb];rfl
theorem zgE:(Rows.catchPartsRow.wf (OpenSpec.ofChange Rows.catchPartsSpec))=true:=by kernel_rfl
theorem zgF:(laidOutB Tryz.prog)=true:=by kernel_rfl
theorem zgG:(mapsRowed Tryz.prog)=true:=by kernel_rfl
theorem zgH:(Tryz.f4.params.all (Tryz.prog.readableRec ·))=true:=by kernel_rfl
theorem zgI:(namedTie Tryz.prog Rows.catchPartsRow.named Rows.catchPartsSpec.vars)=true:=by kernel_rfl
theorem zgJ:((Rows.catchPartsRow.stops == []))=true:=by kernel_rfl
theorem zgK:((Tryz.prog.stops == []))=true:=by kernel_rfl
theorem zgL:((Rows.catchPartsRow.knobs == []))=true:=by kernel_rfl
theorem zgM:((Tryz.prog.stopKnobs == []))=true:=by kernel_rfl
theorem zgN:((Rows.catchPartsRow.inPlace == Tryz.prog.inPlace 4))=true:=by kernel_rfl
theorem zeA:((Rows.catchPartsRow.unfollowed == Tryz.prog.unfollowed 4))=true:=by kernel_rfl
theorem zeB:((Rows.catchPartsRow.recurses == Tryz.prog.recurses 4))=true:=by kernel_rfl
theorem zeC:((Rows.catchPartsRow.named == Tryz.prog.varsNamed 4))=true:=by kernel_rfl
theorem zeD:((Rows.catchPartsRow.maps == (Tryz.f4.params.toList++Rows.catchPartsSpec.plain.varTypes Tryz.prog).any (Tryz.prog.mapsRec ·)))=true:=by kernel_rfl
theorem zeE:((Rows.catchPartsRow.ifaces == (Tryz.f4.params.toList++Rows.catchPartsSpec.plain.varTypes Tryz.prog).any (Tryz.prog.ifacesRec ·)))=true:=by kernel_rfl
theorem zeF:((Rows.catchPartsRow.mapsOut == Tryz.prog.mapsAmong Tryz.f4.resultTypes.toList))=true:=by kernel_rfl
theorem zeG:((Rows.catchPartsRow.loops == (Tryz.f4.params.toList++Rows.catchPartsSpec.plain.varTypes Tryz.prog).any (Tryz.prog.loopsFrom ·)))=true:=by kernel_rfl
theorem zeH:((Rows.catchPartsRow.wideKeys == (Tryz.f4.params.toList++Rows.catchPartsSpec.plain.varTypes Tryz.prog++Tryz.f4.resultTypes.toList).any (Tryz.prog.wideKeysFrom ·)))=true:=by kernel_rfl
theorem zeI:(Rows.catchPartsSpec.vars.all (Tryz.prog.varReadable ·))=true:=by kernel_rfl
theorem zeJ:(Tryz.f4.resultTypes.all (λt=>Tryz.prog.readableRec t && decide (t<Tryz.prog.types.size)))=true:=by kernel_rfl
theorem zeK:((Rows.catchPartsRow.ifacesOut == Tryz.f4.resultTypes.toList.any (Tryz.prog.ifacesRec ·)))=true:=by kernel_rfl
theorem zeL:((Rows.catchPartsRow.loopsOut == Tryz.f4.resultTypes.toList.any (Tryz.prog.loopsFrom ·)))=true:=by kernel_rfl
theorem zeM:((Rows.catchPartsRow.plainKeys == Tryz.prog.plainKeys))=true:=by kernel_rfl
theorem zeN:(Rows.catchPartsRow.shortTexts.isNone)=true:=by kernel_rfl
theorem zeO:(Tryz.prog.stopsHeard)=true:=by kernel_rfl
theorem zeP:(Tryz.prog.mayEnter)=true:=by kernel_rfl
theorem zeQ:((Rows.catchPartsRow.lifted == Tryz.prog.liftsFinal))=true:=by kernel_rfl
theorem zeR:((Tryz.prog.make == some Rows.catchPartsRow.make))=true:=by kernel_rfl
theorem zeS:((Rows.catchPartsRow.kinds == (if Rows.catchPartsRow.domain.isEmpty then [] else Tryz.f4.params.toList.map λt=>match Tryz.prog.underlying t with|some (.int k)=>some k|_=>none)))=true:=by kernel_rfl
theorem zeT:((Rows.catchPartsRow.pinned == Rows.catchPartsRow.pinnedBy))=true:=by kernel_rfl
theorem zeU:((Rows.catchPartsRow.veiled == (Tryz.f4.params.toList++Rows.catchPartsSpec.plain.varTypes Tryz.prog++Tryz.f4.resultTypes.toList).any (Tryz.prog.veiledRec ·)))=true:=by kernel_rfl
theorem zeV:(Rows.catchPartsRow.veiledFits Tryz.prog Tryz.f4.params.toList (Tryz.f4.params.toList++Rows.catchPartsSpec.plain.varTypes Tryz.prog++Tryz.f4.resultTypes.toList))=true:=by kernel_rfl
theorem zdv:joinedFacts Tryz.prog 4 Tryz.f4 Rows.catchPartsSpec Rows.catchPartsRow=true:=and_t (and_t (and_t (and_t (and_t (and_t (and_t (and_t (and_t (and_t (and_t (and_t (and_t (and_t (and_t (and_t (and_t (and_t (and_t (and_t (and_t (and_t (and_t (and_t (and_t (and_t (and_t (and_t (and_t (and_t (and_t (zgE) zgF) zgG) zgH) zgI) zgJ) zgK) zgL) zgM) zgN) zeA) zeB) zeC) zeD) zeE) zeF) zeG) zeH) zeI) zeJ) zeK) zeL) zeM) zeN) zeO) zeP) zeQ) zeR) zeS) zeT) zeU) zeV
theorem zeW (walk:CatchPartsWalk):Rows.CatchPartsSaid :=
 OpenClaim.holds_of_wide 4 Tryz.f4 rfl rfl rfl rfl rfl rfl rfl ⟨rfl,rfl,rfl,rfl,rfl⟩ rfl rfl rfl rfl rfl (by kernel_rfl) Tryz.func4 zdv
  (of_decide_eq_true (by kernel_rfl)) (by unfold Func.isWrapper;first|(rw [if_pos (by decide +kernel)];kernel_rfl)|(rw [if_neg (by decide +kernel)];exact ⟨rfl,rfl⟩))
  (λos started H enc _=>zdg walk os started H enc)
theorem zgO:Rows.catchPartsRow.wfByText (OpenSpec.ofChange Rows.catchPartsSpec)=true:=by kernel_rfl
theorem zgP:Tryz.pinned.checked.prog.mainIs=some (Rows.catchPartsCard.stood.harness.1,Rows.catchPartsCard.stood.harness.2.toList):=by kernel_rfl
theorem zgQ:(!Rows.catchPartsCard.stood.harness.1 && Rows.catchPartsCard.stood.harness.2.isEmpty && !Rows.catchPartsCard.stood.looks)=false:=by kernel_rfl
theorem zgR:Tryz.pinned.checked.prog.funcNamed Rows.catchPartsRow.func=some 4:=by kernel_rfl
theorem zgS:Rows.catchPartsCard.stood.looks=Tryz.pinned.checked.prog.looks []:=by kernel_rfl
theorem zgT:(Tryz.f4.params.toList.all λt=>!(Tryz.pinned.checked.prog.wantsStandIn t))=true:=by kernel_rfl
theorem zgU:false=Rows.catchPartsRow.goesBy Tryz.pinned.checked.prog:=by kernel_rfl
theorem zeh (walk:CatchPartsWalk):Rows.CatchPartsCardSaid :=
 Claim7.holds_tied_plain_at .later [] Rows.catchPartsCard.laidKinds true Rows.catchPartsCard.stood.harness Rows.catchPartsCard.stood.looks (zeW walk) (λ_ h=>by cases h) zgO (λ_ h=>by cases h) catchParts_row_tie rfl ⟨rfl,rfl⟩ zgP zgQ
  (λf fn hf hfn=>by
    obtain rfl:4=f:=Option.some.inj (zgR.symm.trans hf)
    obtain rfl:Tryz.f4=fn:=Option.some.inj (Tryz.func4.symm.trans hfn)
    exact ⟨zgS,λj t ht=>by
     have hm:t∈Tryz.f4.params.toList:=List.mem_of_getElem? (i:=j) (by rw [Array.getElem?_toList];exact ht)
     have:=List.all_eq_true.1 zgT t hm
     exact Bool.not_eq_true' _ ▸ this⟩)
  zgU
theorem zkp (M:Mach) (S:Sl) (v:Value) (l:List Inp) (a b:Int) (w:World) (hF:AF w) (hs:SlAt w S M) (hok:M.ok) (hin:InpAt w.heap.size w v l) (ha:-9223372036854775808<=a/\a<=9223372036854775807) (hb:-9223372036854775808<=b/\b<=9223372036854775807) (hr:runErr M l a≠0) :
 Calls Tryz.prog 4 #[.agg (machL M S).toArray,v,.int .i64 a,.int .i64 b] w λe w'=>e = .returned (.bool true)/\Below w.heap.size w w':=by
 have HF:=hid hF
 have hq:Below w.heap.size w (w.alloc (.cells (machL M S).toArray 41)):=stA (st0 w) _
 have HB:=hid (Bx.new w (machL M S) 41 (b:=w.heap.size) rfl)
 have HIN:=hid hin
 have HS:=hid hs.lens
 have HOK:=hid hok
 have HA:=hid ha
 obtain ⟨c,hc⟩:∃ c,runErr M l a=c:=⟨_,rfl⟩
 have HRA:=hid hc
 have hne:(c != 0)=true:=by rw [<- hc];simpa using hr
 clear hr hc
 clear hF hs hok hin ha
 go_enter Tryz.func4,Tryz.ntmps4
 go_wp2_with (first
  | (go_at_call 7;refine (zan _ (HF.out.kept HL2.out)).mono ?_;rintro e w9 ⟨rfl,hb9⟩;have HL9:=hid (stp HL2.out hb9);clear hb9)
  | (go_at_call 7;refine (zan _ (HF.out.kept hq)).mono ?_;rintro e w1 ⟨rfl,hb1⟩;have HB1:=hid (HB.out.kept hb1);have HL1:=hid (stp hq hb1);clear hb1)
  | (refine Bu.loadG rfl 41 _ rfl w.heap.size 0 rfl (machL M S) _ HB2.out.c Tryz.underlying41 rfl zaa ?_)
  | (refine Bu.loadG rfl 41 _ rfl w.heap.size 0 rfl (machL M S) _ HB1.out.c Tryz.underlying41 rfl zaa ?_)
  | (go_at_call 14;refine (Lk.badRun M S v l a _ HS.out HOK.out ((HIN.out.kept HL1.out).mono HL1.out.size) HA.out).mono ?_;rw [HRA.out];rintro e w2 ⟨rfl,hb2⟩;have HB2:=hid (HB1.out.kept hb2);have HL2:=hid (stp HL1.out hb2);clear hb2))
 go_ret
 exact ⟨rfl,HL9.out⟩
theorem zkq (M:Mach) (S:Sl) (v:Value) (l:List Inp) (a b:Int) (w:World) (hF:AF w) (hs:SlAt w S M) (hok:M.ok) (hin:InpAt w.heap.size w v l) (ha:-9223372036854775808<=a/\a<=9223372036854775807) (hb:-9223372036854775808<=b/\b<=9223372036854775807) (hr:runErr M l a=0) (h0:b<0) :
 Calls Tryz.prog 4 #[.agg (machL M S).toArray,v,.int .i64 a,.int .i64 b] w λe w'=>e = .returned (.bool true)/\Below w.heap.size w w':=by
 have HF:=hid hF
 have hq:Below w.heap.size w (w.alloc (.cells (machL M S).toArray 41)):=stA (st0 w) _
 have HB:=hid (Bx.new w (machL M S) 41 (b:=w.heap.size) rfl)
 have HIN:=hid hin
 have HS:=hid hs.lens
 have HOK:=hid hok
 have HA:=hid ha
 have HRA:=hid hr
 have d1:decide (b<0)=true:=decide_eq_true h0
 clear hr h0
 clear hF hs hok hin ha
 go_enter Tryz.func4,Tryz.ntmps4
 go_wp2_with (first
  | (go_at_call 7;refine (zan _ (HF.out.kept HL2.out)).mono ?_;rintro e w9 ⟨rfl,hb9⟩;have HL9:=hid (stp HL2.out hb9);clear hb9)
  | (go_at_call 7;refine (zan _ (HF.out.kept hq)).mono ?_;rintro e w1 ⟨rfl,hb1⟩;have HB1:=hid (HB.out.kept hb1);have HL1:=hid (stp hq hb1);clear hb1)
  | (refine Bu.loadG rfl 41 _ rfl w.heap.size 0 rfl (machL M S) _ HB2.out.c Tryz.underlying41 rfl zaa ?_)
  | (refine Bu.loadG rfl 41 _ rfl w.heap.size 0 rfl (machL M S) _ HB1.out.c Tryz.underlying41 rfl zaa ?_)
  | (go_at_call 14;refine (Lk.badRun M S v l a _ HS.out HOK.out ((HIN.out.kept HL1.out).mono HL1.out.size) HA.out).mono ?_;rw [HRA.out];rintro e w2 ⟨rfl,hb2⟩;have HB2:=hid (HB1.out.kept hb2);have HL2:=hid (stp HL1.out hb2);clear hb2))
 go_ret
 exact ⟨rfl,HL9.out⟩
theorem zkr (M:Mach) (S:Sl) (v:Value) (l:List Inp) (a b:Int) (w:World) (hF:AF w) (hs:SlAt w S M) (hok:M.ok) (hin:InpAt w.heap.size w v l) (ha:-9223372036854775808<=a/\a<=9223372036854775807) (hb:-9223372036854775808<=b/\b<=9223372036854775807) (hr:runErr M l a=0) (ha0:0<=a/\a<=20000) (h0:¬ b<0) (h1:20000-a<b) :
 Calls Tryz.prog 4 #[.agg (machL M S).toArray,v,.int .i64 a,.int .i64 b] w λe w'=>e = .returned (.bool true)/\Below w.heap.size w w':=by
 have HF:=hid hF
 have hq:Below w.heap.size w (w.alloc (.cells (machL M S).toArray 41)):=stA (st0 w) _
 have HB:=hid (Bx.new w (machL M S) 41 (b:=w.heap.size) rfl)
 have HIN:=hid hin
 have HS:=hid hs.lens
 have HOK:=hid hok
 have HA:=hid ha
 have HRA:=hid hr
 have d1:decide (b<0)=false:=decide_eq_false h0
 have d2:decide (20000-a<b)=true:=decide_eq_true h1
 obtain ⟨a0,a1⟩:=ha0
 clear hr h0 h1
 clear hF hs hok hin ha
 go_enter Tryz.func4,Tryz.ntmps4
 go_wp2_with (first
  | (go_at_call 7;refine (zan _ (HF.out.kept HL2.out)).mono ?_;rintro e w9 ⟨rfl,hb9⟩;have HL9:=hid (stp HL2.out hb9);clear hb9)
  | (go_at_call 7;refine (zan _ (HF.out.kept hq)).mono ?_;rintro e w1 ⟨rfl,hb1⟩;have HB1:=hid (HB.out.kept hb1);have HL1:=hid (stp hq hb1);clear hb1)
  | (refine Bu.loadG rfl 41 _ rfl w.heap.size 0 rfl (machL M S) _ HB2.out.c Tryz.underlying41 rfl zaa ?_)
  | (refine Bu.loadG rfl 41 _ rfl w.heap.size 0 rfl (machL M S) _ HB1.out.c Tryz.underlying41 rfl zaa ?_)
  | (go_at_call 14;refine (Lk.badRun M S v l a _ HS.out HOK.out ((HIN.out.kept HL1.out).mono HL1.out.size) HA.out).mono ?_;rw [HRA.out];rintro e w2 ⟨rfl,hb2⟩;have HB2:=hid (HB1.out.kept hb2);have HL2:=hid (stp HL1.out hb2);clear hb2))
 go_ret
 exact ⟨rfl,HL9.out⟩
theorem zks (M:Mach) (S:Sl) (v:Value) (l:List Inp) (a b:Int) (w:World) (hF:AF w) (hs:SlAt w S M) (hok:M.ok) (hin:InpAt w.heap.size w v l) (ha:-9223372036854775808<=a/\a<=9223372036854775807) (hb:-9223372036854775808<=b/\b<=9223372036854775807) (hr:runErr M l a=0) (ha0:0<=a/\a<=20000) (h0:¬ b<0) (h1:¬ 20000-a<b) (h2:runErr M l (a+b)≠0) :
 Calls Tryz.prog 4 #[.agg (machL M S).toArray,v,.int .i64 a,.int .i64 b] w λe w'=>e = .returned (.bool true)/\Below w.heap.size w w':=by
 have HF:=hid hF
 have hq:Below w.heap.size w (w.alloc (.cells (machL M S).toArray 41)):=stA (st0 w) _
 have HB:=hid (Bx.new w (machL M S) 41 (b:=w.heap.size) rfl)
 have HIN:=hid hin
 have HS:=hid hs.lens
 have HOK:=hid hok
 have HA:=hid ha
 have HRA:=hid hr
 have d1:decide (b<0)=false:=decide_eq_false h0
 have d2:decide (20000-a<b)=false:=decide_eq_false h1
 obtain ⟨a0,a1⟩:=ha0
 have HAB:Hid (-9223372036854775808<=a+b/\a+b<=9223372036854775807):=hid (by omega)
 have b0:0<=b:=by omega
 have b1:b<=20000:=by omega
 obtain ⟨c,hc⟩:∃ c,runErr M l (a+b)=c:=⟨_,rfl⟩
 have HRB:=hid hc
 have hne:(c != 0)=true:=by rw [<- hc];simpa using h2
 clear hr h0 h1 h2 hc hb
 clear hF hs hok hin ha
 go_enter Tryz.func4,Tryz.ntmps4
 go_wp2_with (first
  | (go_at_call 7;refine (zan _ (HF.out.kept HL3.out)).mono ?_;rintro e w9 ⟨rfl,hb9⟩;have HL9:=hid (stp HL3.out hb9);clear hb9)
  | (go_at_call 7;refine (zan _ (HF.out.kept hq)).mono ?_;rintro e w1 ⟨rfl,hb1⟩;have HB1:=hid (HB.out.kept hb1);have HL1:=hid (stp hq hb1);clear hb1)
  | (go_at_call 14;refine (Lk.badRun M S v l (a+b) _ HS.out HOK.out ((HIN.out.kept HL2.out).mono HL2.out.size) HAB.out).mono ?_;rw [HRB.out];rintro e w3 ⟨rfl,hb3⟩;have HB3:=hid (HB2.out.kept hb3);have HL3:=hid (stp HL2.out hb3);clear hb3)
  | (refine Bu.loadG rfl 41 _ rfl w.heap.size 0 rfl (machL M S) _ HB2.out.c Tryz.underlying41 rfl zaa ?_)
  | (refine Bu.loadG rfl 41 _ rfl w.heap.size 0 rfl (machL M S) _ HB1.out.c Tryz.underlying41 rfl zaa ?_)
  | (go_at_call 14;refine (Lk.badRun M S v l a _ HS.out HOK.out ((HIN.out.kept HL1.out).mono HL1.out.size) HA.out).mono ?_;rw [HRA.out];rintro e w2 ⟨rfl,hb2⟩;have HB2:=hid (HB1.out.kept hb2);have HL2:=hid (stp HL1.out hb2);clear hb2))
 go_ret
 exact ⟨rfl,HL9.out⟩
theorem zkt (M:Mach) (S:Sl) (v:Value) (l:List Inp) (a b:Int) (w:World) (hF:AF w) (hs:SlAt w S M) (hok:M.ok) (hin:InpAt w.heap.size w v l) (ha:-9223372036854775808<=a/\a<=9223372036854775807) (hb:-9223372036854775808<=b/\b<=9223372036854775807) (hr:runErr M l a=0) (ha0:0<=a/\a<=20000) (h0:¬ b<0) (h1:¬ 20000-a<b) (h2:runErr M l (a+b)=0) (h3:19000<M.b.f) :
 Calls Tryz.prog 4 #[.agg (machL M S).toArray,v,.int .i64 a,.int .i64 b] w λe w'=>e = .returned (.bool true)/\Below w.heap.size w w':=by
 have HF:=hid hF
 have hq:Below w.heap.size w (w.alloc (.cells (machL M S).toArray 41)):=stA (st0 w) _
 have HB:=hid (Bx.new w (machL M S) 41 (b:=w.heap.size) rfl)
 have HIN:=hid hin
 have HS:=hid hs.lens
 have HOK:=hid hok
 have HA:=hid ha
 have HRA:=hid hr
 have d1:decide (b<0)=false:=decide_eq_false h0
 have d2:decide (20000-a<b)=false:=decide_eq_false h1
 obtain ⟨a0,a1⟩:=ha0
 have HAB:Hid (-9223372036854775808<=a+b/\a+b<=9223372036854775807):=hid (by omega)
 have b0:0<=b:=by omega
 have b1:b<=20000:=by omega
 have HRB:=hid h2
 have hd:decide (19000<M.b.f)=true:=decide_eq_true h3
 clear hr h0 h1 h2 h3 hb
 clear hF hs hok hin ha
 go_enter Tryz.func4,Tryz.ntmps4
 go_wp2_with (first
  | (go_at_call 7;refine (zan _ (HF.out.kept HL4.out)).mono ?_;rintro e w9 ⟨rfl,hb9⟩;have HL9:=hid (stp HL4.out hb9);clear hb9)
  | (go_at_call 7;refine (zan _ (HF.out.kept hq)).mono ?_;rintro e w1 ⟨rfl,hb1⟩;have HB1:=hid (HB.out.kept hb1);have HL1:=hid (stp hq hb1);clear hb1)
  | (go_at_call 9;refine (zbz M S _ _).mono ?_;rw [hd];rintro e w4 ⟨rfl,hb4⟩;have HL4:=hid (stp HL3.out hb4);clear hb4)
  | (refine Bu.loadG rfl 41 _ rfl w.heap.size 0 rfl (machL M S) _ HB3.out.c Tryz.underlying41 rfl zaa ?_)
  | (go_at_call 14;refine (Lk.badRun M S v l (a+b) _ HS.out HOK.out ((HIN.out.kept HL2.out).mono HL2.out.size) HAB.out).mono ?_;rw [HRB.out];rintro e w3 ⟨rfl,hb3⟩;have HB3:=hid (HB2.out.kept hb3);have HL3:=hid (stp HL2.out hb3);clear hb3)
  | (refine Bu.loadG rfl 41 _ rfl w.heap.size 0 rfl (machL M S) _ HB2.out.c Tryz.underlying41 rfl zaa ?_)
  | (refine Bu.loadG rfl 41 _ rfl w.heap.size 0 rfl (machL M S) _ HB1.out.c Tryz.underlying41 rfl zaa ?_)
  | (go_at_call 14;refine (Lk.badRun M S v l a _ HS.out HOK.out ((HIN.out.kept HL1.out).mono HL1.out.size) HA.out).mono ?_;rw [HRA.out];rintro e w2 ⟨rfl,hb2⟩;have HB2:=hid (HB1.out.kept hb2);have HL2:=hid (stp HL1.out hb2);clear hb2))
 go_ret
 exact ⟨rfl,HL9.out⟩
/-! ### what is pressed later -/
theorem zdt {M:Mach} {l:List Inp} (h:∀ y∈l,¬ y.c<=M.clock):M.pressed l=M/\M.coming l=l:=by
 cases l with
 | nil=>exact ⟨rfl,rfl⟩
 | cons x t=>exact ⟨zdq (h x List.mem_cons_self),zd2 (h x List.mem_cons_self)⟩
theorem zei (c:Int):∀ (l:List Inp) (M:Mach),Inps l->M.clock<c->M.pressed (l.filter (λx=>decide (x.c<c)))=M.pressed l/\M.coming (l.filter (λx=>decide (x.c<c)))=(M.coming l).filter (λx=>decide (x.c<c))
 | [],M,_,_=>⟨rfl,rfl⟩
 | x::t,M,hp,hc=>by
  have hp':=List.pairwise_cons.1 hp
  by_cases h:x.c<=M.clock
  ·have hx:decide (x.c<c)=true:=by rw [decide_eq_true_eq];omega
   rw [List.filter_cons,if_pos hx,zbG h,zbW h,zbG h,zbW h]
   exact zei c t (M.press x) hp'.2 (by rw [zcy];exact hc)
  ·have hall:∀ y∈x::t,¬ y.c<=M.clock:=λy hy=>by
    rcases List.mem_cons.1 hy with rfl|hy
    ·exact h
    ·have:=hp'.1 y hy
     omega
   have h1:=zdt hall
   have h2:=zdt (M:=M) (l:=(x::t).filter (λx=>decide (x.c<c))) (λy hy=>hall y (List.mem_filter.1 hy).1)
   exact ⟨h2.1.trans h1.1.symm,by rw [h1.2,h2.2]⟩
theorem zej:∀ (l:List Inp) (M:Mach),Inps l->Inps (M.coming l)
 | [],M,h=>h
 | x::t,M,h=>by
  unfold Mach.coming
  split
  ·exact zej t M (List.pairwise_cons.1 h).2
  ·exact h
structure Cs.fst (c : Int) (k k' : Cs) : Prop where
 s:k'.s=k.s
 co:k'.co=k.co.filter (λx=>decide (x.c<c))
 ln:k'.ln=k.ln
 sm:k'.sm=k.sm
 p:Inps k.co
theorem zfs (c:Int) (k k':Cs) (h:Cs.fst c k k'):∀ j:Nat,k.s.M.clock+j<=c->Cs.fst c (k.clocks j) (k'.clocks j)/\(k.clocks j).s.M.clock=k.s.M.clock+j
 | 0,_=>⟨h,by simp [Cs.clocks]⟩
 | j+1,hj=>by
  obtain ⟨ih,hc⟩:=zfs c k k' h j (by omega)
  obtain ⟨q,hq⟩:∃ q,q=k.clocks j:=⟨_,rfl⟩
  obtain ⟨q',hq'⟩:∃ q,q=k'.clocks j:=⟨_,rfl⟩
  have e1:k.clocks (j+1)=q.clock:=by rw [hq];rfl
  have e2:k'.clocks (j+1)=q'.clock:=by rw [hq'];rfl
  rw [<- hq] at ih hc
  rw [<- hq'] at ih
  rw [e1,e2]
  obtain ⟨s1,s2,s3,s4,s5⟩:=ih
  obtain ⟨p1,p2⟩:=zei c q.co q.s.M s5 (by omega)
  have hp:q'.s.M.pressed q'.co=q.s.M.pressed q.co:=by rw [s1,s2,p1]
  have hn:q'.now.s=q.now.s:=by
   show (Bst.stepMain ⟨q'.s.M.pressed q'.co,q'.s.n,q'.s.l⟩).stepAux=(Bst.stepMain ⟨q.s.M.pressed q.co,q.s.n,q.s.l⟩).stepAux
   rw [hp,s1]
  refine ⟨⟨?_,?_,?_,?_,zej _ _ s5⟩,?_⟩
  ·show (⟨q'.now.s.M.goOn,q'.now.s.n,q'.now.s.l⟩:Bst)=⟨q.now.s.M.goOn,q.now.s.n,q.now.s.l⟩
   rw [hn]
  ·show q'.s.M.coming q'.co=(q.s.M.coming q.co).filter _
   rw [s1,s2,p2]
  ·show q'.ln++(q'.s.M.pressed q'.co).line=q.ln++(q.s.M.pressed q.co).line
   rw [hp,s3]
  ·show q'.sm++(q'.s.M.pressed q'.co).sample=q.sm++(q.s.M.pressed q.co).sample
   rw [hp,s4]
  ·show q.now.s.M.clock+1=_
   rw [za9,hc];push_cast;omega
def fst (l:List Inp) (c:Int) (j:Nat):List Inp:=(l.take j).filter (λx=>decide (x.c<c))
theorem zpt {l:List Inp} {c:Int} {j:Nat} {x:Inp} (h:l[j]? = some x):fst l c (j+1)=fst l c j++(if x.c<c then [x] else []):=by
 unfold fst
 rw [List.take_add_one,h,List.filter_append]
 congr 1
 by_cases hc:x.c<c
 ·simp [hc]
 ·simp [hc]
theorem zrb (l:List Inp) (c:Int) (j:Nat):(fst l c j).length<=l.length:=by
 unfold fst
 have h1:=List.length_filter_le (λx:Inp=>decide (x.c<c)) (l.take j)
 rw [List.length_take] at h1
 omega
theorem ziO (l:List Inp) (c:Int):fst l c l.length=l.filter (λx=>decide (x.c<c)):=by
 unfold fst
 rw [List.take_length]
theorem zrc {l:List Inp} {a c:Int} (h:chkIn l a=0):chkIn (l.filter (λx=>decide (x.c<c))) a=0:=by
 obtain ⟨h1,h2⟩:=zb8 h
 obtain ⟨h3,h4⟩:=zb7 l a h2
 unfold chkIn
 rw [if_neg (by have:=List.length_filter_le (λx:Inp=>decide (x.c<c)) l;omega)]
 refine ziM _ _ (List.Pairwise.filter _ h3) (λx hx=>?_)
 obtain ⟨hx1,hx2⟩:=List.mem_filter.1 hx
 exact ⟨(zcz l a h2 x hx1).2,h4 x hx1,(zcz l a h2 x hx1).1⟩
/-! ### rows of one's own, side by side -/
theorem zjs {w w':World} {B z n:Nat} {t:TypeId} {v:Value} {xs:List Value} {row:Option Nat} (h:w.ownsRow B t z v n xs) (hg:w.grownBy w' row) (hne:∀ k,v.ownBlock=some k->row≠some k):w'.ownsRow B t z v n xs :=
 zaF h (λj e=>hg.block j (zaI h j e).2.1 (λe'=>hne j e e'.symm))
theorem zcq {w:World} {B n z:Nat} {t:TypeId} {v:Value} {xs:List Value} {ops:Array Oper} {rest:List Oper} {o:Oper} {a:Act} {Q:Exit->Act->World->Prop} {ts:TypeId} {zv:Value} {y:Nat} (hts:Tryz.prog.underlying ts=some (.slice t)) (hinf:(Tryz.prog.info? t).map (λi=>(i.zero,i.size,i.bytes))=some (some zv,z,y)) (hzs:zv.cells.size=z) (hz:0<z) (hy:y<=64)
 (hgd:o.guard=none) (s x:Operand) (ho:o.op = .call { callee:=.builtin .append,args:=#[s,x],argTypes:=#[ts,ts] }) (hs:a.eval s=v) (hown:w.ownsRow B t z v n xs) (xv:Value) (hx:a.eval x=xv) {m:Nat} {ys:List Value} (hl:RwAt w xv m z ys) (h1:∀ u∈ys,u.oneCell'=true) (hm:m≠0) (hb:n+m<=100000) (hB:B<=w.heap.size)
 (h:∀ v' w',w'.ownsRow B t z v' (n+m) (xs++ys)->w.grownBy w' v.ownBlock->(∀ k,v'.ownBlock=some k->v.ownBlock=some k \/ k=w.heap.size)->wpList Tryz.prog ops Q rest (a.put o.dst v') w'):wpList Tryz.prog ops Q (o::rest) a w:=by
 obtain ⟨i0,hi0,hz0,hz1,hz2⟩:=info_parts hinf
 obtain ⟨hl0,hl1|⟨g,o',c,e1,e2,e3,e4⟩⟩:=hl
 ·exact absurd hl1.1 hm
 ·refine wpList_append_lies _ hgd s x _ ho B t i0 zv z y hts hi0 hz0 hz1 hz2 hzs hz v n xs hs hown ⟨g,o',none⟩ m c ys (hx.trans e1) hl0 (λj u hj=>by rw [addr_add];exact e4 j u hj) h1 (by omega) (by unfold maxLen;omega) (Nat.le_trans (Nat.mul_le_mul hb hy) (by decide)) hB w.heap.size rfl ?_
  intro g' cap w' hown' hgrow hat _
  exact h _ w' hown' hgrow (λk e=>by cases e;exact hat)
/-! ### a run's end -/
def RunsTo (fn:Nat) (args:Array Value) (W:World) (k:Cs):Prop :=
 Calls Tryz.prog fn args W λe w'=>∃ (F:Fx) (a1 a2 a3:Option Addr) (c1 c2 c3:Nat),e = .returned (.tuple #[.agg (machL k.s.M F.S).toArray,.agg #[.slice a1 k.ln.length c1,.slice a2 k.sm.length c2,.slice a3 k.s.l.length c3],.int .i64 0])/\SlAt w' F.S k.s.M/\ShAt w' (.slice a1 k.ln.length c1) (.slice a2 k.sm.length c2) (.slice a3 k.s.l.length c3) k.ln k.sm k.s.l/\k.s.M.fit/\Below W.heap.size W w'
theorem Ct.runs (M:Mach) (S:Sl) (v:Value) (l:List Inp) (n:Nat) (w:World) (k:Cs) (hs:SlAt w S M) (hsh:shapesAt w) (hin:InpAt w.heap.size w v l) (hd:∀ x∈l,0<=x.d/\x.d<=255) (hf:M.fit) (hf2:M.b.f<=19900) (hc:chkIn l M.clock=0) (hn:n<=20000/\M.clock+n<=200000) (hk:(Cs.clocks ⟨⟨M,0,[]⟩,l,[],[]⟩ n).s.M=k.s.M/\(Cs.clocks ⟨⟨M,0,[]⟩,l,[],[]⟩ n).ln=k.ln/\(Cs.clocks ⟨⟨M,0,[]⟩,l,[],[]⟩ n).sm=k.sm/\(Cs.clocks ⟨⟨M,0,[]⟩,l,[],[]⟩ n).s.l=k.s.l) :
 RunsTo 10 #[.agg (machL M S).toArray,v,.int .i64 n] w k:=by
 obtain ⟨k1,k2,k3,k4⟩:=hk
 refine (zee M S v l n w hs hsh hin hd hf hf2 hc hn).mono ?_
 rintro e w' ⟨F,N,vln,vsm,vw,rfl,hT,_,_,_,hb⟩
 obtain ⟨p1,c1,e1⟩:=zdd hT.ln
 obtain ⟨p2,c2,e2⟩:=zdd hT.sm
 obtain ⟨p3,c3,e3⟩:=zdd hT.ws
 have hsh:=sh_of hT
 have hsl:=hT.sl
 have hft:=hT.fit
 subst e1 e2 e3
 rw [k1] at hsl hft ⊢
 rw [k2,k3,k4] at hsh ⊢
 exact ⟨F,p1,p2,p3,c1,c2,c3,rfl,hsl,hsh,hft,hb⟩
structure PF (w : World) (M : Mach) (S : Sl) (v : Value) (l : List Inp) (vf : Value) (lf : List Inp) (vr : Value) (lr : List Inp) (Y : World) : Prop where
 low:Below w.heap.size w Y
 m:Bx Y w.heap.size (machL M S)
 sm:SlAt Y S M
 inp:InpAt Y.heap.size Y v l
 fi:InpAt Y.heap.size Y vf lf
 ri:InpAt Y.heap.size Y vr lr
theorem PF.kept {w:World} {M:Mach} {S:Sl} {v:Value} {l:List Inp} {vf:Value} {lf:List Inp} {vr:Value} {lr:List Inp} {Y Y':World} (h:PF w M S v l vf lf vr lr Y) (hb:Below Y.heap.size Y Y'):PF w M S v l vf lf vr lr Y' :=
 ⟨stp h.low hb,h.m.kept hb,h.sm.kept hb,(h.inp.kept hb).mono hb.size,(h.fi.kept hb).mono hb.size,(h.ri.kept hb).mono hb.size⟩
theorem RunsTo.mono {fn:Nat} {args:Array Value} {W:World} {k:Cs} (h:RunsTo fn args W k) {R:Ending->World->Prop} (hm:∀ e w',(∃ (F:Fx) (a1 a2 a3:Option Addr) (c1 c2 c3:Nat),e = .returned (.tuple #[.agg (machL k.s.M F.S).toArray,.agg #[.slice a1 k.ln.length c1,.slice a2 k.sm.length c2,.slice a3 k.s.l.length c3],.int .i64 0])/\SlAt w' F.S k.s.M/\ShAt w' (.slice a1 k.ln.length c1) (.slice a2 k.sm.length c2) (.slice a3 k.s.l.length c3) k.ln k.sm k.s.l/\k.s.M.fit/\Below W.heap.size W w')->R e w'):Calls Tryz.prog fn args W R:=Calls.mono h hm
theorem zsx {M:Mach} {l:List Inp} {a b:Nat} {k k2 k3:Cs} (hf:M.fit) (h19:M.b.f<=19000) (ha:a<=20000) (h:Two M l a b k k2 k3):k.s.M.b.f<=19900:=by
 have hrn:=zbb ⟨⟨M,0,[]⟩,l,[],[]⟩ ⟨hf.b.l0,hf.b.l1,hf.b.a0,hf.b.a1,hf.b.f0,by show M.b.f<=20000;omega⟩ h19 a ha
 rw [<- h.e1] at hrn
 rw [hrn.f]
 show bmF M.b.l M.b.a M.b.f a<=19900
 have hb:=hf.b
 have:=hb.l0;have:=hb.l1;have:=hb.a0;have:=hb.a1
 unfold bmF
 omega
theorem zrd {M:Mach} {l:List Inp} {a b:Nat} {k k2 k3:Cs} (hf:M.fit) (hc:chkIn l M.clock=0) (ha:a<=20000) (h:Two M l a b k k2 k3):(Cs.clocks ⟨⟨M,0,[]⟩,fst l (M.clock+a) l.length,[],[]⟩ a).s.M=k.s.M/\(Cs.clocks ⟨⟨M,0,[]⟩,fst l (M.clock+a) l.length,[],[]⟩ a).ln=k.ln/\(Cs.clocks ⟨⟨M,0,[]⟩,fst l (M.clock+a) l.length,[],[]⟩ a).sm=k.sm/\(Cs.clocks ⟨⟨M,0,[]⟩,fst l (M.clock+a) l.length,[],[]⟩ a).s.l=k.s.l:=by
 obtain ⟨_,hl⟩:=zb8 hc
 obtain ⟨hp,_⟩:=zb7 l _ hl
 have h1:=(zfs (M.clock+a) ⟨⟨M,0,[]⟩,l,[],[]⟩ ⟨⟨M,0,[]⟩,fst l (M.clock+a) l.length,[],[]⟩ ⟨rfl,ziO _ _,rfl,rfl,hp⟩ a (Int.le_refl _)).1
 rw [<- h.e1] at h1
 exact ⟨by rw [h1.s],h1.ln,h1.sm,by rw [h1.s]⟩
end Go.Proofs.YtbennamieealbaaGreatDoor
