/-
  For every machine, anything that is pressed and every number the law CatchLock of the program returns true and leaves its arguments as they were; the listed library variables are as the tied card says.
-/
import Derived.Test.YtbennamieealbaaGreatDoorZc06
import Derived.Test.YtbennamieealbaaGreatDoorCards
import Derived.Test.YtbennamieealbaaGreatDoorTie
import Derived.SevenTiedAt
import Derived.Test.YtbennamieealbaaGreatDoorZc37
import Derived.Test.YtbennamieealbaaGreatDoorZc38
import Derived.Test.YtbennamieealbaaGreatDoorZc41
import Derived.Test.YtbennamieealbaaGreatDoorZc40
set_option linter.unusedVariables false
set_option maxRecDepth 100000
set_option maxHeartbeats 6400000
namespace Go.Proofs.YtbennamieealbaaGreatDoor
open Go.ChangeShapes Go.WideShapes Go.ChangeAt Go.RowKit
def CatchLockWalk:Prop:=∀ (H:Type) (enc:TypeId × Value->H) (W:World) (base:Nat) (v0 v1 v2:Value) (d0 d1 d2:DataW H) (p0 p1 p2:List MemPlace),AF W ->
 Value.okWide Tryz.prog W .any base (Tryz.f3.params.getD 0 0) v0->DataW.Trod enc Tryz.prog W 0 (λ_=>true) true (Tryz.f3.params.getD 0 0) v0 d0 p0->Value.okWide Tryz.prog W .any base (Tryz.f3.params.getD 1 0) v1->DataW.Trod enc Tryz.prog W 0 (λ_=>true) true (Tryz.f3.params.getD 1 0) v1 d1 p1->Value.okWide Tryz.prog W .any base (Tryz.f3.params.getD 2 0) v2->DataW.Trod enc Tryz.prog W 0 (λ_=>true) true (Tryz.f3.params.getD 2 0) v2 d2 p2 ->
 Calls Tryz.prog 3 #[v0,v1,v2] W λe w'=>e = .returned (.bool true)/\Below W.heap.size W w'
theorem zdu (walk:CatchLockWalk) (os:Os) (started:os.Started) (H:Type) (enc:TypeId × Value->H) :
 ReturnsInHanded {} Tryz.checked os 3 .any (λw args=>(Rows.catchLockSpec.pre enc Tryz.prog Tryz.f3 [] false w args/\laidMetH Tryz.prog Rows.catchLockRow.laid w)/\sizedMet enc Tryz.prog Tryz.f3 (OpenSpec.ofChange Rows.catchLockSpec) false w args)
  (Rows.catchLockSpec.post enc Tryz.prog Tryz.f3 false true false false):=by
 refine zbA (C:=Tryz.checked) (X:=λw _=>laidMetH Tryz.prog Rows.catchLockRow.laid w) (λ_ _ _ hh h=>h.of_heap hh) own started (by kernel_rfl) Tryz.func3
  (ChangeSpec.witness_shaped (enc:=enc) (C:=Tryz.checked) (os:=os) (X:=λw _=>laidMetH Tryz.prog Rows.catchLockRow.laid w) false (World.laidAll Tryz.prog os Rows.catchLockRow.laid) #[.agg #[.int .u16 0,.int .u16 0,.int .u16 0,.int .u16 0,.int .u16 0,.int .u16 0,.int .u16 0,.int .u16 0,.int .u16 0,.bool false,.bool false,.bool false,.bool false,.bool false,.bool false,.int .u16 0,.int .u16 0,.int .u16 0,.int .u16 0,.int .u16 0,.int .u16 0,.int .u16 0,.int .u16 0,.int .u16 0,.bool false,.bool false,.bool false,.bool false,.bool false,.bool false,.slice none 0 0,.slice none 0 0,.slice none 0 0,.slice none 0 0,.slice none 0 0,.int .u8 0,.bool false,.int .u8 0,.int .u8 0,.bool false,.int .u8 0,.int .u16 0,.int .u16 0,.bool false,.bool false,.int .u16 0,.int .u16 0,.int .u8 0,.bool false,.int .u16 0,.int .u16 0,.int .u16 0,.int .u8 0,.bool false,.int .u16 0,.int .u16 0,.int .u16 0,.int .u8 0,.bool false,.int .u16 0,.int .i64 0,.int .i64 0,.int .i64 0,.bool false,.int .i64 0,.int .u16 0,.int .u16 0,.bool false,.bool false,.int .u8 0,.int .u8 0,.bool false,.int .i64 0,.int .i64 0,.int .i64 0],.slice none 0 0,.int .i64 0] 8 (World.laidAll_os _ _ _)
    (World.shaped_of_ZipB (by kernel_rfl) (by kernel_rfl)) (by kernel_rfl) (by kernel_rfl) (by kernel_rfl)
    (by rw [MakeChecks.laidMetH_plain _ _ _ (by kernel_rfl)];exact laidMet_laidAll _ (by kernel_rfl) (by kernel_rfl))) ?_
 intro W base args ds gs before hval0 hW _ hwt hL hsh _
 have hval:∀ (j:Nat) t v,Tryz.f3.params[j]? = some t->args[j]? = some v->Value.okWide Tryz.prog W .any base t v:=hval0
 have hW':=hW
 obtain ⟨p,q,hA0,hV,rfl,_,_⟩:=hW
 have hA:DataW.TrodAll enc Tryz.prog W 0 (λ_=>true) true Tryz.f3.params.toList args.toList ds p:=hA0
 have hA1:=hA
 rw [Tryz.params3] at hA hval
 obtain ⟨v0,vs0,d0,ds0,p0,q0,hargs,rfl,rfl,h0,r0⟩:=trodAll_cons hA
 obtain ⟨v1,vs1,d1,ds1,p1,q1,rfl,rfl,rfl,h1,r1⟩:=trodAll_cons r0
 obtain ⟨v2,vs2,d2,ds2,p2,q2,rfl,rfl,rfl,h2,r2⟩:=trodAll_cons r1
 obtain ⟨rfl,rfl,rfl⟩:=trodAll_nil r2
 obtain rfl:args=#[v0,v1,v2]:=by cases args;simp_all
 obtain ⟨rfl,rfl⟩:=trodVars_none hV
 rw [MakeChecks.laidMetH_plain _ _ _ (by kernel_rfl)] at hL
 have hlt:=λx hx=>hW'.lt x (List.mem_append_left _ hx)
 refine (walk H enc W base v0 v1 v2 d0 d1 d2 _ _ _ (af_of hL hsh (by simp [Rows.catchLockRow]) (by simp [Rows.catchLockRow])) (hval 0 _ v0 rfl rfl) h0 (hval 1 _ v1 rfl rfl) h1 (hval 2 _ v2 rfl rfl) h2).mono λe W' ⟨he,hb⟩=>?_
 subst he
 exact ⟨_,rfl,_,_,_,[],_,[],hW',trodAll_mk1 (shut_bool Tryz.underlying4 _),zbL (by kernel_rfl) hb (by kernel_rfl) hA1 hlt,rfl,hb.frame _,λh=>by cases h⟩
theorem and_t {a b:Bool} (ha:a=true) (hb:b=true):(a && b)=true:=by rw [ha,hb];rfl
theorem zg9:(Rows.catchLockRow.wf (OpenSpec.ofChange Rows.catchLockSpec))=true:=by kernel_rfl
theorem zha:(laidOutB Tryz.prog)=true:=by kernel_rfl
theorem zhb:(mapsRowed Tryz.prog)=true:=by kernel_rfl
theorem zhc:(Tryz.f3.params.all (Tryz.prog.readableRec ·))=true:=by kernel_rfl
theorem zhd:(namedTie Tryz.prog Rows.catchLockRow.named Rows.catchLockSpec.vars)=true:=by kernel_rfl
theorem zhe:((Rows.catchLockRow.stops == []))=true:=by kernel_rfl
theorem zhf:((Tryz.prog.stops == []))=true:=by kernel_rfl
theorem zhg:((Rows.catchLockRow.knobs == []))=true:=by kernel_rfl
theorem zhh:((Tryz.prog.stopKnobs == []))=true:=by kernel_rfl
theorem zhi:((Rows.catchLockRow.inPlace == Tryz.prog.inPlace 3))=true:=by kernel_rfl
theorem zfJ:((Rows.catchLockRow.unfollowed == Tryz.prog.unfollowed 3))=true:=by kernel_rfl
theorem zfK:((Rows.catchLockRow.recurses == Tryz.prog.recurses 3))=true:=by kernel_rfl
theorem zfL:((Rows.catchLockRow.named == Tryz.prog.varsNamed 3))=true:=by kernel_rfl
theorem zfM:((Rows.catchLockRow.maps == (Tryz.f3.params.toList++Rows.catchLockSpec.plain.varTypes Tryz.prog).any (Tryz.prog.mapsRec ·)))=true:=by kernel_rfl
theorem zfN:((Rows.catchLockRow.ifaces == (Tryz.f3.params.toList++Rows.catchLockSpec.plain.varTypes Tryz.prog).any (Tryz.prog.ifacesRec ·)))=true:=by kernel_rfl
theorem zfO:((Rows.catchLockRow.mapsOut == Tryz.prog.mapsAmong Tryz.f3.resultTypes.toList))=true:=by kernel_rfl
theorem zfP:((Rows.catchLockRow.loops == (Tryz.f3.params.toList++Rows.catchLockSpec.plain.varTypes Tryz.prog).any (Tryz.prog.loopsFrom ·)))=true:=by kernel_rfl
theorem zfQ:((Rows.catchLockRow.wideKeys == (Tryz.f3.params.toList++Rows.catchLockSpec.plain.varTypes Tryz.prog++Tryz.f3.resultTypes.toList).any (Tryz.prog.wideKeysFrom ·)))=true:=by kernel_rfl
theorem zfR:(Rows.catchLockSpec.vars.all (Tryz.prog.varReadable ·))=true:=by kernel_rfl
theorem zfS:(Tryz.f3.resultTypes.all (λt=>Tryz.prog.readableRec t && decide (t<Tryz.prog.types.size)))=true:=by kernel_rfl
theorem zfT:((Rows.catchLockRow.ifacesOut == Tryz.f3.resultTypes.toList.any (Tryz.prog.ifacesRec ·)))=true:=by kernel_rfl
theorem zfU:((Rows.catchLockRow.loopsOut == Tryz.f3.resultTypes.toList.any (Tryz.prog.loopsFrom ·)))=true:=by kernel_rfl
theorem zfV:((Rows.catchLockRow.plainKeys == Tryz.prog.plainKeys))=true:=by kernel_rfl
theorem zfW:(Rows.catchLockRow.shortTexts.isNone)=true:=by kernel_rfl
theorem zfX:(Tryz.prog.stopsHeard)=true:=by kernel_rfl
theorem zfY:(Tryz.prog.mayEnter)=true:=by kernel_rfl
theorem zfZ:((Rows.catchLockRow.lifted == Tryz.prog.liftsFinal))=true:=by kernel_rfl
theorem zf0:((Tryz.prog.make == some Rows.catchLockRow.make))=true:=by kernel_rfl
theorem zf1:((Rows.catchLockRow.kinds == (if Rows.catchLockRow.domain.isEmpty then [] else Tryz.f3.params.toList.map λt=>match Tryz.prog.underlying t with|some (.int k)=>some k|_=>none)))=true:=by kernel_rfl
theorem zf2:((Rows.catchLockRow.pinned == Rows.catchLockRow.pinnedBy))=true:=by kernel_rfl
theorem zf3:((Rows.catchLockRow.veiled == (Tryz.f3.params.toList++Rows.catchLockSpec.plain.varTypes Tryz.prog++Tryz.f3.resultTypes.toList).any (Tryz.prog.veiledRec ·)))=true:=by kernel_rfl
theorem zf4:(Rows.catchLockRow.veiledFits Tryz.prog Tryz.f3.params.toList (Tryz.f3.params.toList++Rows.catchLockSpec.plain.varTypes Tryz.prog++Tryz.f3.resultTypes.toList))=true:=by kernel_rfl
theorem zdJ:joinedFacts Tryz.prog 3 Tryz.f3 Rows.catchLockSpec Rows.catchLockRow=true:=and_t (and_t (and_t (and_t (and_t (and_t (and_t (and_t (and_t (and_t (and_t (and_t (and_t (and_t (and_t (and_t (and_t (and_t (and_t (and_t (and_t (and_t (and_t (and_t (and_t (and_t (and_t (and_t (and_t (and_t (and_t (zg9) zha) zhb) zhc) zhd) zhe) zhf) zhg) zhh) zhi) zfJ) zfK) zfL) zfM) zfN) zfO) zfP) zfQ) zfR) zfS) zfT) zfU) zfV) zfW) zfX) zfY) zfZ) zf0) zf1) zf2) zf3) zf4
theorem zf5 (walk:CatchLockWalk):Rows.CatchLockSaid :=
 OpenClaim.holds_of_wide 3 Tryz.f3 rfl rfl rfl rfl rfl rfl rfl ⟨rfl,rfl,rfl,rfl,rfl⟩ rfl rfl rfl rfl rfl (by kernel_rfl) Tryz.func3 zdJ
  (of_decide_eq_true (by kernel_rfl)) (by unfold Func.isWrapper;first|(rw [if_pos (by decide +kernel)];kernel_rfl)|(rw [if_neg (by decide +kernel)];exact ⟨rfl,rfl⟩))
  (λos started H enc _=>zdu walk os started H enc)
theorem zhj:Rows.catchLockRow.wfByText (OpenSpec.ofChange Rows.catchLockSpec)=true:=by kernel_rfl
theorem zhk:Tryz.pinned.checked.prog.mainIs=some (Rows.catchLockCard.stood.harness.1,Rows.catchLockCard.stood.harness.2.toList):=by kernel_rfl
theorem zhl:(!Rows.catchLockCard.stood.harness.1 && Rows.catchLockCard.stood.harness.2.isEmpty && !Rows.catchLockCard.stood.looks)=false:=by kernel_rfl
theorem zhm:Tryz.pinned.checked.prog.funcNamed Rows.catchLockRow.func=some 3:=by kernel_rfl
theorem zhn:Rows.catchLockCard.stood.looks=Tryz.pinned.checked.prog.looks []:=by kernel_rfl
theorem zho:(Tryz.f3.params.toList.all λt=>!(Tryz.pinned.checked.prog.wantsStandIn t))=true:=by kernel_rfl
theorem zhp:false=Rows.catchLockRow.goesBy Tryz.pinned.checked.prog:=by kernel_rfl
theorem zet (walk:CatchLockWalk):Rows.CatchLockCardSaid :=
 Claim7.holds_tied_plain_at .later [] Rows.catchLockCard.laidKinds true Rows.catchLockCard.stood.harness Rows.catchLockCard.stood.looks (zf5 walk) (λ_ h=>by cases h) zhj (λ_ h=>by cases h) catchLock_row_tie rfl ⟨rfl,rfl⟩ zhk zhl
  (λf fn hf hfn=>by
    obtain rfl:3=f:=Option.some.inj (zhm.symm.trans hf)
    obtain rfl:Tryz.f3=fn:=Option.some.inj (Tryz.func3.symm.trans hfn)
    exact ⟨zhn,λj t ht=>by
     have hm:t∈Tryz.f3.params.toList:=List.mem_of_getElem? (i:=j) (by rw [Array.getElem?_toList];exact ht)
     have:=List.all_eq_true.1 zho t hm
     exact Bool.not_eq_true' _ ▸ this⟩)
  zhp
theorem znk (M:Mach) (S:Sl) (v:Value) (l:List Inp) (n:Int) (w:World) (hF:AF w) (hs:SlAt w S M) (hz:∀ j,j<5->(M.byt j).length<=9223372036854775807) (hok:M.ok) (hin:InpAt w.heap.size w v l) (hck:M.chk=0) (h19:19000<M.b.f) :
 Calls Tryz.prog 3 #[.agg (machL M S).toArray,v,.int .i64 n] w λe w'=>e = .returned (.bool true)/\Below w.heap.size w w':=by
 have HF:=hid hF
 have hq:Below w.heap.size w (w.alloc (.cells (machL M S).toArray 41)):=stA (st0 w) _
 have HB:=hid (Bx.new w (machL M S) 41 (b:=w.heap.size) rfl)
 have HSL:=hid hs.lens
 have HZ:=hid hz
 have HCK:=hid hck
 have hd:decide (19000<M.b.f)=true:=decide_eq_true h19
 clear hF hs hz hok hin hck h19
 go_enter Tryz.func3,Tryz.ntmps3
 go_wp2_with (first
  | (go_at_call 7;refine (zan _ (HF.out.kept HL3.out)).mono ?_;rintro e w9 ⟨rfl,hb9⟩;have HL9:=hid (stp HL3.out hb9);clear hb9)
  | (go_at_call 7;refine (zan _ (HF.out.kept hq)).mono ?_;rintro e w1 ⟨rfl,hb1⟩;have HB1:=hid (HB.out.kept hb1);have HL1:=hid (stp hq hb1);clear hb1)
  | (refine Bu.loadG rfl 41 _ rfl w.heap.size 0 rfl (machL M S) _ HB2.out.c Tryz.underlying41 rfl zaa ?_)
  | (refine Bu.loadG rfl 41 _ rfl w.heap.size 0 rfl (machL M S) _ HB1.out.c Tryz.underlying41 rfl zaa ?_)
  | (go_at_call 8;refine (za6 M S _ HSL.out HZ.out).mono ?_;rw [HCK.out];rintro e w2 ⟨rfl,hb2⟩;have HB2:=hid (HB1.out.kept hb2);have HL2:=hid (stp HL1.out hb2);clear hb2)
  | (go_at_call 9;refine (zbz M S _ _).mono ?_;rw [hd];rintro e w3 ⟨rfl,hb3⟩;have HB3:=hid (HB2.out.kept hb3);have HL3:=hid (stp HL2.out hb3);clear hb3))
 go_ret
 exact ⟨rfl,HL9.out⟩
theorem znl (M:Mach) (S:Sl) (v:Value) (l:List Inp) (n:Int) (w:World) (hF:AF w) (hs:SlAt w S M) (hz:∀ j,j<5->(M.byt j).length<=9223372036854775807) (hok:M.ok) (hin:InpAt w.heap.size w v l) (hn:-9223372036854775808<=n/\n<=9223372036854775807) (hr:runErr M l n≠0) (hck:M.chk≠0) :
 Calls Tryz.prog 3 #[.agg (machL M S).toArray,v,.int .i64 n] w λe w'=>e = .returned (.bool true)/\Below w.heap.size w w':=by
 have HF:=hid hF
 have hq:Below w.heap.size w (w.alloc (.cells (machL M S).toArray 41)):=stA (st0 w) _
 have HB:=hid (Bx.new w (machL M S) 41 (b:=w.heap.size) rfl)
 have HSL:=hid hs.lens
 have HZ:=hid hz
 obtain ⟨ck,hcx⟩:∃ ck,M.chk=ck:=⟨_,rfl⟩
 have hc0:(ck == 0)=false:=by rw [<- hcx];simpa using hck
 have HCK:=hid hcx
 clear hcx hck
 obtain ⟨r,hre⟩:∃ r,r=runErr M l n:=⟨_,rfl⟩
 have hcr:∀ W,Below w.heap.size w W->Calls Tryz.prog 10 #[.agg (machL M S).toArray,v,.int .i64 n] W λe w'=>e = .returned (.tuple #[.agg (machL zeroM nilS).toArray,.agg #[.slice none 0 0,.slice none 0 0,.slice none 0 0],.int .i64 r])/\Below W.heap.size W w':=λW h=>by
  rw [hre];exact zfp M S v l n W (hs.kept h) hz hok ((hin.kept h).mono h.size) hn hr
 have hlr:∀ W,Below w.heap.size w W->Calls Tryz.prog 11 #[.agg (machL M S).toArray,v,.int .i64 n] W λe w'=>e = .returned (.tuple #[.agg (machL zeroM nilS).toArray,.agg #[.slice none 0 0,.slice none 0 0,.slice none 0 0],.int .i64 r])/\Below W.heap.size W w':=λW h=>by
  rw [hre];exact zfo M S v l n W (hs.kept h) hz hok ((hin.kept h).mono h.size) hn hr
 have HCR:=hid hcr
 have HLR:=hid hlr
 clear hF hs hz hok hin hn hr hre hcr hlr
 go_enter Tryz.func3,Tryz.ntmps3
 go_upto_region 3 with (first
  | (go_at_call 7;refine (zan _ (HF.out.kept hq)).mono ?_;rintro e w1 ⟨rfl,hb1⟩;have HB1:=hid (HB.out.kept hb1);have HL1:=hid (stp hq hb1);clear hb1)
  | (refine Bu.loadG rfl 41 _ rfl w.heap.size 0 rfl (machL M S) _ HB2.out.c Tryz.underlying41 rfl zaa ?_)
  | (refine Bu.loadG rfl 41 _ rfl w.heap.size 0 rfl (machL M S) _ HB1.out.c Tryz.underlying41 rfl zaa ?_)
  | (go_at_call 8;refine (za6 M S _ HSL.out HZ.out).mono ?_;rw [HCK.out];rintro e w2 ⟨rfl,hb2⟩;have HB2:=hid (HB1.out.kept hb2);have HL2:=hid (stp HL1.out hb2);clear hb2))
 go_wp2_with (first
  | (refine wpList_load_mid rfl 41 _ rfl w.heap.size 0 rfl (machL M S) _ HB6.out.c Tryz.underlying41 rfl zaa ?_)
  | (refine wpList_load_mid rfl 41 _ rfl w.heap.size 0 rfl (machL M S) _ HB2.out.c Tryz.underlying41 rfl zaa ?_)
  | (go_at_call 10;refine (HCR.out _ HL2.out).mono ?_;rintro e w5 ⟨rfl,hb5⟩;have HB5:=hid (HB2.out.kept hb5);have HL5:=hid (stp HL2.out hb5);have HIS:=hid zgo;have HSX:=hid (zjp w5);have HSH:=hid (zjq w5);clear hb5)
  | (go_at_call 11;refine (HLR.out _ HL6.out).mono ?_;rintro e w7 ⟨rfl,hb7⟩;have HL7:=hid (stp HL6.out hb7);have HP7:=hid (HP6.out.kept hb7);have HIS2:=hid zgo;have HSX2:=hid (zjp w7);have HSH2:=hid (zjq w7);clear hb7)
  | (refine wpList_store_mid rfl 41 _ _ rfl w7.heap.size 0 (machL zeroM nilS).toArray rfl rfl (R3.th1 w7) zaa (zaw _ _ HIS2.out) ?_
     refine Pl.cutL (R3 w7 zeroM nilS nil3) (R3.mk1 w7 zeroM nilS) ?_
     intro Y3 hY3
     have HY3:=hid hY3
     clear hY3)
  | (refine wpList_store_mid rfl 50 _ _ rfl (w7.heap.size+1) 0 #[.slice none 0 0,.slice none 0 0,.slice none 0 0] rfl rfl (HY3.out.s.there 0 3 (by simp)) zaj (one3 _ _ _ _ _ _ _ _ _) ?_
     refine Pl.cutL (R3 w7 zeroM nilS [.slice none 0 0,.slice none 0 0,.slice none 0 0]) HY3.out.put ?_
     intro Y4 hY4
     have hP1:=HP7.out.kept hY4.old
     have HPB:=hid hP1
     have HPC:=hid (⟨hY4,HSX2.out.kept hY4.old,HSH2.out.kept hY4.old⟩:RX w7 zeroM nilS (.slice none 0 0) (.slice none 0 0) (.slice none 0 0) ⟨⟨zeroM,0,[]⟩,[],[],[]⟩ Y4)
     have HL8:=hid (stp HL7.out hY4.old)
     clear hY4 hP1)
  | (refine wpList_store_mid rfl 41 _ _ rfl w5.heap.size 0 (machL zeroM nilS).toArray rfl rfl (R3.th1 w5) zaa (zaw _ _ HIS.out) ?_
     refine Pl.cutL (R3 w5 zeroM nilS nil3) (R3.mk1 w5 zeroM nilS) ?_
     intro Y1 hY1
     have HY1:=hid hY1
     clear hY1)
  | (refine wpList_store_mid rfl 50 _ _ rfl (w5.heap.size+1) 0 #[.slice none 0 0,.slice none 0 0,.slice none 0 0] rfl rfl (HY1.out.s.there 0 3 (by simp)) zaj (one3 _ _ _ _ _ _ _ _ _) ?_
     refine Pl.cutL (R3 w5 zeroM nilS [.slice none 0 0,.slice none 0 0,.slice none 0 0]) HY1.out.put ?_
     intro Y2 hY2
     have HP6:=hid (⟨hY2,HSX.out.kept hY2.old,HSH.out.kept hY2.old⟩:RX w5 zeroM nilS (.slice none 0 0) (.slice none 0 0) (.slice none 0 0) ⟨⟨zeroM,0,[]⟩,[],[],[]⟩ Y2)
     have HB6:=hid (HB5.out.kept hY2.old)
     have HL6:=hid (stp HL5.out hY2.old)
     clear hY2)
  | (refine Bu.loadG rfl 41 _ rfl w5.heap.size 0 rfl (machL zeroM nilS) _ HPB.out.r.x.c Tryz.underlying41 rfl zaa ?_)
  | (refine Bu.loadG rfl 41 _ rfl w7.heap.size 0 rfl (machL zeroM nilS) _ HPC.out.r.x.c Tryz.underlying41 rfl zaa ?_)
  | (go_at_call 12;refine (zby zeroM nilS nilS _ HPB.out.sx HPC.out.sx).mono ?_;rintro e w9 ⟨rfl,hb9⟩;have HL9:=hid (stp HL8.out hb9);have hx9:=(HPB.out.kept hb9).r.s;have hc9:=(HPC.out.kept hb9).r.s;have g0:=hx9.at 0 _ rfl;have g1:=hx9.at 1 _ rfl;have g2:=hx9.at 2 _ rfl;have gz:=hx9.z;have s0:=hc9.at 0 _ rfl;have s1:=hc9.at 1 _ rfl;have s2:=hc9.at 2 _ rfl;have sz:=hc9.z;have HB9:=hid hb9;clear hx9 hc9 hb9)
  | (go_at_call 13;refine (Lk.sameShown (.slice none 0 0) (.slice none 0 0) (.slice none 0 0) (.slice none 0 0) (.slice none 0 0) (.slice none 0 0) [] [] [] _ (HPB.out.sh.kept HB9.out) (HPC.out.sh.kept HB9.out) (by simp) (by simp)).mono ?_;rintro e w10 ⟨rfl,hb10⟩;have HL10:=hid (stp HL9.out hb10)))
 go_ret
 exact ⟨rfl,HL10.out⟩
theorem znm (M:Mach) (S:Sl) (v:Value) (l:List Inp) (n:Int) (w:World) (hF:AF w) (hs:SlAt w S M) (hz:∀ j,j<5->(M.byt j).length<=9223372036854775807) (hok:M.ok) (hin:InpAt w.heap.size w v l) (hn:-9223372036854775808<=n/\n<=9223372036854775807) (hr:runErr M l n≠0) (hck:M.chk=0) (h19:¬ 19000<M.b.f) :
 Calls Tryz.prog 3 #[.agg (machL M S).toArray,v,.int .i64 n] w λe w'=>e = .returned (.bool true)/\Below w.heap.size w w':=by
 have HF:=hid hF
 have hq:Below w.heap.size w (w.alloc (.cells (machL M S).toArray 41)):=stA (st0 w) _
 have HB:=hid (Bx.new w (machL M S) 41 (b:=w.heap.size) rfl)
 have HSL:=hid hs.lens
 have HZ:=hid hz
 have HCK:=hid hck
 have hd:decide (19000<M.b.f)=false:=decide_eq_false h19
 obtain ⟨r,hre⟩:∃ r,r=runErr M l n:=⟨_,rfl⟩
 have hcr:∀ W,Below w.heap.size w W->Calls Tryz.prog 10 #[.agg (machL M S).toArray,v,.int .i64 n] W λe w'=>e = .returned (.tuple #[.agg (machL zeroM nilS).toArray,.agg #[.slice none 0 0,.slice none 0 0,.slice none 0 0],.int .i64 r])/\Below W.heap.size W w':=λW h=>by
  rw [hre];exact zfp M S v l n W (hs.kept h) hz hok ((hin.kept h).mono h.size) hn hr
 have hlr:∀ W,Below w.heap.size w W->Calls Tryz.prog 11 #[.agg (machL M S).toArray,v,.int .i64 n] W λe w'=>e = .returned (.tuple #[.agg (machL zeroM nilS).toArray,.agg #[.slice none 0 0,.slice none 0 0,.slice none 0 0],.int .i64 r])/\Below W.heap.size W w':=λW h=>by
  rw [hre];exact zfo M S v l n W (hs.kept h) hz hok ((hin.kept h).mono h.size) hn hr
 have HCR:=hid hcr
 have HLR:=hid hlr
 clear hF hs hz hok hin hn hr hre hcr hlr hck h19
 go_enter Tryz.func3,Tryz.ntmps3
 go_upto_region 3 with (first
  | (go_at_call 7;refine (zan _ (HF.out.kept hq)).mono ?_;rintro e w1 ⟨rfl,hb1⟩;have HB1:=hid (HB.out.kept hb1);have HL1:=hid (stp hq hb1);clear hb1)
  | (refine Bu.loadG rfl 41 _ rfl w.heap.size 0 rfl (machL M S) _ HB2.out.c Tryz.underlying41 rfl zaa ?_)
  | (refine Bu.loadG rfl 41 _ rfl w.heap.size 0 rfl (machL M S) _ HB1.out.c Tryz.underlying41 rfl zaa ?_)
  | (go_at_call 8;refine (za6 M S _ HSL.out HZ.out).mono ?_;rw [HCK.out];rintro e w2 ⟨rfl,hb2⟩;have HB2:=hid (HB1.out.kept hb2);have HL2:=hid (stp HL1.out hb2);clear hb2)
  | (go_at_call 9;refine (zbz M S _ _).mono ?_;rw [hd];rintro e w3 ⟨rfl,hb3⟩;have HB3:=hid (HB2.out.kept hb3);have HL3:=hid (stp HL2.out hb3);clear hb3))
 go_wp2_with (first
  | (refine wpList_load_mid rfl 41 _ rfl w.heap.size 0 rfl (machL M S) _ HB6.out.c Tryz.underlying41 rfl zaa ?_)
  | (refine wpList_load_mid rfl 41 _ rfl w.heap.size 0 rfl (machL M S) _ HB3.out.c Tryz.underlying41 rfl zaa ?_)
  | (go_at_call 10;refine (HCR.out _ HL3.out).mono ?_;rintro e w5 ⟨rfl,hb5⟩;have HB5:=hid (HB3.out.kept hb5);have HL5:=hid (stp HL3.out hb5);have HIS:=hid zgo;have HSX:=hid (zjp w5);have HSH:=hid (zjq w5);clear hb5)
  | (go_at_call 11;refine (HLR.out _ HL6.out).mono ?_;rintro e w7 ⟨rfl,hb7⟩;have HL7:=hid (stp HL6.out hb7);have HP7:=hid (HP6.out.kept hb7);have HIS2:=hid zgo;have HSX2:=hid (zjp w7);have HSH2:=hid (zjq w7);clear hb7)
  | (refine wpList_store_mid rfl 41 _ _ rfl w7.heap.size 0 (machL zeroM nilS).toArray rfl rfl (R3.th1 w7) zaa (zaw _ _ HIS2.out) ?_
     refine Pl.cutL (R3 w7 zeroM nilS nil3) (R3.mk1 w7 zeroM nilS) ?_
     intro Y3 hY3
     have HY3:=hid hY3
     clear hY3)
  | (refine wpList_store_mid rfl 50 _ _ rfl (w7.heap.size+1) 0 #[.slice none 0 0,.slice none 0 0,.slice none 0 0] rfl rfl (HY3.out.s.there 0 3 (by simp)) zaj (one3 _ _ _ _ _ _ _ _ _) ?_
     refine Pl.cutL (R3 w7 zeroM nilS [.slice none 0 0,.slice none 0 0,.slice none 0 0]) HY3.out.put ?_
     intro Y4 hY4
     have hP1:=HP7.out.kept hY4.old
     have HPB:=hid hP1
     have HPC:=hid (⟨hY4,HSX2.out.kept hY4.old,HSH2.out.kept hY4.old⟩:RX w7 zeroM nilS (.slice none 0 0) (.slice none 0 0) (.slice none 0 0) ⟨⟨zeroM,0,[]⟩,[],[],[]⟩ Y4)
     have HL8:=hid (stp HL7.out hY4.old)
     clear hY4 hP1)
  | (refine wpList_store_mid rfl 41 _ _ rfl w5.heap.size 0 (machL zeroM nilS).toArray rfl rfl (R3.th1 w5) zaa (zaw _ _ HIS.out) ?_
     refine Pl.cutL (R3 w5 zeroM nilS nil3) (R3.mk1 w5 zeroM nilS) ?_
     intro Y1 hY1
     have HY1:=hid hY1
     clear hY1)
  | (refine wpList_store_mid rfl 50 _ _ rfl (w5.heap.size+1) 0 #[.slice none 0 0,.slice none 0 0,.slice none 0 0] rfl rfl (HY1.out.s.there 0 3 (by simp)) zaj (one3 _ _ _ _ _ _ _ _ _) ?_
     refine Pl.cutL (R3 w5 zeroM nilS [.slice none 0 0,.slice none 0 0,.slice none 0 0]) HY1.out.put ?_
     intro Y2 hY2
     have HP6:=hid (⟨hY2,HSX.out.kept hY2.old,HSH.out.kept hY2.old⟩:RX w5 zeroM nilS (.slice none 0 0) (.slice none 0 0) (.slice none 0 0) ⟨⟨zeroM,0,[]⟩,[],[],[]⟩ Y2)
     have HB6:=hid (HB5.out.kept hY2.old)
     have HL6:=hid (stp HL5.out hY2.old)
     clear hY2)
  | (refine Bu.loadG rfl 41 _ rfl w5.heap.size 0 rfl (machL zeroM nilS) _ HPB.out.r.x.c Tryz.underlying41 rfl zaa ?_)
  | (refine Bu.loadG rfl 41 _ rfl w7.heap.size 0 rfl (machL zeroM nilS) _ HPC.out.r.x.c Tryz.underlying41 rfl zaa ?_)
  | (go_at_call 12;refine (zby zeroM nilS nilS _ HPB.out.sx HPC.out.sx).mono ?_;rintro e w9 ⟨rfl,hb9⟩;have HL9:=hid (stp HL8.out hb9);have hx9:=(HPB.out.kept hb9).r.s;have hc9:=(HPC.out.kept hb9).r.s;have g0:=hx9.at 0 _ rfl;have g1:=hx9.at 1 _ rfl;have g2:=hx9.at 2 _ rfl;have gz:=hx9.z;have s0:=hc9.at 0 _ rfl;have s1:=hc9.at 1 _ rfl;have s2:=hc9.at 2 _ rfl;have sz:=hc9.z;have HB9:=hid hb9;clear hx9 hc9 hb9)
  | (go_at_call 13;refine (Lk.sameShown (.slice none 0 0) (.slice none 0 0) (.slice none 0 0) (.slice none 0 0) (.slice none 0 0) (.slice none 0 0) [] [] [] _ (HPB.out.sh.kept HB9.out) (HPC.out.sh.kept HB9.out) (by simp) (by simp)).mono ?_;rintro e w10 ⟨rfl,hb10⟩;have HL10:=hid (stp HL9.out hb10)))
 go_ret
 exact ⟨rfl,HL10.out⟩
theorem znn (M:Mach) (S:Sl) (v:Value) (l:List Inp) (n:Nat) (w:World) (hF:AF w) (hs:SlAt w S M) (hz:∀ j,j<5->(M.byt j).length<=9223372036854775807) (hok:M.ok) (hin:InpAt w.heap.size w v l) (hdn:∀ x∈l,0<=x.d/\x.d<=255) (hf:M.fit) (hc:chkIn l M.clock=0) (hn:n<=20000/\M.clock+n<=200000) (hck:M.chk=0) (h19:¬ 19000<M.b.f) :
 Calls Tryz.prog 3 #[.agg (machL M S).toArray,v,.int .i64 n] w λe w'=>e = .returned (.bool true)/\Below w.heap.size w w':=by
 have HF:=hid hF
 have hq:Below w.heap.size w (w.alloc (.cells (machL M S).toArray 41)):=stA (st0 w) _
 have HB:=hid (Bx.new w (machL M S) 41 (b:=w.heap.size) rfl)
 have HSL:=hid hs.lens
 have HZ:=hid hz
 have HCK:=hid hck
 have hd:decide (19000<M.b.f)=false:=decide_eq_false h19
 obtain ⟨K,hK⟩:∃ K,K=Cs.clocks ⟨⟨M,0,[]⟩,l,[],[]⟩ n:=⟨_,rfl⟩
 have hcr:∀ W,Below w.heap.size w W->Calls Tryz.prog 10 #[.agg (machL M S).toArray,v,.int .i64 n] W λe w'=>∃ (F:Fx) (N:Nat) (vln vsm vw:Value),e = .returned (.tuple #[.agg (machL K.s.M F.S).toArray,.agg #[vln,vsm,vw],.int .i64 0])/\Told F N K vln vsm vw w'/\Below W.heap.size W w':=λW h=>by
  refine (zee M S v l n W (hs.kept h) (hF.kept h).shapes ((hin.kept h).mono h.size) hdn hf (by omega) hc hn).mono ?_
  rw [<- hK]
  rintro e w' ⟨F,N,a1,a2,a3,h1,h2,_,_,_,h3⟩
  exact ⟨F,N,a1,a2,a3,h1,h2,h3⟩
 have hlr:∀ W,Below w.heap.size w W->Calls Tryz.prog 11 #[.agg (machL M S).toArray,v,.int .i64 n] W λe w'=>∃ (F:Fx) (N:Nat) (vln vsm vw:Value),e = .returned (.tuple #[.agg (machL K.s.M F.S).toArray,.agg #[vln,vsm,vw],.int .i64 0])/\Told F N K vln vsm vw w'/\Below W.heap.size W w':=λW h=>by
  refine (zhV M S v l n W (hs.kept h) (hF.kept h).shapes ((hin.kept h).mono h.size) hdn hf (by omega) hc hn).mono ?_
  rw [<- hK]
  rintro e w' ⟨F,N,a1,a2,a3,h1,h2,_,_,_,h3⟩
  exact ⟨F,N,a1,a2,a3,h1,h2,h3⟩
 have hkl:=zco ⟨⟨M,0,[]⟩,l,[],[]⟩ ⟨rfl,rfl,rfl⟩ n hn.1
 rw [<- hK] at hkl
 have HKL:Hid (K.ln.length<=1000000/\K.s.l.length<=1000000):=hid (by omega)
 have HCR:=hid hcr
 have HLR:=hid hlr
 obtain ⟨X,hX⟩:∃ X,K.s.M=X:=⟨_,rfl⟩
 have HX:=hid hX
 clear hF hs hz hok hin hn hdn hf hc hcr hlr hck h19 hkl hK hX
 go_enter Tryz.func3,Tryz.ntmps3
 go_upto_region 3 with (first
  | (go_at_call 7;refine (zan _ (HF.out.kept hq)).mono ?_;rintro e w1 ⟨rfl,hb1⟩;have HB1:=hid (HB.out.kept hb1);have HL1:=hid (stp hq hb1);clear hb1)
  | (refine Bu.loadG rfl 41 _ rfl w.heap.size 0 rfl (machL M S) _ HB2.out.c Tryz.underlying41 rfl zaa ?_)
  | (refine Bu.loadG rfl 41 _ rfl w.heap.size 0 rfl (machL M S) _ HB1.out.c Tryz.underlying41 rfl zaa ?_)
  | (go_at_call 8;refine (za6 M S _ HSL.out HZ.out).mono ?_;rw [HCK.out];rintro e w2 ⟨rfl,hb2⟩;have HB2:=hid (HB1.out.kept hb2);have HL2:=hid (stp HL1.out hb2);clear hb2)
  | (go_at_call 9;refine (zbz M S _ _).mono ?_;rw [hd];rintro e w3 ⟨rfl,hb3⟩;have HB3:=hid (HB2.out.kept hb3);have HL3:=hid (stp HL2.out hb3);clear hb3))
 go_wp2_with (first
  | (refine wpList_load_mid rfl 41 _ rfl w.heap.size 0 rfl (machL M S) _ HB6.out.c Tryz.underlying41 rfl zaa ?_)
  | (refine wpList_load_mid rfl 41 _ rfl w.heap.size 0 rfl (machL M S) _ HB3.out.c Tryz.underlying41 rfl zaa ?_)
  | (go_at_call 10;refine (HCR.out _ HL3.out).mono ?_
     rintro e w5 ⟨F1,N1,t1,t2,t3,rfl,hT,hb5⟩
     rw [HX.out]
     have hsh:=sh_of hT
     have hsx:=hT.sl
     rw [HX.out] at hsx
     obtain ⟨a1,n1,c1,e1⟩:=zay hT.ln
     obtain ⟨a2,n2,c2,e2⟩:=zay hT.sm
     obtain ⟨a3,n3,c3,e3⟩:=zay hT.ws
     subst e1 e2 e3
     have HB5:=hid (HB3.out.kept hb5)
     have HL5:=hid (stp HL3.out hb5)
     have HIS:=hid (zbY hsx)
     have HSX:=hid hsx
     have HSH:=hid hsh
     clear hb5 hsx hsh hT)
  | (go_at_call 11;refine (HLR.out _ HL6.out).mono ?_
     rintro e w7 ⟨F2,N2,t4,t5,t6,rfl,hT,hb7⟩
     rw [HX.out]
     have hsh:=sh_of hT
     have hsx:=hT.sl
     rw [HX.out] at hsx
     obtain ⟨b1,m1,d1,e1⟩:=zay hT.ln
     obtain ⟨b2,m2,d2,e2⟩:=zay hT.sm
     obtain ⟨b3,m3,d3,e3⟩:=zay hT.ws
     subst e1 e2 e3
     have HL7:=hid (stp HL6.out hb7)
     have HP7:=hid (HP6.out.kept hb7)
     have HIS2:=hid (zbY hsx)
     have HSX2:=hid hsx
     have HSH2:=hid hsh
     clear hb7 hsx hsh hT)
  | (refine wpList_store_mid rfl 41 _ _ rfl w7.heap.size 0 (machL X F2.S).toArray rfl rfl (R3.th1 w7) zaa (zaw _ _ HIS2.out) ?_
     refine Pl.cutL (R3 w7 X F2.S nil3) (R3.mk1 w7 X F2.S) ?_
     intro Y3 hY3
     have HY3:=hid hY3
     clear hY3)
  | (refine wpList_store_mid rfl 50 _ _ rfl (w7.heap.size+1) 0 #[.slice b1 m1 d1,.slice b2 m2 d2,.slice b3 m3 d3] rfl rfl (HY3.out.s.there 0 3 (by simp)) zaj (one3 _ _ _ _ _ _ _ _ _) ?_
     refine Pl.cutL (R3 w7 X F2.S [.slice b1 m1 d1,.slice b2 m2 d2,.slice b3 m3 d3]) HY3.out.put ?_
     intro Y4 hY4
     have hP1:=HP7.out.kept hY4.old
     have HPB:=hid hP1
     have HPC:=hid (⟨hY4,HSX2.out.kept hY4.old,HSH2.out.kept hY4.old⟩:RX w7 X F2.S (.slice b1 m1 d1) (.slice b2 m2 d2) (.slice b3 m3 d3) K Y4)
     have HL8:=hid (stp HL7.out hY4.old)
     clear hY4 hP1)
  | (refine wpList_store_mid rfl 41 _ _ rfl w5.heap.size 0 (machL X F1.S).toArray rfl rfl (R3.th1 w5) zaa (zaw _ _ HIS.out) ?_
     refine Pl.cutL (R3 w5 X F1.S nil3) (R3.mk1 w5 X F1.S) ?_
     intro Y1 hY1
     have HY1:=hid hY1
     clear hY1)
  | (refine wpList_store_mid rfl 50 _ _ rfl (w5.heap.size+1) 0 #[.slice a1 n1 c1,.slice a2 n2 c2,.slice a3 n3 c3] rfl rfl (HY1.out.s.there 0 3 (by simp)) zaj (one3 _ _ _ _ _ _ _ _ _) ?_
     refine Pl.cutL (R3 w5 X F1.S [.slice a1 n1 c1,.slice a2 n2 c2,.slice a3 n3 c3]) HY1.out.put ?_
     intro Y2 hY2
     have HP6:=hid (⟨hY2,HSX.out.kept hY2.old,HSH.out.kept hY2.old⟩:RX w5 X F1.S (.slice a1 n1 c1) (.slice a2 n2 c2) (.slice a3 n3 c3) K Y2)
     have HB6:=hid (HB5.out.kept hY2.old)
     have HL6:=hid (stp HL5.out hY2.old)
     clear hY2)
  | (refine Bu.loadG rfl 41 _ rfl w5.heap.size 0 rfl (machL X F1.S) _ HPB.out.r.x.c Tryz.underlying41 rfl zaa ?_)
  | (refine Bu.loadG rfl 41 _ rfl w7.heap.size 0 rfl (machL X F2.S) _ HPC.out.r.x.c Tryz.underlying41 rfl zaa ?_)
  | (go_at_call 12;refine (zby X F1.S F2.S _ HPB.out.sx HPC.out.sx).mono ?_;rintro e w9 ⟨rfl,hb9⟩;have HL9:=hid (stp HL8.out hb9);have hx9:=(HPB.out.kept hb9).r.s;have hc9:=(HPC.out.kept hb9).r.s;have g0:=hx9.at 0 _ rfl;have g1:=hx9.at 1 _ rfl;have g2:=hx9.at 2 _ rfl;have gz:=hx9.z;have s0:=hc9.at 0 _ rfl;have s1:=hc9.at 1 _ rfl;have s2:=hc9.at 2 _ rfl;have sz:=hc9.z;have HB9:=hid hb9;clear hx9 hc9 hb9)
  | (go_at_call 13;refine (Lk.sameShown (.slice a1 n1 c1) (.slice a2 n2 c2) (.slice a3 n3 c3) (.slice b1 m1 d1) (.slice b2 m2 d2) (.slice b3 m3 d3) K.ln K.sm K.s.l _ (HPB.out.sh.kept HB9.out) (HPC.out.sh.kept HB9.out) HKL.out.1 HKL.out.2).mono ?_;rintro e w10 ⟨rfl,hb10⟩;have HL10:=hid (stp HL9.out hb10)))
 go_ret
 exact ⟨rfl,HL10.out⟩
theorem zra {M:Mach} {l:List Inp} {n:Int} (h:runErr M l n=0):M.chk=0/\chkIn l M.clock=0/\0<=n/\n<=20000/\M.clock+n<=200000:=by
 unfold runErr at h
 split at h
 ·rename_i h1
  split at h
  ·rename_i h2
   split at h
   ·rename_i h3
    exact ⟨h1,h2,h3⟩
   ·cases h
  ·rename_i h2
   exact absurd h h2
 ·rename_i h1
  exact absurd h h1
theorem zez:CatchLockWalk:=by
 intro H enc W base v0 v1 v2 d0 d1 d2 p0 p1 p2 hF k0 t0 k1 t1 k2 t2
 obtain ⟨M,S,rfl,hok,hs,hz⟩:=zh1 k0 t0
 obtain ⟨l,hin,hll,hlf⟩:=zeg k1 t1
 obtain ⟨n,rfl,_,_,wn⟩:=open_int Tryz.underlying3 k2 t2
 have hn:=bounds_i64 wn
 by_cases hck:M.chk=0
 ·by_cases h19:19000<M.b.f
  ·exact znk M S v1 l n W hF hs hz hok hin hck h19
  ·by_cases hr:runErr M l n=0
   ·obtain ⟨_,hc,a0,a1,a2⟩:=zra hr
    obtain ⟨N,rfl⟩:=Int.eq_ofNat_of_zero_le a0
    exact znn M S v1 l N W hF hs hz hok hin (λx hx=>(hlf x hx).d) (zgp hok hck) hc ⟨by omega,a2⟩ hck h19
   ·exact znm M S v1 l n W hF hs hz hok hin hn hr hck h19
 ·exact znl M S v1 l n W hF hs hz hok hin hn (by unfold runErr;rw [if_neg hck];exact hck) hck
theorem catchLock_holds:Rows.CatchLockCardSaid:=zet zez
end Go.Proofs.YtbennamieealbaaGreatDoor
