/-
  For every machine, anything that is pressed and every number the law WatchRises of the program returns true and leaves its arguments as they were; the listed library variables are as the tied card says.
-/
import Derived.Test.YtbhpfkjfijdmaaaGreatDoorZy05
import Derived.Test.YtbhpfkjfijdmaaaGreatDoorCards
import Derived.Test.YtbhpfkjfijdmaaaGreatDoorTie
import Derived.SevenTiedAt
import Derived.Test.YtbhpfkjfijdmaaaGreatDoorZy42
import Derived.Test.YtbhpfkjfijdmaaaGreatDoorZy37
namespace Go.Proofs.YtbhpfkjfijdmaaaGreatDoor
open Go.ChangeShapes Go.WideShapes Go.ChangeAt Go.RowKit
set_option linter.unusedVariables false
set_option maxRecDepth 100000
set_option maxHeartbeats 3200000
def WatchRisesWalk:Prop:=∀ (H:Type) (enc:TypeId × Value->H) (W:World) (base:Nat) (v0 v1 v2:Value) (d0 d1 d2:DataW H) (p0 p1 p2:List MemPlace),AF W ->
 Value.okWide Tryz.prog W .any base (Tryz.f6.params.getD 0 0) v0->DataW.Trod enc Tryz.prog W 0 (fun _=>true) true (Tryz.f6.params.getD 0 0) v0 d0 p0->Value.okWide Tryz.prog W .any base (Tryz.f6.params.getD 1 0) v1->DataW.Trod enc Tryz.prog W 0 (fun _=>true) true (Tryz.f6.params.getD 1 0) v1 d1 p1->Value.okWide Tryz.prog W .any base (Tryz.f6.params.getD 2 0) v2->DataW.Trod enc Tryz.prog W 0 (fun _=>true) true (Tryz.f6.params.getD 2 0) v2 d2 p2 ->
 Calls Tryz.prog 6 #[v0,v1,v2] W fun e w'=>e = .returned (.bool true)/\Below W.heap.size W w'
theorem watchRises_lifted (walk:WatchRisesWalk) (os:Os) (started:os.Started) (H:Type) (enc:TypeId × Value->H) :
 ReturnsInHanded {} Tryz.checked os 6 .any (fun w args=>(Rows.watchRisesSpec.pre enc Tryz.prog Tryz.f6 [] false w args/\laidMetH Tryz.prog Rows.watchRisesRow.laid w)/\sizedMet enc Tryz.prog Tryz.f6 (OpenSpec.ofChange Rows.watchRisesSpec) false w args)
  (Rows.watchRisesSpec.post enc Tryz.prog Tryz.f6 false true false false):=by
 refine returns_and_shaped (C:=Tryz.checked) (X:=fun w _=>laidMetH Tryz.prog Rows.watchRisesRow.laid w) (fun _ _ _ hh h=>h.of_heap hh) own started (by kernel_rfl) Tryz.func6
  (ChangeSpec.witness_shaped (enc:=enc) (C:=Tryz.checked) (os:=os) (X:=fun w _=>laidMetH Tryz.prog Rows.watchRisesRow.laid w) false (World.laidAll Tryz.prog os Rows.watchRisesRow.laid) #[.agg #[.int .u16 0,.int .u16 0,.int .u16 0,.int .u16 0,.int .u16 0,.int .u16 0,.int .u16 0,.int .u16 0,.int .u16 0,.bool false,.bool false,.bool false,.bool false,.bool false,.bool false,.int .u16 0,.int .u16 0,.int .u16 0,.int .u16 0,.int .u16 0,.int .u16 0,.int .u16 0,.int .u16 0,.int .u16 0,.bool false,.bool false,.bool false,.bool false,.bool false,.bool false,.slice none 0 0,.slice none 0 0,.slice none 0 0,.slice none 0 0,.slice none 0 0,.int .u8 0,.bool false,.int .u8 0,.int .u8 0,.bool false,.int .u8 0,.int .u16 0,.int .u16 0,.bool false,.bool false,.int .u16 0,.int .u16 0,.int .u8 0,.bool false,.int .u16 0,.int .u16 0,.int .u16 0,.int .u8 0,.bool false,.int .u16 0,.int .u16 0,.int .u16 0,.int .u8 0,.bool false,.int .u16 0,.int .i64 0,.int .i64 0,.int .i64 0,.bool false,.int .i64 0,.int .u16 0,.int .u16 0,.bool false,.bool false,.int .u8 0,.int .u8 0,.bool false,.int .i64 0,.int .i64 0,.int .i64 0],.slice none 0 0,.int .i64 0] 8 (World.laidAll_os _ _ _)
    (World.shaped_of_ZipB (by kernel_rfl) (by kernel_rfl)) (by kernel_rfl) (by kernel_rfl) (by kernel_rfl)
    (by rw [MakeChecks.laidMetH_plain _ _ _ (by kernel_rfl)];exact laidMet_laidAll _ (by kernel_rfl) (by kernel_rfl))) ?_
 intro W base args ds gs before hval0 hW _ hwt hL hsh _
 have hval:∀ (j:Nat) t v,Tryz.f6.params[j]? = some t->args[j]? = some v->Value.okWide Tryz.prog W .any base t v:=hval0
 have hW':=hW
 obtain ⟨p,q,hA0,hV,rfl,_,_⟩:=hW
 have hA:DataW.TrodAll enc Tryz.prog W 0 (fun _=>true) true Tryz.f6.params.toList args.toList ds p:=hA0
 have hA1:=hA
 rw [Tryz.params6] at hA hval
 obtain ⟨v0,vs0,d0,ds0,p0,q0,hargs,rfl,rfl,h0,r0⟩:=trodAll_cons hA
 obtain ⟨v1,vs1,d1,ds1,p1,q1,rfl,rfl,rfl,h1,r1⟩:=trodAll_cons r0
 obtain ⟨v2,vs2,d2,ds2,p2,q2,rfl,rfl,rfl,h2,r2⟩:=trodAll_cons r1
 obtain ⟨rfl,rfl,rfl⟩:=trodAll_nil r2
 obtain rfl:args=#[v0,v1,v2]:=by cases args;simp_all
 obtain ⟨rfl,rfl⟩:=trodVars_none hV
 rw [MakeChecks.laidMetH_plain _ _ _ (by kernel_rfl)] at hL
 have hlt:=fun x hx=>hW'.lt x (List.mem_append_left _ hx)
 refine (walk H enc W base v0 v1 v2 d0 d1 d2 _ _ _ (af_of hL hsh (by simp [Rows.watchRisesRow]) (by simp [Rows.watchRisesRow])) (hval 0 _ v0 rfl rfl) h0 (hval 1 _ v1 rfl rfl) h1 (hval 2 _ v2 rfl rfl) h2).mono fun e W' ⟨he,hb⟩=>?_
 subst he
 exact ⟨_,rfl,_,_,_,[],_,[],hW',trodAll_mk1 (shut_bool Tryz.underlying4 _),trodAll_below_all (by kernel_rfl) hb (by kernel_rfl) hA1 hlt,rfl,hb.frame _,fun h=>by cases h⟩
theorem and_t {a b:Bool} (ha:a=true) (hb:b=true):(a && b)=true:=by rw [ha,hb];rfl
theorem watchRises_f0:(Rows.watchRisesRow.wf (OpenSpec.ofChange Rows.watchRisesSpec))=true:=by kernel_rfl
theorem watchRises_f1:(laidOutB Tryz.prog)=true:=by kernel_rfl
theorem watchRises_f2:(mapsRowed Tryz.prog)=true:=by kernel_rfl
theorem watchRises_f3:(Tryz.f6.params.all (Tryz.prog.readableRec ·))=true:=by kernel_rfl
theorem watchRises_f4:(namedTie Tryz.prog Rows.watchRisesRow.named Rows.watchRisesSpec.vars)=true:=by kernel_rfl
theorem watchRises_f5:((Rows.watchRisesRow.stops == []))=true:=by kernel_rfl
theorem watchRises_f6:((Tryz.prog.stops == []))=true:=by kernel_rfl
theorem watchRises_f7:((Rows.watchRisesRow.knobs == []))=true:=by kernel_rfl
theorem watchRises_f8:((Tryz.prog.stopKnobs == []))=true:=by kernel_rfl
theorem watchRises_f9:((Rows.watchRisesRow.inPlace == Tryz.prog.inPlace 6))=true:=by kernel_rfl
theorem watchRises_f10:((Rows.watchRisesRow.unfollowed == Tryz.prog.unfollowed 6))=true:=by kernel_rfl
theorem watchRises_f11:((Rows.watchRisesRow.recurses == Tryz.prog.recurses 6))=true:=by kernel_rfl
theorem watchRises_f12:((Rows.watchRisesRow.named == Tryz.prog.varsNamed 6))=true:=by kernel_rfl
theorem watchRises_f13:((Rows.watchRisesRow.maps == (Tryz.f6.params.toList++Rows.watchRisesSpec.plain.varTypes Tryz.prog).any (Tryz.prog.mapsRec ·)))=true:=by kernel_rfl
theorem watchRises_f14:((Rows.watchRisesRow.ifaces == (Tryz.f6.params.toList++Rows.watchRisesSpec.plain.varTypes Tryz.prog).any (Tryz.prog.ifacesRec ·)))=true:=by kernel_rfl
theorem watchRises_f15:((Rows.watchRisesRow.mapsOut == Tryz.prog.mapsAmong Tryz.f6.resultTypes.toList))=true:=by kernel_rfl
theorem watchRises_f16:((Rows.watchRisesRow.loops == (Tryz.f6.params.toList++Rows.watchRisesSpec.plain.varTypes Tryz.prog).any (Tryz.prog.loopsFrom ·)))=true:=by kernel_rfl
theorem watchRises_f17:((Rows.watchRisesRow.wideKeys == (Tryz.f6.params.toList++Rows.watchRisesSpec.plain.varTypes Tryz.prog++Tryz.f6.resultTypes.toList).any (Tryz.prog.wideKeysFrom ·)))=true:=by kernel_rfl
theorem watchRises_f18:(Rows.watchRisesSpec.vars.all (Tryz.prog.varReadable ·))=true:=by kernel_rfl
theorem watchRises_f19:(Tryz.f6.resultTypes.all (fun t=>Tryz.prog.readableRec t && decide (t < Tryz.prog.types.size)))=true:=by kernel_rfl
theorem watchRises_f20:((Rows.watchRisesRow.ifacesOut == Tryz.f6.resultTypes.toList.any (Tryz.prog.ifacesRec ·)))=true:=by kernel_rfl
theorem watchRises_f21:((Rows.watchRisesRow.loopsOut == Tryz.f6.resultTypes.toList.any (Tryz.prog.loopsFrom ·)))=true:=by kernel_rfl
theorem watchRises_f22:((Rows.watchRisesRow.plainKeys == Tryz.prog.plainKeys))=true:=by kernel_rfl
theorem watchRises_f23:(Rows.watchRisesRow.shortTexts.isNone)=true:=by kernel_rfl
theorem watchRises_f24:(Tryz.prog.stopsHeard)=true:=by kernel_rfl
theorem watchRises_f25:(Tryz.prog.mayEnter)=true:=by kernel_rfl
theorem watchRises_f26:((Rows.watchRisesRow.lifted == Tryz.prog.liftsFinal))=true:=by kernel_rfl
theorem watchRises_f27:((Tryz.prog.make == some Rows.watchRisesRow.make))=true:=by kernel_rfl
theorem watchRises_f28:((Rows.watchRisesRow.kinds == (if Rows.watchRisesRow.domain.isEmpty then [] else Tryz.f6.params.toList.map fun t=>match Tryz.prog.underlying t with | some (.int k)=>some k | _=>none)))=true:=by kernel_rfl
theorem watchRises_f29:((Rows.watchRisesRow.pinned == Rows.watchRisesRow.pinnedBy))=true:=by kernel_rfl
theorem watchRises_f30:((Rows.watchRisesRow.veiled == (Tryz.f6.params.toList++Rows.watchRisesSpec.plain.varTypes Tryz.prog++Tryz.f6.resultTypes.toList).any (Tryz.prog.veiledRec ·)))=true:=by kernel_rfl
theorem watchRises_f31:(Rows.watchRisesRow.veiledFits Tryz.prog Tryz.f6.params.toList (Tryz.f6.params.toList++Rows.watchRisesSpec.plain.varTypes Tryz.prog++Tryz.f6.resultTypes.toList))=true:=by kernel_rfl
theorem watchRises_facts:joinedFacts Tryz.prog 6 Tryz.f6 Rows.watchRisesSpec Rows.watchRisesRow=true:=and_t (and_t (and_t (and_t (and_t (and_t (and_t (and_t (and_t (and_t (and_t (and_t (and_t (and_t (and_t (and_t (and_t (and_t (and_t (and_t (and_t (and_t (and_t (and_t (and_t (and_t (and_t (and_t (and_t (and_t (and_t (watchRises_f0) watchRises_f1) watchRises_f2) watchRises_f3) watchRises_f4) watchRises_f5) watchRises_f6) watchRises_f7) watchRises_f8) watchRises_f9) watchRises_f10) watchRises_f11) watchRises_f12) watchRises_f13) watchRises_f14) watchRises_f15) watchRises_f16) watchRises_f17) watchRises_f18) watchRises_f19) watchRises_f20) watchRises_f21) watchRises_f22) watchRises_f23) watchRises_f24) watchRises_f25) watchRises_f26) watchRises_f27) watchRises_f28) watchRises_f29) watchRises_f30) watchRises_f31
theorem watchRises_row (walk:WatchRisesWalk):Rows.WatchRisesSaid :=
 OpenClaim.holds_of_wide 6 Tryz.f6 rfl rfl rfl rfl rfl rfl rfl ⟨rfl,rfl,rfl,rfl,rfl⟩ rfl rfl rfl rfl rfl (by kernel_rfl) Tryz.func6 watchRises_facts
  (of_decide_eq_true (by kernel_rfl)) (by unfold Func.isWrapper;first | (rw [if_pos (by decide +kernel)];kernel_rfl) | (rw [if_neg (by decide +kernel)];exact ⟨rfl,rfl⟩))
  (fun os started H enc _=>watchRises_lifted walk os started H enc)
theorem watchRises_card (walk:WatchRisesWalk):Rows.WatchRisesCardSaid :=
 Claim7.holds_tied_plain_at .later [] _ true _ true (watchRises_row walk) (fun _ h=>by cases h) (by kernel_rfl) (fun _ h=>by cases h) watchRises_row_tie rfl ⟨rfl,rfl⟩ (by kernel_rfl) rfl
  (fun f fn hf hfn=>by
    obtain rfl:f=6:=Option.some.inj ((show Tryz.prog.funcNamed "marquee/marqueelaw.WatchRises" = some 6 by kernel_rfl).symm.trans hf) |>.symm
    obtain rfl:fn=Tryz.f6:=(Option.some.inj (Tryz.func6.symm.trans hfn)).symm
    exact ⟨by kernel_rfl,fun j t ht=>by
     have hm:t ∈ Tryz.f6.params.toList:=List.mem_of_getElem? (i:=j) (by rw [Array.getElem?_toList];exact ht)
     have hall:Tryz.f6.params.toList.all (fun t=>!(Tryz.prog.wantsStandIn t))=true:=by kernel_rfl
     have:=List.all_eq_true.1 hall t hm
     exact Bool.not_eq_true' _ ▸ this⟩)
  (by kernel_rfl)
theorem name_head:∀ k,k < 32->k ≠ 30->((K.row k).1.head?.isSome && (K.row k).1.head? != some 10)=true:=by decide +kernel
theorem first_head (rom:List UInt8):∃ x r,(S.firstLine rom).1=x :: r/\x ≠ 10:=by
 have hs:0<=S.second rom/\S.second rom<=65535:=by
  unfold S.second S.word
  split
  ·rename_i a b _
   have:=a.toNat_lt;have:=b.toNat_lt
   omega
  ·omega
 unfold S.firstLine S.lineOf
 split
 ·have hk:O.rk (S.second rom) < 32/\O.rk (S.second rom) ≠ 30:=by unfold O.rk O.rOp;omega
  have hn:=name_head _ hk.1 hk.2
  unfold S.orderText
  cases e:(K.row (O.rk (S.second rom))).1 with
  | nil=>rw [e] at hn;cases hn
  | cons x r =>
   rw [e] at hn
   exact ⟨x,_,rfl,by simpa using hn⟩
 ·exact ⟨46,_,rfl,by decide⟩
theorem cut_head (x:UInt8) (r:List UInt8) (h:x ≠ 10):(Lib.cut (x :: r) [10]).1 ≠ []:=by
 unfold Lib.cut
 split
 ·rename_i hi
  have h1:(Lib.index (x :: r) [10]) ≠ 0:=by
   show (if [10].isPrefixOf (x :: r) then (0:Int) else if Lib.index r [10] == -1 then -1 else Lib.index r [10]+1) ≠ 0
   have hp:[(10:UInt8)].isPrefixOf (x :: r)=false:=by
    simp [List.isPrefixOf]
    exact fun e=>h e.symm
   rw [hp]
   have:=Lib.index_ge r [10]
   simp only [Bool.false_eq_true,if_false]
   split
   ·decide
   ·rename_i hh
    simp at hh
    omega
  obtain ⟨k,hk⟩:∃ k,(Lib.index (x :: r) [10]).toNat=k+1:=⟨(Lib.index (x :: r) [10]).toNat - 1,by omega⟩
  rw [hk]
  simp
 ·simp
theorem wtext_ne (rom:List UInt8) (pc:Nat):wtext rom pc ≠ []:=by
 unfold wtext
 split
 ·simp
 ·rename_i hf
  obtain ⟨b,hb⟩:∃ b,b=(rom.drop pc).take (min ((rom.length - pc) / 2 * 2) 4):=⟨_,rfl⟩
  have hl:0 < b.length:=by rw [hb,List.length_take,List.length_drop];omega
  rw [<- hb]
  unfold S.list
  obtain ⟨f,hf⟩:∃ f,b.length=f+1:=⟨b.length - 1,by omega⟩
  rw [hf,listN_step f b (fun e=>by rw [e] at hl;simp at hl)]
  obtain ⟨x,r,e,hx⟩:=first_head b
  rw [e]
  exact cut_head x _ hx
def Rz (x y:Dd):Prop:=x.c < y.c \/ (x.c=y.c/\x.a=false/\y.a=true)
theorem due_rises (X:Mach):(∀ x ∈ X.due,x.c=X.clock/\x.t ≠ [])/\X.due.Pairwise Rz:=by
 unfold Mach.due Mach.mdid Mach.adid
 cases X.mdue <;> cases X.adue
 ·simp
 ·simp [wtext_ne]
 ·simp [wtext_ne]
 ·simp [wtext_ne,Rz]
theorem log_rises {M:Mach} {l:List Inp} {n j:Nat} {js:List Nat} (hR:InR M l) (h:Way M l n js j):(∀ x ∈ (js.map (fun i=>(M.aft l i).due)).flatten,M.clock<=x.c/\x.c < M.clock+j/\x.t ≠ [])/\(js.map (fun i=>(M.aft l i).due)).flatten.Pairwise Rz:=by
 induction h with
 | nil=>simp
 | @cons js j hw hj ih =>
  have hb:=wnx_bd hR hj
  have hc:=aft_clock hR j
  obtain ⟨d1,d2⟩:=due_rises (M.aft l j)
  rw [List.map_append,List.flatten_append]
  simp only [List.map_cons,List.map_nil,List.flatten_cons,List.flatten_nil,List.append_nil]
  refine ⟨fun x hx=>?_,List.pairwise_append.2 ⟨ih.2,d2,fun a ha b hb'=>?_⟩⟩
  ·rcases List.mem_append.1 hx with hx | hx
   ·obtain ⟨h1,h2,h3⟩:=ih.1 x hx
    exact ⟨h1,by omega,h3⟩
   ·obtain ⟨h1,h2⟩:=d1 x hx
    exact ⟨by omega,by omega,h2⟩
  ·obtain ⟨h1,h2,h3⟩:=ih.1 a ha
   obtain ⟨h4,_⟩:=d1 b hb'
   exact Or.inl (by omega)
structure Risen (c : Int) (n : Nat) (acc : List Dd) : Prop where
 len:acc.length<=1000
 one:∀ (i:Nat) (x:Dd),acc[i]? = some x->c<=x.c/\x.c < c+n/\x.t ≠ []
 two:∀ (i:Nat) (x y:Dd),acc[i]? = some x->acc[i+1]? = some y->Rz x y
theorem risen_of {M:Mach} {l:List Inp} {n:Nat} {js:List Nat} (hR:InR M l) (h:Way M l n js n) (hn:n<=500):Risen M.clock n (js.map (fun i=>(M.aft l i).due)).flatten:=by
 obtain ⟨h1,h2⟩:=log_rises hR h
 refine ⟨?_,fun i x hx=>h1 x (List.mem_of_getElem? hx),fun i x y hx hy=>?_⟩
 ·have:=flat_len due_len (M.aft l) js
  have:=h.le hR
  omega
 ·obtain ⟨a1,e1⟩:=List.getElem?_eq_some_iff.1 hx
  obtain ⟨a2,e2⟩:=List.getElem?_eq_some_iff.1 hy
  have:=List.pairwise_iff_getElem.1 h2 i (i+1) a1 a2 (by omega)
  rw [e1,e2] at this
  exact this
structure QT2 (w w1 : World) (M : Mach) (S : Sl) (v : Value) (l : List Inp) (X : Mach) (SX : Sl) (vl : Value) (acc : List Dd) (Y : World) : Prop extends QT w w1 M S v l X SX Y where
 rw:RwAt Y vl acc.length 4 (dcs acc)
theorem QT2.kept {w w1:World} {M:Mach} {S:Sl} {v:Value} {l:List Inp} {X:Mach} {SX:Sl} {vl:Value} {acc:List Dd} {Y Y':World} (h:QT2 w w1 M S v l X SX vl acc Y) (hb:Below Y.heap.size Y Y'):QT2 w w1 M S v l X SX vl acc Y':=⟨h.toQT.kept hb,h.rw.kept hb⟩
theorem asmk_ne {t:List UInt8} (h:t ≠ []):(Asmk t).toList.isEmpty=false:=by
 rw [Asmk_toList]
 cases t with
 | nil=>exact absurd rfl h
 | cons=>rfl
theorem Wc.rises (M:Mach) (S:Sl) (v:Value) (l:List Inp) (n:Int) (w:World) (hF:AF w) (hs:SlAt w S M) (hz:∀ j,j < 5->(M.byt j).length<=9223372036854775807) (hok:M.ok) (hin:InpAt w.heap.size w v l) (hdn:∀ x ∈ l,0<=x.d/\x.d<=255) (hn:-9223372036854775808<=n/\n<=9223372036854775807) :
 Calls Tryz.prog 6 #[.agg (machL M S).toArray,v,.int .i64 n] w fun e w'=>e = .returned (.bool true)/\Below w.heap.size w w':=by
 have hq:Below w.heap.size w (w.alloc (.cells (machL M S).toArray 41)):=stA (st0 w) _
 have HB:=hid (Bx.new w (machL M S) 41 (b:=w.heap.size) rfl)
 have HTR:=hid (Wc.trace M S v l n _ (hF.kept hq) (hs.kept hq) hz hok ((hin.kept hq).mono hq.size) hdn hn)
 have HQ:=hid hq
 have HF:=hid hF
 have HS:=hid hs
 have HIN:=hid hin
 have HDN:=hid hdn
 clear hq hF hs hz hok hin hdn
 go_enter Tryz.func6,Tryz.ntmps6
 go_upto_region 2 with (first
  | (refine wpList_load_mid rfl 41 _ rfl w.heap.size 0 rfl (machL M S) _ HB.out.c Tryz.underlying41 rfl info_mach ?_)
  | (go_at_call 19;refine HTR.out.mono ?_;rintro e w1 ⟨vl,X,SX,er,acc,rfl,hE,hO,hS1,hb1⟩
     obtain ⟨al,cl,el⟩:=row_len2 hO
     subst el
     have HE:=hid hE
     have HO1:=hid (row_own hO)
     have HS1:=hid hS1
     have HL1:=hid (stp HQ.out hb1)
     have HB1:=hid (HB.out.kept hb1)
     clear hE hO hS1 hb1)
  | (refine wpList_store_mid rfl 41 _ _ rfl w1.heap.size 0 (machL X SX).toArray rfl rfl (R1.th w1) info_mach (machL_one _ _ (isSl_of HS1.out)) ?_
     refine Pl.cutL (QT2 w w1 M S v l X SX (.slice al acc.length cl) acc) ⟨QT.mk0 HL1.out HB1.out HS1.out,HO1.out.kept (below_sets' (stA (st0 w1) _) (Nat.le_refl _) _ _)⟩ ?_
     intro Y1 hY1
     have HY1:=hid hY1
     clear hY1))
 clear HB HTR HQ HS1 HL1 HB1 HO1
 by_cases he:er=0
 case neg =>
  have hd:(er != 0)=true:=by simpa using he
  clear he
  go_wp2_with (first
   | (go_at_call 20;refine (Wc.watched _ (HF.out.kept HY2.out.toQT.low)).mono ?_;rintro e w3 ⟨rfl,hb3⟩;have HY3:=hid (HY2.out.kept hb3);clear hb3)
   | (go_at_call 20;refine (Wc.watched _ (HF.out.kept HY1.out.toQT.low)).mono ?_;rintro e w2 ⟨rfl,hb2⟩;have HY2:=hid (HY1.out.kept hb2);clear hb2))
  go_ret
  exact ⟨rfl,HY3.out.toQT.low⟩
 case pos =>
  subst he
  rcases HE.out with ⟨h0,_⟩ | ⟨_,hfe,hft,hR,hX,js,hWy,hac⟩
  ·exact absurd rfl h0
  obtain ⟨N,rfl⟩:∃ N:Nat,n=N:=by
   unfold fErr at hfe
   split at hfe
   ·split at hfe
    ·rename_i h;exact Int.eq_ofNat_of_zero_le h.1 |>.imp (fun _ h=>h)
    ·cases hfe
   ·rename_i h;exact absurd hfe h
  rw [Int.toNat_natCast] at hX hWy
  have hb:N<=500/\M.clock+N<=200000:=by
   unfold fErr at hfe
   split at hfe
   ·split at hfe
    ·rename_i h;omega
    ·cases hfe
   ·rename_i h;exact absurd hfe h
  have HX:Hid (X.clock=M.clock+N):=hid (by rw [hX];exact aft_clock hR N)
  have HRZ:Hid (Risen M.clock N acc):=hid (by rw [hac];exact risen_of hR hWy hb.1)
  have HFT:=hid hft
  have HR:=hid hR
  have HB:=hid hb
  clear HE hfe hft hR hX hb hWy hac
  by_cases h19:19000 < M.b.f
  ·have hd:decide (19000 < M.b.f)=true:=decide_eq_true h19
   clear h19
   go_wp2_with (first
    | (go_at_call 20;refine (Wc.watched _ (HF.out.kept HY3.out.toQT.low)).mono ?_;rintro e w4 ⟨rfl,hb4⟩;have HY4:=hid (HY3.out.kept hb4);clear hb4)
    | (go_at_call 20;refine (Wc.watched _ (HF.out.kept HY1.out.toQT.low)).mono ?_;rintro e w2 ⟨rfl,hb2⟩;have HY2:=hid (HY1.out.kept hb2);clear hb2)
    | (go_at_call 9;refine (Lk.long_any M S _ _).mono ?_;rw [hd];rintro e w3 ⟨rfl,hb3⟩;have HY3:=hid (HY2.out.kept hb3);clear hb3)
    | (refine Bu.loadG rfl 41 _ rfl w.heap.size 0 rfl (machL M S) _ HY2.out.toQT.mb.c Tryz.underlying41 rfl info_mach ?_))
   go_ret
   exact ⟨rfl,HY4.out.toQT.low⟩
  ·have hd:decide (19000 < M.b.f)=false:=decide_eq_false h19
   have H20:Hid (M.b.f<=20000):=hid (by omega)
   clear h19
   go_upto_region 4 with (first
    | (go_at_call 20;refine (Wc.watched _ (HF.out.kept HY1.out.toQT.low)).mono ?_;rintro e w2 ⟨rfl,hb2⟩;have HY2:=hid (HY1.out.kept hb2);clear hb2)
    | (go_at_call 9;refine (Lk.long_any M S _ _).mono ?_;rw [hd];rintro e w3 ⟨rfl,hb3⟩;have HY3:=hid (HY2.out.kept hb3);clear hb3)
    | (refine Bu.loadG rfl 41 _ rfl w.heap.size 0 rfl (machL M S) _ HY2.out.toQT.mb.c Tryz.underlying41 rfl info_mach ?_))
   have hrz:=HRZ.out
   have hlen:=hrz.len
   have hxc:=HX.out
   have hcl:=HFT.out.clock
   obtain ⟨cl0,cl1⟩:=hcl
   have hb:=HB.out
   have hwr:IntKind.i64.wrap (M.clock+(N:Int))=M.clock+N:=by rw [IntKind.wrap_i64];omega
   clear HY1 HY2 hd
   go_wp2
   go_loopw [34] (fun i wr=>∃ j:Nat,j<=acc.length/\i = .int .i64 j/\QT2 w w1 M S v l X SX (.slice al acc.length cl) acc wr) (fun i _=>acc.length - (intOf i).toNat)
   case atStart=>exact ⟨0,Nat.zero_le _,rfl,HY3.out⟩
   case round =>
    obtain ⟨j,hj,rfl,hY⟩:=hrel
    have HY:=hid hY
    have x72:=hY.toQT.mb.at 72 (.int .i64 M.clock) rfl
    have xz:=hY.toQT.mb.z
    by_cases hlt:j < acc.length
    ·have hlt2:(j:Int) < acc.length:=by omega
     have hj0:(0:Int)<=j:=by omega
     have hjs:(j:Int) < 1000:=by omega
     obtain ⟨x,hx⟩:∃ x,acc[j]? = some x:=⟨_,List.getElem?_eq_getElem hlt⟩
     obtain ⟨g1,o1,c1,q1,z1,r1⟩:=hY.rw.range hlt (dcs_row acc j x hx)
     cases q1
     have R1:Hid (wr.rangeAt g1 (o1+j * 4) [.int .i64 x.c,.bool x.a,.int .u16 x.pc,.string (Asmk x.t)]):=hid r1
     obtain ⟨t1,t2,t3⟩:=hrz.one j x hx
     have t4:=asmk_ne t3
     have t5:¬ x.c < M.clock:=by omega
     have t6:¬ M.clock+(N:Int)<=x.c:=by omega
     have HXJ:=hid hx
     clear hY hx r1 t3
     go_upto_region 9 with (refine wpList_load_mid rfl 76 _ rfl g1 (o1+j * 4) (by rfl) [.int .i64 x.c,.bool x.a,.int .u16 x.pc,.string (Asmk x.t)] _ R1.out Tryz.underlying76 rfl info_did2 ?_)
     have HN1:Hid (QT2 w w1 M S v l X SX (.slice (some ⟨g1,o1,none⟩) acc.length cl) acc (wr.alloc (.cells #[.int .i64 x.c,.bool x.a,.int .u16 x.pc,.string (Asmk x.t)] 76))):=hid (HY.out.kept (stA (st0 wr) _))
     by_cases hjz:j=0
     ·subst hjz
      clear R1 HXJ t5 t6
      go_quiet (fail)
      go_wp2
      exact ⟨⟨1,by omega,rfl,HN1.out.kept (st_drewN (st0 _) nq)⟩,by simp [intOf];omega⟩
     ·obtain ⟨k,rfl⟩:∃ k,j=k+1:=⟨j - 1,by omega⟩
      obtain ⟨y,hy⟩:∃ y,acc[k]? = some y:=⟨_,List.getElem?_eq_getElem (by omega)⟩
      obtain ⟨g2,o2,c2,q2,z2,r2⟩:=HN1.out.rw.range (show k < acc.length by omega) (dcs_row acc k y hy)
      cases q2
      have u0:=r2 0 (.int .i64 y.c) rfl
      have u1:=r2 1 (.bool y.a) rfl
      rw [Nat.add_zero] at u0
      have hk1:IntKind.i64.wrap (((k+1:Nat):Int) - 1)=k:=by rw [IntKind.wrap_i64];omega
      have hk1':((k+1:Nat):Int) - 1=k:=by omega
      have hk2:(0:Int) < ((k+1:Nat):Int):=by omega
      have hk3:(k:Int) < acc.length:=by omega
      have hk4:(0:Int)<=k:=by omega
      have hRz:=hrz.two k y x hy HXJ.out
      clear r2 hy HXJ R1 t5 t6
      rcases hRz with h1 | ⟨h1,h2,h3⟩
      ·have h1':¬ x.c < y.c:=by omega
       have h1e:(y.c == x.c)=false:=by simp;omega
       have h1d:decide (y.c=x.c)=false:=decide_eq_false (by omega)
       clear h1
       go_quiet (fail)
       go_wp2
       exact ⟨⟨k+1+1,by omega,by simp,HN1.out.kept (st_drewN (st0 _) nq)⟩,by simp [intOf];omega⟩
      ·rw [h2] at u1
       obtain ⟨xc,xa,xp,xt⟩:=x
       dsimp only at h1 h3 t1 t2 t4 HN1 ⊢
       subst h1 h3
       have h1':¬ y.c < y.c:=by omega
       go_quiet (fail)
       go_wp2
       exact ⟨⟨k+1+1,by omega,by simp,HN1.out.kept (st_drewN (st0 _) nq)⟩,by simp [intOf];omega⟩
    ·have hnl:¬ (j:Int) < acc.length:=by omega
     have w72:=hY.toQT.xb.at 72 (.int .i64 X.clock) rfl
     have wz:=hY.toQT.xb.z
     rw [hxc] at w72
     clear hY
     go_wp2
     go_ret
     exact ⟨by simp,HY.out.toQT.low⟩
theorem watchRises_walk:WatchRisesWalk:=by
 intro H enc W base v0 v1 v2 d0 d1 d2 p0 p1 p2 hF k0 t0 k1 t1 k2 t2
 obtain ⟨M,S,rfl,hok,hs,hz⟩:=open_mach k0 t0
 obtain ⟨l,hin,hll,hlf⟩:=open_inputs k1 t1
 obtain ⟨a,rfl,_,_,wa⟩:=open_int Tryz.underlying3 k2 t2
 exact Wc.rises M S v1 l a W hF hs hz hok hin (fun x hx=>(hlf x hx).d) (bounds_i64 wa)
theorem watchRises_holds:Rows.WatchRisesCardSaid:=watchRises_card watchRises_walk
end Go.Proofs.YtbhpfkjfijdmaaaGreatDoor
