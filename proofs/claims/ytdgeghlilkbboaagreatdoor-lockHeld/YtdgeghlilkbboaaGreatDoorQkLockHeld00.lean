/-
  For every machine and every number the law LockHeld of the program returns true and leaves its arguments as they were; the listed library variables are as the tied card says.
-/
import Derived.Test.YtdgeghlilkbboaaGreatDoorQk07
import Derived.Test.YtdgeghlilkbboaaGreatDoorCards
import Derived.Test.YtdgeghlilkbboaaGreatDoorTie
import Derived.SevenTiedAt
import Derived.Test.YtdgeghlilkbboaaGreatDoorQk43
import Derived.Test.YtdgeghlilkbboaaGreatDoorQk44
namespace Go.Proofs.YtdgeghlilkbboaaGreatDoor
open Go.ChangeShapes Go.WideShapes Go.ChangeAt Go.RowKit
set_option linter.unusedVariables false
set_option maxRecDepth 100000
def LockHeldWalk : Prop := ∀ (H : Type) (enc : TypeId × Value → H) (W : World) (base : Nat) (v0 v1 : Value) (d0 d1 : DataW H) (p0 p1 : List MemPlace), AF W →
  Value.okWide Tryz.prog W .any base (Tryz.f6.params.getD 0 0) v0 → DataW.Trod enc Tryz.prog W 0 (fun _ => true) true (Tryz.f6.params.getD 0 0) v0 d0 p0 → Value.okWide Tryz.prog W .any base (Tryz.f6.params.getD 1 0) v1 → DataW.Trod enc Tryz.prog W 0 (fun _ => true) true (Tryz.f6.params.getD 1 0) v1 d1 p1 →
  Calls Tryz.prog 6 #[v0, v1] W fun e w' => e = .returned (.bool true) ∧ Below W.heap.size W w'
theorem lockHeld_lifted (walk : LockHeldWalk) (os : Os) (started : os.Started) (H : Type) (enc : TypeId × Value → H) :
    ReturnsInHanded {} Tryz.checked os 6 .any (fun w args => (Rows.lockHeldSpec.pre enc Tryz.prog Tryz.f6 [] false w args ∧ laidMetH Tryz.prog Rows.lockHeldRow.laid w) ∧ sizedMet enc Tryz.prog Tryz.f6 (OpenSpec.ofChange Rows.lockHeldSpec) false w args)
      (Rows.lockHeldSpec.post enc Tryz.prog Tryz.f6 false true false false) := by
  refine returns_and_shaped (C := Tryz.checked) (X := fun w _ => laidMetH Tryz.prog Rows.lockHeldRow.laid w) (fun _ _ _ hh h => h.of_heap hh) own started (by kernel_rfl) Tryz.func6
    (ChangeSpec.witness_shaped (enc := enc) (C := Tryz.checked) (os := os) (X := fun w _ => laidMetH Tryz.prog Rows.lockHeldRow.laid w) false (World.laidAll Tryz.prog os Rows.lockHeldRow.laid) #[.agg #[.int .u16 0, .int .u16 0, .int .u16 0, .int .u16 0, .int .u16 0, .int .u16 0, .int .u16 0, .int .u16 0, .int .u16 0, .bool false, .bool false, .bool false, .bool false, .bool false, .bool false, .int .u16 0, .int .u16 0, .int .u16 0, .int .u16 0, .int .u16 0, .int .u16 0, .int .u16 0, .int .u16 0, .int .u16 0, .bool false, .bool false, .bool false, .bool false, .bool false, .bool false, .slice none 0 0, .slice none 0 0, .slice none 0 0, .slice none 0 0, .slice none 0 0, .int .u8 0, .bool false, .int .u8 0, .int .u8 0, .bool false, .int .u8 0, .int .u16 0, .int .u16 0, .bool false, .bool false, .int .u16 0, .int .u16 0, .int .u8 0, .bool false, .int .u16 0, .int .u16 0, .int .u16 0, .int .u8 0, .bool false, .int .u16 0, .int .u16 0, .int .u16 0, .int .u8 0, .bool false, .int .u16 0, .int .i64 0, .int .i64 0, .int .i64 0, .bool false, .int .i64 0, .int .u16 0, .int .u16 0, .bool false, .bool false, .int .u8 0, .int .u8 0, .bool false, .int .i64 0, .int .i64 0, .int .i64 0], .int .i64 0] 8 (World.laidAll_os _ _ _)
      (World.shaped_of_ZipB (by kernel_rfl) (by kernel_rfl)) (by kernel_rfl) (by kernel_rfl) (by kernel_rfl)
      (by rw [MakeChecks.laidMetH_plain _ _ _ (by kernel_rfl)]; exact laidMet_laidAll _ (by kernel_rfl) (by kernel_rfl))) ?_
  intro W base args ds gs before hval0 hW _ hwt hL hsh _
  have hval : ∀ (j : Nat) t v, Tryz.f6.params[j]? = some t → args[j]? = some v → Value.okWide Tryz.prog W .any base t v := hval0
  have hW' := hW
  obtain ⟨p, q, hA0, hV, rfl, _, _⟩ := hW
  have hA : DataW.TrodAll enc Tryz.prog W 0 (fun _ => true) true Tryz.f6.params.toList args.toList ds p := hA0
  have hA1 := hA
  rw [Tryz.params6] at hA hval
  obtain ⟨v0, vs0, d0, ds0, p0, q0, hargs, rfl, rfl, h0, r0⟩ := trodAll_cons hA
  obtain ⟨v1, vs1, d1, ds1, p1, q1, rfl, rfl, rfl, h1, r1⟩ := trodAll_cons r0
  obtain ⟨rfl, rfl, rfl⟩ := trodAll_nil r1
  obtain rfl : args = #[v0, v1] := by cases args; simp_all
  obtain ⟨rfl, rfl⟩ := trodVars_none hV
  rw [MakeChecks.laidMetH_plain _ _ _ (by kernel_rfl)] at hL
  have hlt := fun x hx => hW'.lt x (List.mem_append_left _ hx)
  refine (walk H enc W base v0 v1 d0 d1 _ _ (af_of hL hsh (by simp [Rows.lockHeldRow]) (by simp [Rows.lockHeldRow])) (hval 0 _ v0 rfl rfl) h0 (hval 1 _ v1 rfl rfl) h1).mono fun e W' ⟨he, hb⟩ => ?_
  subst he
  exact ⟨_, rfl, _, _, _, [], _, [], hW', trodAll_mk1 (shut_bool Tryz.underlying4 _), trodAll_below_all (by kernel_rfl) hb (by kernel_rfl) hA1 hlt, rfl, hb.frame _, fun h => by cases h⟩
theorem and_t {a b : Bool} (ha : a = true) (hb : b = true) : (a && b) = true := by rw [ha, hb]; rfl
theorem lockHeld_f0 : (Rows.lockHeldRow.wf (OpenSpec.ofChange Rows.lockHeldSpec)) = true := by kernel_rfl
theorem lockHeld_f1 : (laidOutB Tryz.prog) = true := by kernel_rfl
theorem lockHeld_f2 : (mapsRowed Tryz.prog) = true := by kernel_rfl
theorem lockHeld_f3 : (Tryz.f6.params.all (Tryz.prog.readableRec ·)) = true := by kernel_rfl
theorem lockHeld_f4 : (namedTie Tryz.prog Rows.lockHeldRow.named Rows.lockHeldSpec.vars) = true := by kernel_rfl
theorem lockHeld_f5 : ((Rows.lockHeldRow.stops == [])) = true := by kernel_rfl
theorem lockHeld_f6 : ((Tryz.prog.stops == [])) = true := by kernel_rfl
theorem lockHeld_f7 : ((Rows.lockHeldRow.knobs == [])) = true := by kernel_rfl
theorem lockHeld_f8 : ((Tryz.prog.stopKnobs == [])) = true := by kernel_rfl
theorem lockHeld_f9 : ((Rows.lockHeldRow.inPlace == Tryz.prog.inPlace 6)) = true := by kernel_rfl
theorem lockHeld_f10 : ((Rows.lockHeldRow.unfollowed == Tryz.prog.unfollowed 6)) = true := by kernel_rfl
theorem lockHeld_f11 : ((Rows.lockHeldRow.recurses == Tryz.prog.recurses 6)) = true := by kernel_rfl
theorem lockHeld_f12 : ((Rows.lockHeldRow.named == Tryz.prog.varsNamed 6)) = true := by kernel_rfl
theorem lockHeld_f13 : ((Rows.lockHeldRow.maps == (Tryz.f6.params.toList ++ Rows.lockHeldSpec.plain.varTypes Tryz.prog).any (Tryz.prog.mapsRec ·))) = true := by kernel_rfl
theorem lockHeld_f14 : ((Rows.lockHeldRow.ifaces == (Tryz.f6.params.toList ++ Rows.lockHeldSpec.plain.varTypes Tryz.prog).any (Tryz.prog.ifacesRec ·))) = true := by kernel_rfl
theorem lockHeld_f15 : ((Rows.lockHeldRow.mapsOut == Tryz.prog.mapsAmong Tryz.f6.resultTypes.toList)) = true := by kernel_rfl
theorem lockHeld_f16 : ((Rows.lockHeldRow.loops == (Tryz.f6.params.toList ++ Rows.lockHeldSpec.plain.varTypes Tryz.prog).any (Tryz.prog.loopsFrom ·))) = true := by kernel_rfl
theorem lockHeld_f17 : ((Rows.lockHeldRow.wideKeys == (Tryz.f6.params.toList ++ Rows.lockHeldSpec.plain.varTypes Tryz.prog ++ Tryz.f6.resultTypes.toList).any (Tryz.prog.wideKeysFrom ·))) = true := by kernel_rfl
theorem lockHeld_f18 : (Rows.lockHeldSpec.vars.all (Tryz.prog.varReadable ·)) = true := by kernel_rfl
theorem lockHeld_f19 : (Tryz.f6.resultTypes.all (fun t => Tryz.prog.readableRec t && decide (t < Tryz.prog.types.size))) = true := by kernel_rfl
theorem lockHeld_f20 : ((Rows.lockHeldRow.ifacesOut == Tryz.f6.resultTypes.toList.any (Tryz.prog.ifacesRec ·))) = true := by kernel_rfl
theorem lockHeld_f21 : ((Rows.lockHeldRow.loopsOut == Tryz.f6.resultTypes.toList.any (Tryz.prog.loopsFrom ·))) = true := by kernel_rfl
theorem lockHeld_f22 : ((Rows.lockHeldRow.plainKeys == Tryz.prog.plainKeys)) = true := by kernel_rfl
theorem lockHeld_f23 : (Rows.lockHeldRow.shortTexts.isNone) = true := by kernel_rfl
theorem lockHeld_f24 : (Tryz.prog.stopsHeard) = true := by kernel_rfl
theorem lockHeld_f25 : (Tryz.prog.mayEnter) = true := by kernel_rfl
theorem lockHeld_f26 : ((Rows.lockHeldRow.lifted == Tryz.prog.liftsFinal)) = true := by kernel_rfl
theorem lockHeld_f27 : ((Tryz.prog.make == some Rows.lockHeldRow.make)) = true := by kernel_rfl
theorem lockHeld_f28 : ((Rows.lockHeldRow.kinds == (if Rows.lockHeldRow.domain.isEmpty then [] else Tryz.f6.params.toList.map fun t => match Tryz.prog.underlying t with | some (.int k) => some k | _ => none))) = true := by kernel_rfl
theorem lockHeld_f29 : ((Rows.lockHeldRow.pinned == Rows.lockHeldRow.pinnedBy)) = true := by kernel_rfl
theorem lockHeld_f30 : ((Rows.lockHeldRow.veiled == (Tryz.f6.params.toList ++ Rows.lockHeldSpec.plain.varTypes Tryz.prog ++ Tryz.f6.resultTypes.toList).any (Tryz.prog.veiledRec ·))) = true := by kernel_rfl
theorem lockHeld_f31 : (Rows.lockHeldRow.veiledFits Tryz.prog Tryz.f6.params.toList (Tryz.f6.params.toList ++ Rows.lockHeldSpec.plain.varTypes Tryz.prog ++ Tryz.f6.resultTypes.toList)) = true := by kernel_rfl
theorem lockHeld_facts : joinedFacts Tryz.prog 6 Tryz.f6 Rows.lockHeldSpec Rows.lockHeldRow = true := and_t (and_t (and_t (and_t (and_t (and_t (and_t (and_t (and_t (and_t (and_t (and_t (and_t (and_t (and_t (and_t (and_t (and_t (and_t (and_t (and_t (and_t (and_t (and_t (and_t (and_t (and_t (and_t (and_t (and_t (and_t (lockHeld_f0) lockHeld_f1) lockHeld_f2) lockHeld_f3) lockHeld_f4) lockHeld_f5) lockHeld_f6) lockHeld_f7) lockHeld_f8) lockHeld_f9) lockHeld_f10) lockHeld_f11) lockHeld_f12) lockHeld_f13) lockHeld_f14) lockHeld_f15) lockHeld_f16) lockHeld_f17) lockHeld_f18) lockHeld_f19) lockHeld_f20) lockHeld_f21) lockHeld_f22) lockHeld_f23) lockHeld_f24) lockHeld_f25) lockHeld_f26) lockHeld_f27) lockHeld_f28) lockHeld_f29) lockHeld_f30) lockHeld_f31
theorem lockHeld_row (walk : LockHeldWalk) : Rows.LockHeldSaid :=
  OpenClaim.holds_of_wide 6 Tryz.f6 rfl rfl rfl rfl rfl rfl rfl ⟨rfl, rfl, rfl, rfl, rfl⟩ rfl rfl rfl rfl rfl (by kernel_rfl) Tryz.func6 lockHeld_facts
    (of_decide_eq_true (by kernel_rfl)) (by unfold Func.isWrapper; first | (rw [if_pos (by decide +kernel)]; kernel_rfl) | (rw [if_neg (by decide +kernel)]; exact ⟨rfl, rfl⟩))
    (fun os started H enc _ => lockHeld_lifted walk os started H enc)
theorem lockHeld_card (walk : LockHeldWalk) : Rows.LockHeldCardSaid :=
  Claim7.holds_tied_plain_at .later [] _ true _ true (lockHeld_row walk) (fun _ h => by cases h) (by kernel_rfl) (fun _ h => by cases h) lockHeld_row_tie rfl ⟨rfl, rfl⟩ (by kernel_rfl) rfl
    (fun f fn hf hfn => by
      obtain rfl : f = 6 := Option.some.inj ((show Tryz.prog.funcNamed "marquee/marqueelaw.LockHeld" = some 6 by kernel_rfl).symm.trans hf) |>.symm
      obtain rfl : fn = Tryz.f6 := (Option.some.inj (Tryz.func6.symm.trans hfn)).symm
      exact ⟨by kernel_rfl, fun j t ht => by
        have hm : t ∈ Tryz.f6.params.toList := List.mem_of_getElem? (i := j) (by rw [Array.getElem?_toList]; exact ht)
        have hall : Tryz.f6.params.toList.all (fun t => !(Tryz.prog.wantsStandIn t)) = true := by kernel_rfl
        have := List.all_eq_true.1 hall t hm
        exact Bool.not_eq_true' _ ▸ this⟩)
    (by kernel_rfl)
def Mach.hold (M : Mach) : Mach := { M with held := true, main := { M.main with Waits := true, May := false } }
theorem hold_ok {M : Mach} (h : M.ok) : M.hold.ok := { h with main := h.main }
theorem hold_cells (M : Mach) (S : Sl) : (((machL M S).set 68 (.bool true)).set 14 (.bool true)).set 13 (.bool false) = machL M.hold S := rfl
set_option maxHeartbeats 3200000 in
theorem Lk.held_bad (M : Mach) (S : Sl) (n : Int) (w : World) (hF : AF w) (hs : SlAt w S M) (hok : M.ok) (hz : ∀ j, j < 5 → (M.byt j).length ≤ 9223372036854775807) (hn : -9223372036854775808 ≤ n ∧ n ≤ 9223372036854775807) (hr : runErr M.hold [] n ≠ 0) :
    Calls Tryz.prog 6 #[.agg (machL M S).toArray, .int .i64 n] w fun e w' => e = .returned (.bool true) ∧ Below w.heap.size w w' := by
  have x68 := (Bx.new w (machL M S) 41 (b := w.heap.size) rfl).at 68 (.bool M.held) rfl
  have x14 := (Bx.new w ((machL M S).set 68 (.bool true)) 41 (b := w.heap.size) rfl).at 14 (.bool M.main.Waits) rfl
  have x13 := (Bx.new w (((machL M S).set 68 (.bool true)).set 14 (.bool true)) 41 (b := w.heap.size) rfl).at 13 (.bool M.main.May) rfl
  have HF := hid hF
  have hq : Below w.heap.size w (w.alloc (.cells (machL M.hold S).toArray 41)) := stA (st0 w) _
  have HRU := hid (Lk.run_bad M.hold S (.slice none 0 0) [] n (w.alloc (.cells (machL M.hold S).toArray 41)) (hs.kept hq) hz (hold_ok hok) (nil_inp _ _) hn hr)
  have HB := hid (Bx.new w (machL M.hold S) 41 (b := w.heap.size) rfl)
  have hne : (runErr M.hold [] n != 0) = true := by simpa using hr
  generalize runErr M.hold [] n = c at hne HRU
  clear hF hs hok hz hn hr
  go_enter Tryz.func6, Tryz.ntmps6
  go_upto_region 2 with fail
  rw [hold_cells]
  clear x68 x14 x13
  go_wp2_with (first
    | (refine wpList_load_mid rfl 41 _ rfl w.heap.size 0 rfl (machL M.hold S) _ HB.out.c Tryz.underlying41 rfl info_mach ?_)
    | (go_at_call 8; refine HRU.out.mono ?_; rintro e w1 ⟨rfl, hb1⟩; have HL1 := hid (stp hq hb1); clear hb1)
    | (refine wpList_store_mid rfl 41 _ _ rfl w1.heap.size 0 (machL zeroM nilS).toArray rfl rfl (R3.th1 w1) info_mach (machL_one _ _ zero_sl) ?_
       refine Pl.cutL (R3 w1 zeroM nilS nil3) (R3.mk1 w1 zeroM nilS) ?_
       intro Y1 hY1
       have HY1 := hid hY1
       clear hY1)
    | (refine wpList_store_mid rfl 47 _ _ rfl (w1.heap.size + 1) 0 #[.slice none 0 0, .slice none 0 0, .slice none 0 0] rfl rfl (HY1.out.s.there 0 3 (by simp)) info_shown (one3 _ _ _ _ _ _ _ _ _) ?_
       refine Pl.cutL (R3 w1 zeroM nilS nil3) HY1.out.put ?_
       intro Y2 hY2
       have HY2 := hid (stp HL1.out hY2.old)
       clear hY2)
    | (go_at_call 10; refine (Lk.locked_any _ (HF.out.kept HL3.out)).mono ?_; rintro e w4 ⟨rfl, hb4⟩; have HL4 := hid (stp HL3.out hb4); clear hb4)
    | (go_at_call 10; refine (Lk.locked_any _ (HF.out.kept HY2.out)).mono ?_; rintro e w3 ⟨rfl, hb3⟩; have HL3 := hid (stp HY2.out hb3); clear hb3))
  go_ret
  exact ⟨rfl, HL4.out⟩
structure Mach.stood (M X : Mach) : Prop where
  main : X.main = M.main
  aux : X.aux = M.aux
  ram : X.byt 2 = M.byt 2
  own : X.byt 3 = M.byt 3
  video : X.byt 4 = M.byt 4
  m0 : X.m0 = M.m0
  m1 : X.m1 = M.m1
  p0 : X.p0 = M.p0
  p1 : X.p1 = M.p1
  ar : X.aready = M.aready
theorem still_stood {k0 k : Cs} (h : Cs.still k0 k) : k0.s.M.stood k.s.M := ⟨h.main, h.aux, h.ram, h.own, h.video, h.m0, h.m1, h.p0, h.p1, h.ar⟩
set_option maxHeartbeats 6400000 in
theorem Lk.held_ok (M : Mach) (S : Sl) (n : Nat) (w : World) (hF : AF w) (hs : SlAt w S M) (hf : M.hold.fit) (hf2 : M.b.f ≤ 20000) (hn : n ≤ 20000 ∧ M.clock + n ≤ 200000) :
    Calls Tryz.prog 6 #[.agg (machL M S).toArray, .int .i64 n] w fun e w' => e = .returned (.bool true) ∧ Below w.heap.size w w' := by
  have x68 := (Bx.new w (machL M S) 41 (b := w.heap.size) rfl).at 68 (.bool M.held) rfl
  have x14 := (Bx.new w ((machL M S).set 68 (.bool true)) 41 (b := w.heap.size) rfl).at 14 (.bool M.main.Waits) rfl
  have x13 := (Bx.new w (((machL M S).set 68 (.bool true)).set 14 (.bool true)) 41 (b := w.heap.size) rfl).at 13 (.bool M.main.May) rfl
  have HF := hid hF
  have hq : Below w.heap.size w (w.alloc (.cells (machL M.hold S).toArray 41)) := stA (st0 w) _
  have HRU := hid (Lk.run_ok M.hold S (.slice none 0 0) [] n (w.alloc (.cells (machL M.hold S).toArray 41)) (hs.kept hq) (hF.kept hq).shapes (nil_inp _ _) (fun x hx => by cases hx) hf hf2 rfl hn)
  have HB := hid (Bx.new w (machL M.hold S) 41 (b := w.heap.size) rfl)
  have HS := hid (hs.kept hq)
  have hst := clocks_still ⟨⟨M.hold, 0, []⟩, [], [], []⟩ rfl rfl rfl rfl n
  have HST : Hid (M.hold.stood (Cs.clocks ⟨⟨M.hold, 0, []⟩, [], [], []⟩ n).s.M) := hid (still_stood hst)
  have HLN : Hid ((Cs.clocks ⟨⟨M.hold, 0, []⟩, [], [], []⟩ n).s.l = []) := hid hst.l
  have hfr : M.hold.b.f = M.b.f := rfl
  have HFR := hid hfr
  clear hF hs hf hf2 hn hst hfr
  go_enter Tryz.func6, Tryz.ntmps6
  go_upto_region 2 with fail
  rw [hold_cells]
  clear x68 x14 x13
  generalize Cs.clocks ⟨⟨M.hold, 0, []⟩, [], [], []⟩ n = k at HRU HST HLN
  have HS' : Hid (SlAt (w.alloc (.cells (machL M.hold S).toArray 41)) S M.hold) := HS
  clear HS HFR
  generalize M.hold = M0 at *
  go_upto_region 3 with (first
    | (refine wpList_load_mid rfl 41 _ rfl w.heap.size 0 rfl (machL M0 S) _ HB.out.c Tryz.underlying41 rfl info_mach ?_)
    | (go_at_call 8; refine HRU.out.mono ?_; rintro e w1 ⟨F, N, vln, vsm, vw, rfl, hT, _, _, _, hb1⟩
       obtain ⟨a1, n1, c1, e1⟩ := row_slice hT.ln
       obtain ⟨a2, n2, c2, e2⟩ := row_slice hT.sm
       obtain ⟨a3, c3, e3⟩ := row_len hT.ws
       rw [HLN.out] at e3
       subst e1 e2 e3
       have HIS := hid (isSl_of hT.sl)
       have HSX := hid hT.sl
       have HL1 := hid (stp hq hb1)
       have HB1 := hid (HB.out.kept hb1)
       have HS1 := hid (HS'.out.kept hb1)
       obtain ⟨X, hX⟩ : ∃ X, X = k.s.M := ⟨_, rfl⟩
       rw [← hX] at HSX HST ⊢
       clear hT hb1 hX)
    | (refine wpList_store_mid rfl 41 _ _ rfl w1.heap.size 0 (machL X F.S).toArray rfl rfl (R3.th1 w1) info_mach (machL_one _ _ HIS.out) ?_
       refine Pl.cutL (R3 w1 X F.S nil3) (R3.mk1 w1 X F.S) ?_
       intro Y1 hY1
       have HY1 := hid hY1
       clear hY1)
    | (refine wpList_store_mid rfl 47 _ _ rfl (w1.heap.size + 1) 0 #[.slice a1 n1 c1, .slice a2 n2 c2, .slice a3 0 c3] rfl rfl (HY1.out.s.there 0 3 (by simp)) info_shown (one3 _ _ _ _ _ _ _ _ _) ?_
       refine Pl.cutL (R3 w1 X F.S [.slice a1 n1 c1, .slice a2 n2 c2, .slice a3 0 c3]) HY1.out.put ?_
       intro Y2 hY2
       have HY2 := hid hY2
       clear hY2))
  by_cases hlg : 19000 < M0.b.f
  · have hd : decide (19000 < M0.b.f) = true := decide_eq_true hlg
    clear hlg
    go_wp2_with (first
      | (refine Bu.loadG rfl 41 _ rfl w.heap.size 0 rfl (machL M0 S) _ (((HB1.out.kept HY2.out.old).kept hb3).c) Tryz.underlying41 rfl info_mach ?_)
      | (go_at_call 14; refine (Lk.long_any M0 S _ _).mono ?_; rw [hd]; rintro e w4 ⟨rfl, hb4⟩; have HL4 := hid (stp HL3.out hb4); clear hb4)
      | (go_at_call 10; refine (Lk.locked_any _ (HF.out.kept HL4.out)).mono ?_; rintro e w5 ⟨rfl, hb5⟩; have HL5 := hid (stp HL4.out hb5); clear hb5)
      | (go_at_call 10; refine (Lk.locked_any _ (HF.out.kept (stp HL1.out HY2.out.old))).mono ?_; rintro e w3 ⟨rfl, hb3⟩; have HL3 := hid (stp (stp HL1.out HY2.out.old) hb3)))
    go_ret
    exact ⟨rfl, HL5.out⟩
  · have hd : decide (19000 < M0.b.f) = false := decide_eq_false hlg
    clear hlg
    go_upto_region 5 with (first
      | (refine Bu.loadG rfl 41 _ rfl w.heap.size 0 rfl (machL M0 S) _ (((HB1.out.kept HY2.out.old).kept hb3).c) Tryz.underlying41 rfl info_mach ?_)
      | (go_at_call 14; refine (Lk.long_any M0 S _ _).mono ?_; rw [hd]; rintro e w4 ⟨rfl, hb4⟩)
      | (go_at_call 10; refine (Lk.locked_any _ (HF.out.kept (stp HL1.out HY2.out.old))).mono ?_; rintro e w3 ⟨rfl, hb3⟩))
    have hq4 := stp hb3 hb4
    have HLZ := hid (stp (stp HL1.out HY2.out.old) hq4)
    have hX := HY2.out.kept hq4
    have hm := (HB1.out.kept HY2.out.old).kept hq4
    have sm := (HS1.out.kept HY2.out.old).kept hq4
    have sx := (HSX.out.kept HY2.out.old).kept hq4
    obtain ⟨u2, d2, e2⟩ := sm.lens 2 (by omega)
    obtain ⟨u3, d3, e3⟩ := sm.lens 3 (by omega)
    obtain ⟨u4, d4, e4⟩ := sm.lens 4 (by omega)
    obtain ⟨v2, f2, g2⟩ := sx.lens 2 (by omega)
    obtain ⟨v3, f3, g3⟩ := sx.lens 3 (by omega)
    obtain ⟨v4, f4, g4⟩ := sx.lens 4 (by omega)
    have x2 := hm.at 32 (S.get 2) rfl
    have x3 := hm.at 33 (S.get 3) rfl
    have x4 := hm.at 34 (S.get 4) rfl
    have y2 := hX.x.at 32 (F.S.get 2) rfl
    have y3 := hX.x.at 33 (F.S.get 3) rfl
    have y4 := hX.x.at 34 (F.S.get 4) rfl
    have k2 := sm 2 (by omega)
    have k3 := sm 3 (by omega)
    have k4 := sm 4 (by omega)
    have l2 := sx 2 (by omega)
    have l3 := sx 3 (by omega)
    have l4 := sx 4 (by omega)
    rw [e2] at x2 k2
    rw [e3] at x3 k3
    rw [e4] at x4 k4
    rw [g2] at y2 l2
    rw [g3] at y3 l3
    rw [g4] at y4 l4
    rw [HST.out.ram] at y2 l2
    rw [HST.out.own] at y3 l3
    rw [HST.out.video] at y4 l4
    obtain ⟨p35, p36, p37, p38, p39, p40, _, _, _, _, _, _, _, _, _, _, _, _, p69, p70, _, _, _, p74⟩ := hm.scl
    obtain ⟨r35, r36, r37, r38, r39, r40, _, _, _, _, _, _, _, _, _, _, _, _, r69, r70, _, _, _, r74⟩ := hX.x.scl
    rw [HST.out.p0] at r35 r36 r37
    rw [HST.out.p1] at r38 r39 r40
    rw [HST.out.m0] at r69
    rw [HST.out.m1] at r70
    rw [HST.out.ar] at r74
    have n1 := hm.mainR
    have n2 := hX.x.mainR
    have n3 := hm.auxR
    have n4 := hX.x.auxR
    rw [HST.out.main] at n2
    rw [HST.out.aux] at n4
    have w2 := hX.s.at 2 _ rfl
    have wz := hX.s.z
    have hz := hm.z
    have hz1 := hX.x.z
    have q1 := Bu.eq_cpuL M0.main
    have q2 := Bu.eq_cpuL M0.aux
    have q3 := Bu.eq_pads M0.p0.d M0.p0.s M0.p1.d M0.p1.s M0.p0.l M0.p1.l
    have q7 := Bu.eq_mail M0.m0 M0.m1
    have K2 := hid k2
    have K3 := hid k3
    have K4 := hid k4
    have L2 := hid l2
    have L3 := hid l3
    have L4 := hid l4
    have N1 := hid n1
    have N2 := hid n2
    have N3 := hid n3
    have N4 := hid n4
    clear hX hm sm sx e2 e3 e4 g2 g3 g4 k2 k3 k4 l2 l3 l4 n1 n2 n3 n4 hb3 hb4 hq4 HY2 HB1 HS1 HSX HST HLN hd HL1 HIS
    go_wp2_with (first
      | (go_at_call 21; refine (equal_any _ _ (M0.byt 2) (M0.byt 2) _ L2.out K2.out).mono ?_; rw [beq_self_eq_true]; rintro e w1 ⟨rfl, rfl⟩)
      | (go_at_call 21; refine (equal_any _ _ (M0.byt 3) (M0.byt 3) _ L3.out K3.out).mono ?_; rw [beq_self_eq_true]; rintro e w1 ⟨rfl, rfl⟩)
      | (go_at_call 21; refine (equal_any _ _ (M0.byt 4) (M0.byt 4) _ L4.out K4.out).mono ?_; rw [beq_self_eq_true]; rintro e w1 ⟨rfl, rfl⟩)
      | (refine wpList_load_mid rfl 25 _ rfl w.heap.size 0 rfl (cpuL M0.main) _ N1.out Tryz.underlying25 rfl info_cpu ?_)
      | (refine wpList_load_mid rfl 25 _ rfl w1.heap.size 0 rfl (cpuL M0.main) _ N2.out Tryz.underlying25 rfl info_cpu ?_)
      | (refine Bu.loadG rfl 25 _ rfl w.heap.size 15 rfl (cpuL M0.aux) _ N3.out Tryz.underlying25 rfl info_cpu ?_)
      | (refine Bu.loadG rfl 25 _ rfl w1.heap.size 15 rfl (cpuL M0.aux) _ N4.out Tryz.underlying25 rfl info_cpu ?_))
    go_ret
    exact ⟨rfl, HLZ.out⟩
theorem lockHeld_walk : LockHeldWalk := by
  intro H enc W base v0 v1 d0 d1 p0 p1 hF k0 t0 k1 t1
  obtain ⟨M, S, rfl, hok, hs, hz⟩ := open_mach k0 t0
  obtain ⟨n, rfl, _, _, wn⟩ := open_int Tryz.underlying3 k1 t1
  have hn := bounds_i64 wn
  by_cases hr : runErr M.hold [] n = 0
  · unfold runErr at hr
    split at hr
    · rename_i hc
      have hfit := chk_fit (hold_ok hok) hc
      have hf2 : M.b.f ≤ 20000 := chk_frame hc
      split at hr
      · split at hr
        · rename_i h3
          obtain ⟨n0, n1, n2⟩ := h3
          obtain ⟨k, rfl⟩ := Int.eq_ofNat_of_zero_le n0
          exact Lk.held_ok M S k W hF hs hfit hf2 ⟨by omega, n2⟩
        · cases hr
      · rename_i h2
        exact absurd rfl h2
    · rename_i h2
      exact absurd hr h2
  · exact Lk.held_bad M S n W hF hs hok hz hn hr
theorem lockHeld_holds : Rows.LockHeldCardSaid := lockHeld_card lockHeld_walk
end Go.Proofs.YtdgeghlilkbboaaGreatDoor
