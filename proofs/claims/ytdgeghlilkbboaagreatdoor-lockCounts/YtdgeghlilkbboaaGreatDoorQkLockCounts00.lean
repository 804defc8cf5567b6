/-
  Parts of a proof, joined.
-/
import Derived.Test.YtdgeghlilkbboaaGreatDoorQk07
import Derived.Test.YtdgeghlilkbboaaGreatDoorCards
import Derived.Test.YtdgeghlilkbboaaGreatDoorTie
import Derived.SevenTiedAt
import Derived.Test.YtdgeghlilkbboaaGreatDoorQk44
import Derived.Test.YtdgeghlilkbboaaGreatDoorQk35
import Derived.Deep.Slices
import Derived.Test.YtdgeghlilkbboaaGreatDoorQk41
import Derived.Test.YtdgeghlilkbboaaGreatDoorQk43
import Derived.BigQuiet
import Derived.Deep.CutBlock
namespace Go.Proofs.YtdgeghlilkbboaaGreatDoor
open Go.ChangeShapes Go.WideShapes Go.ChangeAt Go.RowKit
set_option linter.unusedVariables false
set_option maxRecDepth 100000
def LockCountsWalk : Prop := ∀ (H : Type) (enc : TypeId × Value → H) (W : World) (base : Nat) (v0 v1 v2 : Value) (d0 d1 d2 : DataW H) (p0 p1 p2 : List MemPlace), AF W →
  Value.okWide Tryz.prog W .any base (Tryz.f5.params.getD 0 0) v0 → DataW.Trod enc Tryz.prog W 0 (fun _ => true) true (Tryz.f5.params.getD 0 0) v0 d0 p0 → Value.okWide Tryz.prog W .any base (Tryz.f5.params.getD 1 0) v1 → DataW.Trod enc Tryz.prog W 0 (fun _ => true) true (Tryz.f5.params.getD 1 0) v1 d1 p1 → Value.okWide Tryz.prog W .any base (Tryz.f5.params.getD 2 0) v2 → DataW.Trod enc Tryz.prog W 0 (fun _ => true) true (Tryz.f5.params.getD 2 0) v2 d2 p2 →
  Calls Tryz.prog 5 #[v0, v1, v2] W fun e w' => e = .returned (.bool true) ∧ Below W.heap.size W w'
theorem lockCounts_lifted (walk : LockCountsWalk) (os : Os) (started : os.Started) (H : Type) (enc : TypeId × Value → H) :
    ReturnsInHanded {} Tryz.checked os 5 .any (fun w args => (Rows.lockCountsSpec.pre enc Tryz.prog Tryz.f5 [] false w args ∧ laidMetH Tryz.prog Rows.lockCountsRow.laid w) ∧ sizedMet enc Tryz.prog Tryz.f5 (OpenSpec.ofChange Rows.lockCountsSpec) false w args)
      (Rows.lockCountsSpec.post enc Tryz.prog Tryz.f5 false true false false) := by
  refine returns_and_shaped (C := Tryz.checked) (X := fun w _ => laidMetH Tryz.prog Rows.lockCountsRow.laid w) (fun _ _ _ hh h => h.of_heap hh) own started (by kernel_rfl) Tryz.func5
    (ChangeSpec.witness_shaped (enc := enc) (C := Tryz.checked) (os := os) (X := fun w _ => laidMetH Tryz.prog Rows.lockCountsRow.laid w) false (World.laidAll Tryz.prog os Rows.lockCountsRow.laid) #[.agg #[.int .u16 0, .int .u16 0, .int .u16 0, .int .u16 0, .int .u16 0, .int .u16 0, .int .u16 0, .int .u16 0, .int .u16 0, .bool false, .bool false, .bool false, .bool false, .bool false, .bool false, .int .u16 0, .int .u16 0, .int .u16 0, .int .u16 0, .int .u16 0, .int .u16 0, .int .u16 0, .int .u16 0, .int .u16 0, .bool false, .bool false, .bool false, .bool false, .bool false, .bool false, .slice none 0 0, .slice none 0 0, .slice none 0 0, .slice none 0 0, .slice none 0 0, .int .u8 0, .bool false, .int .u8 0, .int .u8 0, .bool false, .int .u8 0, .int .u16 0, .int .u16 0, .bool false, .bool false, .int .u16 0, .int .u16 0, .int .u8 0, .bool false, .int .u16 0, .int .u16 0, .int .u16 0, .int .u8 0, .bool false, .int .u16 0, .int .u16 0, .int .u16 0, .int .u8 0, .bool false, .int .u16 0, .int .i64 0, .int .i64 0, .int .i64 0, .bool false, .int .i64 0, .int .u16 0, .int .u16 0, .bool false, .bool false, .int .u8 0, .int .u8 0, .bool false, .int .i64 0, .int .i64 0, .int .i64 0], .slice none 0 0, .int .i64 0] 8 (World.laidAll_os _ _ _)
      (World.shaped_of_ZipB (by kernel_rfl) (by kernel_rfl)) (by kernel_rfl) (by kernel_rfl) (by kernel_rfl)
      (by rw [MakeChecks.laidMetH_plain _ _ _ (by kernel_rfl)]; exact laidMet_laidAll _ (by kernel_rfl) (by kernel_rfl))) ?_
  intro W base args ds gs before hval0 hW _ hwt hL hsh _
  have hval : ∀ (j : Nat) t v, Tryz.f5.params[j]? = some t → args[j]? = some v → Value.okWide Tryz.prog W .any base t v := hval0
  have hW' := hW
  obtain ⟨p, q, hA0, hV, rfl, _, _⟩ := hW
  have hA : DataW.TrodAll enc Tryz.prog W 0 (fun _ => true) true Tryz.f5.params.toList args.toList ds p := hA0
  have hA1 := hA
  rw [Tryz.params5] at hA hval
  obtain ⟨v0, vs0, d0, ds0, p0, q0, hargs, rfl, rfl, h0, r0⟩ := trodAll_cons hA
  obtain ⟨v1, vs1, d1, ds1, p1, q1, rfl, rfl, rfl, h1, r1⟩ := trodAll_cons r0
  obtain ⟨v2, vs2, d2, ds2, p2, q2, rfl, rfl, rfl, h2, r2⟩ := trodAll_cons r1
  obtain ⟨rfl, rfl, rfl⟩ := trodAll_nil r2
  obtain rfl : args = #[v0, v1, v2] := by cases args; simp_all
  obtain ⟨rfl, rfl⟩ := trodVars_none hV
  rw [MakeChecks.laidMetH_plain _ _ _ (by kernel_rfl)] at hL
  have hlt := fun x hx => hW'.lt x (List.mem_append_left _ hx)
  refine (walk H enc W base v0 v1 v2 d0 d1 d2 _ _ _ (af_of hL hsh (by simp [Rows.lockCountsRow]) (by simp [Rows.lockCountsRow])) (hval 0 _ v0 rfl rfl) h0 (hval 1 _ v1 rfl rfl) h1 (hval 2 _ v2 rfl rfl) h2).mono fun e W' ⟨he, hb⟩ => ?_
  subst he
  exact ⟨_, rfl, _, _, _, [], _, [], hW', trodAll_mk1 (shut_bool Tryz.underlying4 _), trodAll_below_all (by kernel_rfl) hb (by kernel_rfl) hA1 hlt, rfl, hb.frame _, fun h => by cases h⟩
theorem and_t {a b : Bool} (ha : a = true) (hb : b = true) : (a && b) = true := by rw [ha, hb]; rfl
theorem lockCounts_f0 : (Rows.lockCountsRow.wf (OpenSpec.ofChange Rows.lockCountsSpec)) = true := by kernel_rfl
theorem lockCounts_f1 : (laidOutB Tryz.prog) = true := by kernel_rfl
theorem lockCounts_f2 : (mapsRowed Tryz.prog) = true := by kernel_rfl
theorem lockCounts_f3 : (Tryz.f5.params.all (Tryz.prog.readableRec ·)) = true := by kernel_rfl
theorem lockCounts_f4 : (namedTie Tryz.prog Rows.lockCountsRow.named Rows.lockCountsSpec.vars) = true := by kernel_rfl
theorem lockCounts_f5 : ((Rows.lockCountsRow.stops == [])) = true := by kernel_rfl
theorem lockCounts_f6 : ((Tryz.prog.stops == [])) = true := by kernel_rfl
theorem lockCounts_f7 : ((Rows.lockCountsRow.knobs == [])) = true := by kernel_rfl
theorem lockCounts_f8 : ((Tryz.prog.stopKnobs == [])) = true := by kernel_rfl
theorem lockCounts_f9 : ((Rows.lockCountsRow.inPlace == Tryz.prog.inPlace 5)) = true := by kernel_rfl
theorem lockCounts_f10 : ((Rows.lockCountsRow.unfollowed == Tryz.prog.unfollowed 5)) = true := by kernel_rfl
theorem lockCounts_f11 : ((Rows.lockCountsRow.recurses == Tryz.prog.recurses 5)) = true := by kernel_rfl
theorem lockCounts_f12 : ((Rows.lockCountsRow.named == Tryz.prog.varsNamed 5)) = true := by kernel_rfl
theorem lockCounts_f13 : ((Rows.lockCountsRow.maps == (Tryz.f5.params.toList ++ Rows.lockCountsSpec.plain.varTypes Tryz.prog).any (Tryz.prog.mapsRec ·))) = true := by kernel_rfl
theorem lockCounts_f14 : ((Rows.lockCountsRow.ifaces == (Tryz.f5.params.toList ++ Rows.lockCountsSpec.plain.varTypes Tryz.prog).any (Tryz.prog.ifacesRec ·))) = true := by kernel_rfl
theorem lockCounts_f15 : ((Rows.lockCountsRow.mapsOut == Tryz.prog.mapsAmong Tryz.f5.resultTypes.toList)) = true := by kernel_rfl
theorem lockCounts_f16 : ((Rows.lockCountsRow.loops == (Tryz.f5.params.toList ++ Rows.lockCountsSpec.plain.varTypes Tryz.prog).any (Tryz.prog.loopsFrom ·))) = true := by kernel_rfl
theorem lockCounts_f17 : ((Rows.lockCountsRow.wideKeys == (Tryz.f5.params.toList ++ Rows.lockCountsSpec.plain.varTypes Tryz.prog ++ Tryz.f5.resultTypes.toList).any (Tryz.prog.wideKeysFrom ·))) = true := by kernel_rfl
theorem lockCounts_f18 : (Rows.lockCountsSpec.vars.all (Tryz.prog.varReadable ·)) = true := by kernel_rfl
theorem lockCounts_f19 : (Tryz.f5.resultTypes.all (fun t => Tryz.prog.readableRec t && decide (t < Tryz.prog.types.size))) = true := by kernel_rfl
theorem lockCounts_f20 : ((Rows.lockCountsRow.ifacesOut == Tryz.f5.resultTypes.toList.any (Tryz.prog.ifacesRec ·))) = true := by kernel_rfl
theorem lockCounts_f21 : ((Rows.lockCountsRow.loopsOut == Tryz.f5.resultTypes.toList.any (Tryz.prog.loopsFrom ·))) = true := by kernel_rfl
theorem lockCounts_f22 : ((Rows.lockCountsRow.plainKeys == Tryz.prog.plainKeys)) = true := by kernel_rfl
theorem lockCounts_f23 : (Rows.lockCountsRow.shortTexts.isNone) = true := by kernel_rfl
theorem lockCounts_f24 : (Tryz.prog.stopsHeard) = true := by kernel_rfl
theorem lockCounts_f25 : (Tryz.prog.mayEnter) = true := by kernel_rfl
theorem lockCounts_f26 : ((Rows.lockCountsRow.lifted == Tryz.prog.liftsFinal)) = true := by kernel_rfl
theorem lockCounts_f27 : ((Tryz.prog.make == some Rows.lockCountsRow.make)) = true := by kernel_rfl
theorem lockCounts_f28 : ((Rows.lockCountsRow.kinds == (if Rows.lockCountsRow.domain.isEmpty then [] else Tryz.f5.params.toList.map fun t => match Tryz.prog.underlying t with | some (.int k) => some k | _ => none))) = true := by kernel_rfl
theorem lockCounts_f29 : ((Rows.lockCountsRow.pinned == Rows.lockCountsRow.pinnedBy)) = true := by kernel_rfl
theorem lockCounts_f30 : ((Rows.lockCountsRow.veiled == (Tryz.f5.params.toList ++ Rows.lockCountsSpec.plain.varTypes Tryz.prog ++ Tryz.f5.resultTypes.toList).any (Tryz.prog.veiledRec ·))) = true := by kernel_rfl
theorem lockCounts_f31 : (Rows.lockCountsRow.veiledFits Tryz.prog Tryz.f5.params.toList (Tryz.f5.params.toList ++ Rows.lockCountsSpec.plain.varTypes Tryz.prog ++ Tryz.f5.resultTypes.toList)) = true := by kernel_rfl
theorem lockCounts_facts : joinedFacts Tryz.prog 5 Tryz.f5 Rows.lockCountsSpec Rows.lockCountsRow = true := and_t (and_t (and_t (and_t (and_t (and_t (and_t (and_t (and_t (and_t (and_t (and_t (and_t (and_t (and_t (and_t (and_t (and_t (and_t (and_t (and_t (and_t (and_t (and_t (and_t (and_t (and_t (and_t (and_t (and_t (and_t (lockCounts_f0) lockCounts_f1) lockCounts_f2) lockCounts_f3) lockCounts_f4) lockCounts_f5) lockCounts_f6) lockCounts_f7) lockCounts_f8) lockCounts_f9) lockCounts_f10) lockCounts_f11) lockCounts_f12) lockCounts_f13) lockCounts_f14) lockCounts_f15) lockCounts_f16) lockCounts_f17) lockCounts_f18) lockCounts_f19) lockCounts_f20) lockCounts_f21) lockCounts_f22) lockCounts_f23) lockCounts_f24) lockCounts_f25) lockCounts_f26) lockCounts_f27) lockCounts_f28) lockCounts_f29) lockCounts_f30) lockCounts_f31
theorem lockCounts_row (walk : LockCountsWalk) : Rows.LockCountsSaid :=
  OpenClaim.holds_of_wide 5 Tryz.f5 rfl rfl rfl rfl rfl rfl rfl ⟨rfl, rfl, rfl, rfl, rfl⟩ rfl rfl rfl rfl rfl (by kernel_rfl) Tryz.func5 lockCounts_facts
    (of_decide_eq_true (by kernel_rfl)) (by unfold Func.isWrapper; first | (rw [if_pos (by decide +kernel)]; kernel_rfl) | (rw [if_neg (by decide +kernel)]; exact ⟨rfl, rfl⟩))
    (fun os started H enc _ => lockCounts_lifted walk os started H enc)
theorem lockCounts_card (walk : LockCountsWalk) : Rows.LockCountsCardSaid :=
  Claim7.holds_tied_plain_at .later [] _ true _ true (lockCounts_row walk) (fun _ h => by cases h) (by kernel_rfl) (fun _ h => by cases h) lockCounts_row_tie rfl ⟨rfl, rfl⟩ (by kernel_rfl) rfl
    (fun f fn hf hfn => by
      obtain rfl : f = 5 := Option.some.inj ((show Tryz.prog.funcNamed "marquee/marqueelaw.LockCounts" = some 5 by kernel_rfl).symm.trans hf) |>.symm
      obtain rfl : fn = Tryz.f5 := (Option.some.inj (Tryz.func5.symm.trans hfn)).symm
      exact ⟨by kernel_rfl, fun j t ht => by
        have hm : t ∈ Tryz.f5.params.toList := List.mem_of_getElem? (i := j) (by rw [Array.getElem?_toList]; exact ht)
        have hall : Tryz.f5.params.toList.all (fun t => !(Tryz.prog.wantsStandIn t)) = true := by kernel_rfl
        have := List.all_eq_true.1 hall t hm
        exact Bool.not_eq_true' _ ▸ this⟩)
    (by kernel_rfl)
instance : Inhabited Inp := ⟨⟨0, 0, 0⟩⟩
structure Inp.fits (x : Inp) : Prop where
  c : -9223372036854775808 ≤ x.c ∧ x.c ≤ 9223372036854775807
  p : -9223372036854775808 ≤ x.p ∧ x.p ≤ 9223372036854775807
  d : 0 ≤ x.d ∧ x.d ≤ 255
theorem opn_inp {H : Type} {enc : TypeId × Value → H} {w : World} {base : Nat} {spare : Nat → Bool} {held : Bool} {n : Nat} {x : DataW H × List MemPlace} {s : List Value} (h : DataW.trod enc Tryz.prog w base spare held n 61 s = some x) (hs : s.length = 3) : ∃ p : Inp, s = [.int .i64 p.c, .int .i64 p.p, .int .u8 p.d] ∧ p.fits := by
  have hE : Tryz.prog.cellsOf 5 = 1 := by kernel_rfl
  have hI : Tryz.prog.cellsOf 3 = 1 := by kernel_rfl
  obtain ⟨c0, c1, c2, rfl⟩ := list3 hs
  obtain ⟨xs, m, _, _, _, hlen, hfs⟩ := DataW.trod_struct Tryz.underlying61 h
  have hl : xs.length = 3 := hlen
  obtain ⟨a0, rfl, wa0⟩ := fld_int (ty := 3) (o := 0) (v := c0) (hfs 0 _ rfl) (by omega) hI Tryz.underlying3 rfl
  obtain ⟨a1, rfl, wa1⟩ := fld_int (ty := 3) (o := 1) (v := c1) (hfs 1 _ rfl) (by omega) hI Tryz.underlying3 rfl
  obtain ⟨a2, rfl, wa2⟩ := fld_int (ty := 5) (o := 2) (v := c2) (hfs 2 _ rfl) (by omega) hE Tryz.underlying5 rfl
  exact ⟨⟨a0, a1, a2⟩, rfl, bounds_i64 wa0, bounds_i64 wa1, bounds_u8 wa2⟩
theorem open_inputs {H : Type} {enc : TypeId × Value → H} {W : World} {base : Nat} {v : Value} {d : DataW H} {p : List MemPlace} (hv : Value.okWide Tryz.prog W .any base 42 v) (hd : DataW.Trod enc Tryz.prog W 0 (fun _ => true) true 42 v d p) :
    ∃ l : List Inp, InpAt W.heap.size W v l ∧ l.length ≤ maxLen ∧ ∀ x ∈ l, x.fits := by
  obtain ⟨a, len, cap, rfl⟩ := okWide_slice Tryz.underlying42 hv
  obtain ⟨fuel, hf⟩ := hd
  have c3 : Tryz.prog.cellsOf 61 = 3 := by kernel_rfl
  rcases Go.Deep.open_slice Tryz.underlying42 hf with ⟨hc, _⟩ | ⟨ad, len', cap', m, n, D, Pp, hc, _, hl, hm, hmm, _, hx⟩
  · have e : (Value.slice a len cap) = .slice none 0 0 := by simpa [Value.cells] using hc
    rw [e]
    exact ⟨[], Or.inl ⟨rfl, none, 0, rfl⟩, by simp, by simp⟩
  · have e : (Value.slice a len cap) = .slice (some ad) len' cap' := by simpa [Value.cells] using hc
    rw [e]
    simp only [if_true] at hmm
    by_cases h0 : len' = 0
    · subst h0
      exact ⟨[], Or.inl ⟨rfl, some ad, cap', rfl⟩, by simp, by simp⟩
    · have hall : ∀ i, i < len' → ∃ q : Inp, (W.cell? (ad.add (i * 3)) = some (.int .i64 q.c) ∧ W.cell? (ad.add (i * 3 + 1)) = some (.int .i64 q.p) ∧ W.cell? (ad.add (i * 3 + 2)) = some (.int .u8 q.d)) ∧ q.fits := fun i hi => by
        obtain ⟨cs', h1, h2⟩ := hx i (by omega)
        rw [c3] at h1
        obtain ⟨_, hlen, hcell⟩ := World.cells?_some h1
        obtain ⟨q, rfl, hq⟩ := opn_inp h2 hlen
        have e0 := hcell 0 (by omega)
        have e1 := hcell 1 (by omega)
        have e2 := hcell 2 (by omega)
        rw [Go.Deep.add_add] at e0 e1 e2
        exact ⟨q, ⟨by simpa using e0, by simpa using e1, by simpa using e2⟩, hq⟩
      obtain ⟨q, hq⟩ := Go.Deep.choose_lt hall
      have hs := Pl.spot ((hq 0 (by omega)).1.1)
      obtain ⟨g, o, sp⟩ := ad
      have hs' : sp = none := by
        cases sp with
        | none => rfl
        | some x => simp [Addr.add] at hs
      subst hs'
      have hlt : g < W.heap.size := World.block_lt_of_cell? W _ ((hq 0 (by omega)).1.1)
      refine ⟨(List.range len').map q, Or.inr ⟨g, o, cap', by rw [List.length_map, List.length_range], by rw [List.length_map, List.length_range]; exact hl, hlt, hlt, fun j x hj => ?_⟩, by rw [List.length_map, List.length_range]; omega, fun x hx => ?_⟩
      · rw [List.getElem?_map] at hj
        obtain ⟨i, hi1, hi2⟩ := Option.map_eq_some_iff.1 hj
        obtain ⟨hjl, hi3⟩ := List.getElem?_eq_some_iff.1 hi1
        rw [List.length_range] at hjl
        rw [List.getElem_range] at hi3
        subst hi3
        subst hi2
        obtain ⟨⟨e0, e1, e2⟩, _⟩ := hq j hjl
        rw [addr_add] at e0 e1 e2
        rw [Nat.mul_comm 3 j]
        exact ⟨e0, e1, e2⟩
      · obtain ⟨i, hi, rfl⟩ := List.mem_map.1 hx
        exact (hq i (List.mem_range.1 hi)).2
section
variable {l a f : Int}
theorem lines_gap {p q : Nat} (h : p ≤ q) (hg : ∀ j : Nat, p ≤ j → j < q → bmA l a j ≠ 0) : linesAt l a f q = linesAt l a f p := by
  induction q with
  | zero => have : p = 0 := by omega
            rw [this]
  | succ q ih =>
    by_cases hq : p = q + 1
    · rw [hq]
    · show linesAt l a f q ++ (lineAt l a f q).toList = _
      have h1 : lineAt l a f q = none := by
        unfold lineAt
        rw [if_neg (fun hh => hg q (by omega) (by omega) hh.1)]
      rw [h1, ih (by omega) (fun j h1 h2 => hg j h1 (by omega))]
      simp
theorem lines_pre {p q : Nat} (h : p ≤ q) : ∃ t, linesAt l a f q = linesAt l a f p ++ t := by
  induction q with
  | zero => have : p = 0 := by omega
            exact ⟨[], by rw [this]; simp⟩
  | succ q ih =>
    by_cases hq : p = q + 1
    · exact ⟨[], by rw [hq]; simp⟩
    · obtain ⟨t, ht⟩ := ih (by omega)
      exact ⟨t ++ (lineAt l a f q).toList, by show linesAt l a f q ++ _ = _; rw [ht, List.append_assoc]⟩
theorem lines_at {p q : Nat} (h : p < q) {x : Int × Int} (hx : lineAt l a f p = some x) : (linesAt l a f q)[(linesAt l a f p).length]? = some x := by
  obtain ⟨t, ht⟩ := lines_pre (l := l) (a := a) (f := f) (show p + 1 ≤ q by omega)
  rw [ht]
  show ((linesAt l a f p ++ (lineAt l a f p).toList) ++ t)[_]? = _
  rw [hx, List.append_assoc, List.getElem?_append_right (Nat.le_refl _), Nat.sub_self]
  rfl
structure Beg (l a : Int) (k : Nat) : Prop where
  z : bmA l a k = 0
  pos : 0 ≤ l * 64 + a
theorem beg_first (hl : 0 ≤ l) (h0 : 0 ≤ a) (h1 : a ≤ 63) : ∃ k : Nat, (64 - a) % 64 = (k : Int) ∧ Beg l a k ∧ k ≤ 63 ∧ linesAt l a f k = [] := by
  obtain ⟨k, hk⟩ := Int.eq_ofNat_of_zero_le (show 0 ≤ (64 - a) % 64 by omega)
  refine ⟨k, hk, ⟨by unfold bmA; omega, by omega⟩, by omega, ?_⟩
  rw [lines_gap (p := 0) (Nat.zero_le _) (fun j _ hj => by unfold bmA; omega)]
  rfl
theorem beg_next {k : Nat} (h : Beg l a k) : Beg l a (k + 64) ∧ linesAt l a f (k + 64) = linesAt l a f k ++ (lineAt l a f k).toList := by
  have h0 := h.z
  have h1 := h.pos
  unfold bmA at h0
  refine ⟨⟨by unfold bmA; omega, h1⟩, ?_⟩
  rw [lines_gap (p := k + 1) (by omega) (fun j hj hj2 => by unfold bmA; omega)]
  rfl
theorem beg_end {k n : Nat} (h : Beg l a k) (hn : n ≤ k) (hk : k < n + 64) : linesAt l a f k = linesAt l a f n := by
  have h0 := h.z
  have h1 := h.pos
  unfold bmA at h0
  exact lines_gap hn (fun j hj hj2 => by unfold bmA; omega)
theorem beg_line {k : Nat} (h : Beg l a k) : lineAt l a f k = if bmL l a k < 8 then some (bmF l a f k, bmL l a k) else none := by
  unfold lineAt
  by_cases h8 : bmL l a k < 8
  · rw [if_pos ⟨h.z, h8⟩, if_pos h8]
  · rw [if_neg (fun hh => h8 hh.2), if_neg h8]
end
theorem lcs_at : ∀ (l : List Lin) (i : Nat) (x : Int × Int), (l.map (fun x => (x.f, x.l)))[i]? = some x → (lcs l)[i * 18]? = some (.int .i64 x.1) ∧ (lcs l)[i * 18 + 1]? = some (.int .i64 x.2)
  | [], i, x, h => by simp at h
  | y :: l, 0, x, h => by
    simp only [List.map_cons, List.getElem?_cons_zero, Option.some.injEq] at h
    subst h
    exact ⟨rfl, rfl⟩
  | y :: l, i + 1, x, h => by
    rw [List.map_cons, List.getElem?_cons_succ] at h
    obtain ⟨h1, h2⟩ := lcs_at l i x h
    have e : lcs (y :: l) = (.int .i64 y.f :: .int .i64 y.l :: row16 y.px) ++ lcs l := rfl
    have hl : ((.int .i64 y.f :: .int .i64 y.l :: row16 y.px) : List Value).length = 18 := by simp [row16_len]
    rw [e, List.getElem?_append_right (by rw [hl]; omega), List.getElem?_append_right (by rw [hl]; omega), hl]
    rw [show (i + 1) * 18 - 18 = i * 18 by omega, show (i + 1) * 18 + 1 - 18 = i * 18 + 1 by omega]
    exact ⟨h1, h2⟩
theorem row_cells {w : World} {B z n : Nat} {t : TypeId} {v : Value} {xs : List Value} (h : w.ownsRow B t z v n xs) (h0 : 0 < n) : ∃ g cap, v = .slice (some ⟨g, 0, none⟩) n cap ∧ n ≤ cap ∧ g < w.heap.size ∧ ∀ j x, xs[j]? = some x → w.cell? ⟨g, j, none⟩ = some x := by
  rcases h.2 with ⟨e0, e1⟩ | ⟨g, cap, cur, e0, hb, hg, hn, hm, hs, ht⟩
  · omega
  · refine ⟨g, cap, e0, hn, (Array.getElem?_eq_some_iff.1 hg).1, fun j x hj => ?_⟩
    rw [← ht] at hj
    have hjl : j < n * z := by
      have := (List.getElem?_eq_some_iff.1 hj).1
      rw [List.length_take] at this; omega
    rw [List.getElem?_take_of_lt hjl, Array.getElem?_toList] at hj
    unfold World.cell?
    simp [hg, hj]
set_option maxHeartbeats 3200000 in
theorem Lk.counts_bad (M : Mach) (S : Sl) (v : Value) (l : List Inp) (n : Int) (w : World) (hF : AF w) (hs : SlAt w S M) (hok : M.ok) (hz : ∀ j, j < 5 → (M.byt j).length ≤ 9223372036854775807) (hin : InpAt w.heap.size w v l) (hn : -9223372036854775808 ≤ n ∧ n ≤ 9223372036854775807) (hr : runErr M l n ≠ 0) :
    Calls Tryz.prog 5 #[.agg (machL M S).toArray, v, .int .i64 n] w fun e w' => e = .returned (.bool true) ∧ Below w.heap.size w w' := by
  have HF := hid hF
  have hq : Below w.heap.size w (w.alloc (.cells (machL M S).toArray 41)) := stA (st0 w) _
  have HRU := hid (Lk.run_bad M S v l n (w.alloc (.cells (machL M S).toArray 41)) (hs.kept hq) hz hok ((hin.kept hq).mono hq.size) hn hr)
  have HB := hid (Bx.new w (machL M S) 41 (b := w.heap.size) rfl)
  have hne : (runErr M l n != 0) = true := by simpa using hr
  generalize runErr M l n = c at hne HRU
  clear hF hs hok hz hn hr hin
  go_enter Tryz.func5, Tryz.ntmps5
  go_wp2_with (first
    | (refine wpList_load_mid rfl 41 _ rfl w.heap.size 0 rfl (machL M S) _ HB.out.c Tryz.underlying41 rfl info_mach ?_)
    | (go_at_call 8; refine HRU.out.mono ?_; rintro e w1 ⟨rfl, hb1⟩; have HL1 := hid (stp hq hb1); clear hb1)
    | (refine wpList_store_mid rfl 41 _ _ rfl w1.heap.size 0 (machL zeroM nilS).toArray rfl rfl (R3.th1 w1) info_mach (machL_one _ _ zero_sl) ?_
       refine Pl.cutL (R3 w1 zeroM nilS nil3) (R3.mk1 w1 zeroM nilS) ?_
       intro Y1 hY1
       have HY1 := hid hY1
       clear hY1)
    | (refine wpList_store_mid rfl 47 _ _ rfl (w1.heap.size + 1) 0 #[.slice none 0 0, .slice none 0 0, .slice none 0 0] rfl rfl (HY1.out.s.there 0 3 (by simp)) info_shown (one3 _ _ _ _ _ _ _ _ _) ?_
       refine Pl.cutL (R3 w1 zeroM nilS nil3) HY1.out.put ?_
       intro Y2 hY2
       have HY2 := hid (stp HL1.out hY2.old)
       clear hY2)
    | (go_at_call 10; refine (Lk.locked_any _ (HF.out.kept HL3.out)).mono ?_; rintro e w4 ⟨rfl, hb4⟩; have HL4 := hid (stp HL3.out hb4); clear hb4)
    | (go_at_call 10; refine (Lk.locked_any _ (HF.out.kept HY2.out)).mono ?_; rintro e w3 ⟨rfl, hb3⟩; have HL3 := hid (stp HY2.out hb3); clear hb3))
  go_ret
  exact ⟨rfl, HL4.out⟩
theorem lines_len (l a f : Int) : ∀ j : Nat, (linesAt l a f j).length ≤ j
  | 0 => Nat.le_refl _
  | j + 1 => by
    show (linesAt l a f j ++ (lineAt l a f j).toList).length ≤ _
    have := lines_len l a f j
    have h1 : (lineAt l a f j).toList.length ≤ 1 := by cases lineAt l a f j <;> simp
    rw [List.length_append]; omega
structure Cs.counts (M : Mach) (k : Cs) (n : Nat) : Prop where
  ln : k.ln.map (fun x => (x.f, x.l)) = linesAt M.b.l M.b.a M.b.f n
  sm : (k.sm.length : Int) = if M.s.w < n then (n - M.s.w - 1) / 16 + 1 else 0
  clock : k.s.M.clock = M.clock + n
theorem counts_of (M : Mach) (l : List Inp) (n : Nat) (hf : M.fit) (hb : BOk M.b.l M.b.a M.b.f) (h19 : M.b.f ≤ 19000) (hn : n ≤ 20000) (hc : (Cs.clocks ⟨⟨M, 0, []⟩, l, [], []⟩ n).s.M.clock = M.clock + n) : Cs.counts M (Cs.clocks ⟨⟨M, 0, []⟩, l, [], []⟩ n) n := by
  have h1 := clocks_ln ⟨⟨M, 0, []⟩, l, [], []⟩ hb h19 rfl n hn
  have h2 := clocks_sm ⟨⟨M, 0, []⟩, l, [], []⟩ hb h19 n hn
  have h3 := (sms_count (s := M.s) { hf.s with w := hf.w } n).1
  refine ⟨h1, ?_, hc⟩
  rw [h2, ← h3]
  simp
theorem clock_at (k0 : Cs) : ∀ j : Nat, (k0.clocks j).s.M.clock = k0.s.M.clock + j
  | 0 => by simp [Cs.clocks]
  | j + 1 => by
    show (k0.clocks j).now.s.M.clock + 1 = _
    rw [now_clock, clock_at k0 j]; push_cast; omega
set_option maxHeartbeats 6400000 in
theorem Lk.counts_long (M : Mach) (S : Sl) (v : Value) (l : List Inp) (n : Nat) (w : World) (hF : AF w) (hs : SlAt w S M) (hin : InpAt w.heap.size w v l) (hd : ∀ x ∈ l, 0 ≤ x.d ∧ x.d ≤ 255) (hf : M.fit) (hf2 : M.b.f ≤ 20000) (hc : chkIn l M.clock = 0) (hn : n ≤ 20000 ∧ M.clock + n ≤ 200000) (hlg : 19000 < M.b.f) :
    Calls Tryz.prog 5 #[.agg (machL M S).toArray, v, .int .i64 n] w fun e w' => e = .returned (.bool true) ∧ Below w.heap.size w w' := by
  have HF := hid hF
  have hq : Below w.heap.size w (w.alloc (.cells (machL M S).toArray 41)) := stA (st0 w) _
  have HRU := hid (Lk.run_ok M S v l n (w.alloc (.cells (machL M S).toArray 41)) (hs.kept hq) (hF.kept hq).shapes ((hin.kept hq).mono hq.size) hd hf hf2 hc hn)
  have HB := hid (Bx.new w (machL M S) 41 (b := w.heap.size) rfl)
  have hdc : decide (19000 < M.b.f) = true := decide_eq_true hlg
  clear hF hs hf hf2 hn hin hd hc hlg
  go_enter Tryz.func5, Tryz.ntmps5
  generalize Cs.clocks ⟨⟨M, 0, []⟩, l, [], []⟩ n = k at HRU
  go_wp2_with (first
    | (refine wpList_load_mid rfl 41 _ rfl w.heap.size 0 rfl (machL M S) _ HB.out.c Tryz.underlying41 rfl info_mach ?_)
    | (go_at_call 8; refine HRU.out.mono ?_; rintro e w1 ⟨F, N, vln, vsm, vw, rfl, hT, _, _, _, hb1⟩
       obtain ⟨a1, n1, c1, e1⟩ := row_slice hT.ln
       obtain ⟨a2, n2, c2, e2⟩ := row_slice hT.sm
       obtain ⟨a3, n3, c3, e3⟩ := row_slice hT.ws
       subst e1 e2 e3
       have HIS := hid (isSl_of hT.sl)
       have HL1 := hid (stp hq hb1)
       have HB1 := hid (HB.out.kept hb1)
       obtain ⟨X, hX⟩ : ∃ X, X = k.s.M := ⟨_, rfl⟩
       rw [← hX]
       clear hT hb1 hX)
    | (refine wpList_store_mid rfl 41 _ _ rfl w1.heap.size 0 (machL X F.S).toArray rfl rfl (R3.th1 w1) info_mach (machL_one _ _ HIS.out) ?_
       refine Pl.cutL (R3 w1 X F.S nil3) (R3.mk1 w1 X F.S) ?_
       intro Y1 hY1
       have HY1 := hid hY1
       clear hY1)
    | (refine wpList_store_mid rfl 47 _ _ rfl (w1.heap.size + 1) 0 #[.slice a1 n1 c1, .slice a2 n2 c2, .slice a3 n3 c3] rfl rfl (HY1.out.s.there 0 3 (by simp)) info_shown (one3 _ _ _ _ _ _ _ _ _) ?_
       refine Pl.cutL (R3 w1 X F.S [.slice a1 n1 c1, .slice a2 n2 c2, .slice a3 n3 c3]) HY1.out.put ?_
       intro Y2 hY2
       have HY2 := hid hY2
       clear hY2)
    | (refine Bu.loadG rfl 41 _ rfl w.heap.size 0 rfl (machL M S) _ (((HB1.out.kept HY2.out.old).kept hb3).c) Tryz.underlying41 rfl info_mach ?_)
    | (go_at_call 14; refine (Lk.long_any M S _ _).mono ?_; rw [hdc]; rintro e w4 ⟨rfl, hb4⟩; have HL4 := hid (stp HL3.out hb4); clear hb4)
    | (go_at_call 10; refine (Lk.locked_any _ (HF.out.kept HL4.out)).mono ?_; rintro e w5 ⟨rfl, hb5⟩; have HL5 := hid (stp HL4.out hb5); clear hb5)
    | (go_at_call 10; refine (Lk.locked_any _ (HF.out.kept (stp HL1.out HY2.out.old))).mono ?_; rintro e w3 ⟨rfl, hb3⟩; have HL3 := hid (stp (stp HL1.out HY2.out.old) hb3)))
  go_ret
  exact ⟨rfl, HL5.out⟩
structure CW (w w1 : World) (M : Mach) (S : Sl) (X : Mach) (S' : Sl) (L : List Value) (k : Cs) (B : Nat) (Z : World) : Prop where
  low : Below w.heap.size w Z
  m : Bx Z w.heap.size (machL M S)
  r : R3 w1 X S' L Z
  ln : Z.ownsRow B 65 18 (L.getD 0 (.int .i64 0)) k.ln.length (lcs k.ln)
theorem CW.kept {w w1 : World} {M : Mach} {S : Sl} {X : Mach} {S' : Sl} {L : List Value} {k : Cs} {B : Nat} {Z Z' : World} (h : CW w w1 M S X S' L k B Z) (hb : Below Z.heap.size Z Z') : CW w w1 M S X S' L k B Z' :=
  ⟨stp h.low hb, h.m.kept hb, h.r.kept hb, ows_of h.ln (fun j e => hb.block j (row_at h.ln j e).2.1)⟩
set_option maxHeartbeats 6400000 in
theorem Lk.counts_ok (M : Mach) (S : Sl) (v : Value) (l : List Inp) (n : Nat) (w : World) (hF : AF w) (hs : SlAt w S M) (hin : InpAt w.heap.size w v l) (hd : ∀ x ∈ l, 0 ≤ x.d ∧ x.d ≤ 255) (hf : M.fit) (hf2 : M.b.f ≤ 20000) (hc : chkIn l M.clock = 0) (hn : n ≤ 20000 ∧ M.clock + n ≤ 200000) (hlg : ¬ 19000 < M.b.f) :
    Calls Tryz.prog 5 #[.agg (machL M S).toArray, v, .int .i64 n] w fun e w' => e = .returned (.bool true) ∧ Below w.heap.size w w' := by
  have HF := hid hF
  have hq : Below w.heap.size w (w.alloc (.cells (machL M S).toArray 41)) := stA (st0 w) _
  have HRU := hid (Lk.run_ok M S v l n (w.alloc (.cells (machL M S).toArray 41)) (hs.kept hq) (hF.kept hq).shapes ((hin.kept hq).mono hq.size) hd hf hf2 hc hn)
  have HB := hid (Bx.new w (machL M S) 41 (b := w.heap.size) rfl)
  have hbo : BOk M.b.l M.b.a M.b.f := ⟨hf.b.l0, hf.b.l1, hf.b.a0, hf.b.a1, hf.b.f0, hf2⟩
  have HBO := hid hbo
  have HCO := hid (counts_of M l n hf hbo (Int.not_lt.1 hlg) hn.1 (clock_at _ n))
  have hdc : decide (19000 < M.b.f) = false := decide_eq_false hlg
  have HW := hid hf.w
  have HCL := hid hf.clock
  have HN := hid hn
  clear hF hs hf hf2 hn hin hd hc hlg hbo
  go_enter Tryz.func5, Tryz.ntmps5
  generalize Cs.clocks ⟨⟨M, 0, []⟩, l, [], []⟩ n = k at HRU HCO
  go_upto_region 4 with (first
    | (refine wpList_load_mid rfl 41 _ rfl w.heap.size 0 rfl (machL M S) _ HB.out.c Tryz.underlying41 rfl info_mach ?_)
    | (go_at_call 8; refine HRU.out.mono ?_; rintro e w1 ⟨F, N, vln, vsm, vw, rfl, hT, _, _, _, hb1⟩
       obtain ⟨a1, c1, e1⟩ := row_len hT.ln
       obtain ⟨a2, c2, e2⟩ := row_len hT.sm
       obtain ⟨a3, n3, c3, e3⟩ := row_slice hT.ws
       subst e1 e2 e3
       have HIS := hid (isSl_of hT.sl)
       have HTL := hid hT.ln
       have HL1 := hid (stp hq hb1)
       have HB1 := hid (HB.out.kept hb1)
       obtain ⟨X, hX⟩ : ∃ X, X = k.s.M := ⟨_, rfl⟩
       have HXE := hid hX
       rw [← hX]
       clear hT hb1 hX)
    | (refine wpList_store_mid rfl 41 _ _ rfl w1.heap.size 0 (machL X F.S).toArray rfl rfl (R3.th1 w1) info_mach (machL_one _ _ HIS.out) ?_
       refine Pl.cutL (R3 w1 X F.S nil3) (R3.mk1 w1 X F.S) ?_
       intro Y1 hY1
       have HY1 := hid hY1
       clear hY1)
    | (refine wpList_store_mid rfl 47 _ _ rfl (w1.heap.size + 1) 0 #[.slice a1 k.ln.length c1, .slice a2 k.sm.length c2, .slice a3 n3 c3] rfl rfl (HY1.out.s.there 0 3 (by simp)) info_shown (one3 _ _ _ _ _ _ _ _ _) ?_
       refine Pl.cutL (R3 w1 X F.S [.slice a1 k.ln.length c1, .slice a2 k.sm.length c2, .slice a3 n3 c3]) HY1.out.put ?_
       intro Y2 hY2
       have HY2 := hid hY2
       clear hY2)
    | (refine Bu.loadG rfl 41 _ rfl w.heap.size 0 rfl (machL M S) _ (((HB1.out.kept HY2.out.old).kept hb3).c) Tryz.underlying41 rfl info_mach ?_)
    | (go_at_call 14; refine (Lk.long_any M S _ _).mono ?_; rw [hdc]; rintro e w4 ⟨rfl, hb4⟩)
    | (go_at_call 10; refine (Lk.locked_any _ (HF.out.kept (stp HL1.out HY2.out.old))).mono ?_; rintro e w3 ⟨rfl, hb3⟩))
  have hq4 := stp hb3 hb4
  have hcw : CW w w1 M S X F.S [.slice a1 k.ln.length c1, .slice a2 k.sm.length c2, .slice a3 n3 c3] k N w4 :=
    ⟨stp (stp HL1.out HY2.out.old) hq4, (HB1.out.kept HY2.out.old).kept hq4, HY2.out.kept hq4, ows_of HTL.out (fun j e => (stp HY2.out.old hq4).block j (row_at HTL.out j e).2.1)⟩
  have HCW := hid hcw
  have p60 := hcw.m.at 60 (.int .i64 M.s.w) rfl
  have p61 := hcw.m.at 61 (.int .i64 M.b.l) rfl
  have p62 := hcw.m.at 62 (.int .i64 M.b.a) rfl
  have p63 := hcw.m.at 63 (.bool M.b.g) rfl
  have p64 := hcw.m.at 64 (.int .i64 M.b.f) rfl
  have pz := hcw.m.z
  obtain ⟨k0, hk0, hbe, hk63, hl0⟩ := beg_first (l := M.b.l) (a := M.b.a) (f := M.b.f) HBO.out.l0 HBO.out.a0 HBO.out.a1
  have HK0 := hid hk0
  have HBE := hid hbe
  have HL0 := hid hl0
  obtain ⟨sw, hsw⟩ : ∃ sw, sw = M.s.w := ⟨_, rfl⟩
  obtain ⟨t, ht⟩ : ∃ t : Int, t = if sw < n then (n - sw - 1) / 16 + 1 else 0 := ⟨_, rfl⟩
  have HT : Hid ((k.sm.length : Int) = t) := hid (by rw [ht, hsw]; exact HCO.out.sm)
  have hwb : 0 ≤ sw ∧ sw ≤ 15 := by rw [hsw]; exact HW.out
  have hnb : (n : Int) ≤ 20000 := by have := HN.out.1; omega
  rw [← hsw] at p60
  clear hsw hcw hb3 hb4 hq4 HY2 HTL HB1 HL1 HIS hdc hbe hl0
  rcases Decidable.em (sw < n) with hsn | hsn
  case' inl =>
    rw [if_pos hsn] at ht
    have e1 : Int.tdiv ((n : Int) - sw - 1) 16 = ((n : Int) - sw - 1) / 16 := Int.tdiv_eq_ediv_of_nonneg (by omega)
    go_upto_region 7 with fail
    rw [ht] at HT
    clear e1 ht
  case' inr =>
    rw [if_neg hsn] at ht
    go_upto_region 7 with fail
    rw [ht] at HT
    clear ht
  all_goals
    clear hsn
    go_cut [2, 3, 7, 8, 10, 11] (fun v2 v3 v7 v8 v10 v11 wx => v2 = .int .i64 n ∧ v3 = pt w.heap.size 0 ∧ v7 = pt w1.heap.size 0 ∧ v8 = pt (w1.heap.size + 1) 0 ∧ v10 = .int .i64 k.sm.length ∧ v11 = .int .i64 0 ∧ wx = w4)
    case first =>
      go_wp2
      go_meet
      exact ⟨rfl, rfl, rfl, rfl, by rw [HT.out], rfl, rfl⟩
    case rest =>
      obtain ⟨rfl, rfl, rfl, rfl, rfl, rfl, rfl⟩ := hcut
      clear HT
      go_upto_block 0 with (go_at_call 19; refine (Bm.next_yes _ _ _ _ _ HBO.out).mono ?_; rw [HK0.out]; rintro e w5 ⟨rfl, hb5⟩; have HC5 := hid (HCW.out.kept hb5); clear hb5)
      clear p60 p61 p62 p63 p64 pz hwb hk0 HCW
      go_cut [2, 3, 7, 8, 10, 11, 13] (fun v2 v3 v7 v8 v10 v11 v13 wx => v2 = .int .i64 n ∧ v3 = pt w.heap.size 0 ∧ v7 = pt w1.heap.size 0 ∧ v8 = pt (w1.heap.size + 1) 0 ∧ v10 = .int .i64 k.sm.length ∧ v11 = .int .i64 k.ln.length ∧ v13 = .int .i64 0 ∧ CW w w1 M S X F.S [.slice a1 k.ln.length c1, .slice a2 k.sm.length c2, .slice a3 n3 c3] k N wx)
      case first =>
        go_wp2_with fail
        go_loopw [11, 14] (fun i j wr => ∃ k1 : Nat, i = .int .i64 (linesAt M.b.l M.b.a M.b.f k1).length ∧ j = .int .i64 k1 ∧ Beg M.b.l M.b.a k1 ∧ k1 < n + 64 ∧ CW w w1 M S X F.S [.slice a1 k.ln.length c1, .slice a2 k.sm.length c2, .slice a3 n3 c3] k N wr) (fun _ j _ => n + 64 - (intOf j).toNat)
        case atStart => exact ⟨k0, by rw [HL0.out]; rfl, rfl, HBE.out, by omega, HC5.out⟩
        case round =>
          obtain ⟨k1, rfl, rfl, hB1, hk1, hC⟩ := hrel
          have HB1 := hid hB1
          have HC := hid hC
          have p61 := hC.m.at 61 (.int .i64 M.b.l) rfl
          have p62 := hC.m.at 62 (.int .i64 M.b.a) rfl
          have p63 := hC.m.at 63 (.bool M.b.g) rfl
          have p64 := hC.m.at 64 (.int .i64 M.b.f) rfl
          have pz := hC.m.z
          clear hB1 hC HC5 HL0 HBE
          by_cases hlt : k1 < n
          · have hlt2 : (k1 : Int) < n := by omega
            have hk20 : (k1 : Int) ≤ 20000 := by omega
            obtain ⟨hBn, hLn⟩ := beg_next (f := M.b.f) HB1.out
            have hli := beg_line (f := M.b.f) HB1.out
            have HBn := hid hBn
            have HLn := hid hLn
            have HLI := hid hli
            have hrun := Bm.run_any M.b.l M.b.a M.b.f k1 M.b.g
            clear hBn hLn hli
            obtain ⟨bL, hbL⟩ : ∃ bL, bL = bmL M.b.l M.b.a k1 := ⟨_, rfl⟩
            obtain ⟨bF, hbF⟩ : ∃ bF, bF = bmF M.b.l M.b.a M.b.f k1 := ⟨_, rfl⟩
            obtain ⟨q, hq⟩ : ∃ q, q = (linesAt M.b.l M.b.a M.b.f k1).length := ⟨_, rfl⟩
            rw [← hbL, ← hbF] at HLI hrun
            rw [← hq]
            have hq20 : (q : Int) ≤ 20000 := by have := lines_len M.b.l M.b.a M.b.f k1; omega
            have hq00 : (0 : Int) ≤ q := by omega
            have HRN := hid hrun
            have HQ := hid hq
            clear hrun hbL hbF hq
            by_cases h8 : bL < 8
            · have hl1 : lineAt M.b.l M.b.a M.b.f k1 = some (bF, bL) := by rw [HLI.out, if_pos h8]
              have hat := lines_at (q := n) hlt hl1
              rw [← HCO.out.ln, ← HQ.out] at hat
              obtain ⟨t1, t2⟩ := lcs_at _ _ _ hat
              have hql : q < k.ln.length := by have := (List.getElem?_eq_some_iff.1 hat).1; rwa [List.length_map] at this
              obtain ⟨g, cap, eg, hcap, hgz, hcell⟩ := row_cells HC.out.ln (by omega)
              have eg' : Value.slice a1 k.ln.length c1 = .slice (some ⟨g, 0, none⟩) k.ln.length cap := eg
              cases eg'
              have y0 := hcell _ _ t1
              have y1 := hcell _ _ t2
              have HC' := HC
              have s0 := HC.out.r.s.at 0 _ rfl
              have sz := HC.out.r.s.z
              have hqi : ¬ (k.ln.length : Int) ≤ q := by omega
              have hqj : (q : Int) < k.ln.length := by omega
              have hl2 : (linesAt M.b.l M.b.a M.b.f (k1 + 64)).length = q + 1 := by rw [HLn.out, hl1, List.length_append, HQ.out]; rfl
              have HL2 := hid hl2
              clear hat t1 t2 hcell eg hl1 hl2 HLI HQ
              have hqd : decide (k.ln.length ≤ q) = false := decide_eq_false (by omega)
              have hb8 : decide (bL < 8) = true := decide_eq_true h8
              clear h8
              go_upto_region 16 with (go_at_call 20; refine (HRN.out _ HBO.out ⟨by omega, hk20⟩).mono ?_; rintro e w6 ⟨rfl, hb6⟩; have HC6 := hid (HC.out.kept hb6); have y06 := (hb6.cell (p := ⟨g, q * 18, none⟩) hgz).trans y0; have y16 := (hb6.cell (p := ⟨g, q * 18 + 1, none⟩) hgz).trans y1; have s06 := HC6.out.r.s.at 0 _ rfl; have sz6 := HC6.out.r.s.z; have gz6 := Nat.lt_of_lt_of_le hgz hb6.size; clear hb6)
              go_quiet (fail)
              go_wp2
              exact ⟨⟨k1 + 64, by rw [HL2.out]; rfl, by simp, HBn.out, by omega, HC6.out.kept (Bl.drewN (stA (st0 _) _) _)⟩, by simp [intOf]; omega⟩
            · have hl1 : lineAt M.b.l M.b.a M.b.f k1 = none := by rw [HLI.out, if_neg h8]
              have hl2 : (linesAt M.b.l M.b.a M.b.f (k1 + 64)).length = q := by rw [HLn.out, hl1, List.length_append, HQ.out]; rfl
              have HL2 := hid hl2
              clear hl1 hl2 HLI HQ
              have hb8 : decide (bL < 8) = false := decide_eq_false h8
              clear h8
              go_wp2_with (go_at_call 20; refine (HRN.out _ HBO.out ⟨by omega, hk20⟩).mono ?_; rintro e w6 ⟨rfl, hb6⟩; have HC6 := hid (HC.out.kept hb6); clear hb6)
              exact ⟨⟨k1 + 64, by rw [HL2.out], by simp, HBn.out, by omega, HC6.out.kept (stA (st0 _) _)⟩, by simp [intOf]; omega⟩
          · have hlt2 : ¬ (k1 : Int) < n := by omega
            have hen : (linesAt M.b.l M.b.a M.b.f k1).length = k.ln.length := by
              rw [beg_end HB1.out (by omega) hk1, ← HCO.out.ln, List.length_map]
            rw [hen]
            clear hen
            go_wp2
            go_meet
            exact ⟨rfl, rfl, rfl, rfl, rfl, rfl, rfl, HC.out⟩
      case rest =>
        obtain ⟨rfl, rfl, rfl, rfl, rfl, rfl, rfl, hC⟩ := hcut
        have s0 := hC.r.s.at 0 _ rfl
        have s1 := hC.r.s.at 1 _ rfl
        have sz := hC.r.s.z
        have x72 := hC.r.x.at 72 (.int .i64 X.clock) rfl
        have xz := hC.r.x.z
        have m72 := hC.m.at 72 (.int .i64 M.clock) rfl
        have mz := hC.m.z
        have hck : X.clock = M.clock + n := by rw [HXE.out]; exact HCO.out.clock
        rw [hck] at x72
        have HLw := hid hC.low
        have hcl := HCL.out
        clear hC hck HC5
        go_wp2
        go_ret
        exact ⟨rfl, HLw.out⟩
end Go.Proofs.YtdgeghlilkbboaaGreatDoor
