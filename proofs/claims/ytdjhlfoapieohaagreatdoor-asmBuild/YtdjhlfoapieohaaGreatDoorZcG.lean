/-
  For every two texts the law AsmBuild of the program returns true and leaves its arguments as they were; its conditions: the listed variables read as the program's text lays them (the card ties them).
-/
import Derived.Test.YtdjhlfoapieohaaGreatDoorZcE
import Derived.Test.YtdjhlfoapieohaaGreatDoorZcF
import Derived.Test.YtdjhlfoapieohaaGreatDoorCards
import Derived.Test.YtdjhlfoapieohaaGreatDoorTie
import Derived.SevenTiedAt
namespace Go.Proofs.YtdjhlfoapieohaaGreatDoor
open Go.ChangeShapes Go.WideShapes Go.ChangeAt Go.RowKit
set_option linter.unusedVariables false

theorem split_le : ∀ (m : Nat) (s : S.By), s.length ≤ m → (Lib.split s [10]).length ≤ s.length + 1
  | m, s, hm => by
    rcases S.index_or s [10] with h | ⟨i, h, hi⟩
    · rw [S.split_miss h]; simp
    · have hi2 : i + 1 ≤ s.length := hi
      rw [S.split_hit (by simp) h]
      match m, hm with
      | 0, hm => omega
      | m + 1, hm =>
        have := split_le m (s.drop (i + [10].length)) (by simp; omega)
        simp at this ⊢; omega
theorem split_each (s t : S.By) (h : t ∈ Lib.split s [10]) : t.length ≤ s.length := splitK_len _ _ _ t h
theorem split_lines (s : S.By) (hl : s.length ≤ 10000) (w : World) (hF : AF w) :
    Calls Tryz.prog 12 #[.string (mk s), .string ⟨#[10]⟩] w fun e w' => e = .returned (.slice (some ⟨w.heap.size, 0, none⟩) (Lib.split s [10]).length (Lib.split s [10]).length) ∧ w'.heap[w.heap.size]? = some (.cells (lineCells (Lib.split s [10])) 9 (0, 0)) ∧ Below w.heap.size w w' := by
  obtain ⟨m, hm⟩ := hF.len
  have hd := Lib.splitB_data (mk [10]) 0 (Lib.countB (mk s) (mk [10])) (mk s)
  have hlen := Lib.splitB_all (mk [10]) (by decide) 0 _ (mk s) rfl
  have hsp : (Lib.splitB (mk [10]) 0 (Lib.countB (mk s) (mk [10])) (mk s)).map bs = Lib.split s [10] := hd
  have hl2 : (Lib.split s [10]).length = Lib.countB (mk s) (mk [10]) + 1 := by rw [← hsp, List.length_map, hlen]
  refine (Tryz.strings_Split (mk s) (mk [10]) m w (by rw [mk_size]; omega) hm (by decide)).mono fun e w' ⟨he, hw⟩ => ?_
  subst hw
  refine ⟨by rw [he, hl2], ?_, stA (st0 _) _⟩
  rw [heap_alloc_new]
  have hc : lineCells (Lib.split s [10]) = ((Lib.splitB (mk [10]) 0 (Lib.countB (mk s) (mk [10])) (mk s)).map (fun x => Value.string x)).toArray := by
    unfold lineCells
    rw [← hsp, List.map_map]
    rfl
  rw [hc]
theorem then_ret {K : Act → World → Prop} {Q : Exit → Act → World → Prop} {a : Act} {w : World} (h : Q .ret a w) : Exit.then K Q .ret a w := h
theorem ret_of {R : Ending → World → Prop} {a : Act} {w : World} {v2 : Value} {k : Nat} {e : Int} (hd : a.defers = []) (h2 : sl a 2 = v2) (h3 : sl a 3 = .int .i64 k) (h4 : sl a 4 = .int .i64 e) (hR : R (.returned (.tuple #[v2, .int .i64 k, .int .i64 e])) w) : bodyPost Tryz.prog Tryz.f5 R .ret a w := by
  refine bodyPost_ret (results_tmp3 Tryz.results5 a.tmps _ _) hd ?_
  rw [← h2, ← h3, ← h4] at hR
  exact hR
set_option maxRecDepth 100000 in
set_option maxHeartbeats 1600000 in
theorem sec108 (Q : Exit → Act → World → Prop) (a : Act) (w : World) (v5 v6 : Value) (mp gl n k : Nat) (hS : Sl a v5 v6 mp gl n k)
    (hR : ∀ a', a'.defers = [] → sl a' 2 = v5 → sl a' 3 = .int .i64 (0 : Nat) → sl a' 4 = .int .i64 0 → Q .ret a' w) :
    ((cGo [1, 1, 1, 1, 1, 1, 1, 1, 1] bBody)).wp Tryz.prog Q a w := by
  obtain ⟨sz, df, s5, s6, s7, s8, s52, s53, s54⟩ := hS
  obtain ⟨f, hf, rfl⟩ := act_open a sz df
  rw [hf] at s5 s6 s7 s8 s52 s53 s54
  clear hf sz df
  rw [s5, s6, s7, s8, s52, s53, s54]
  conv => arg 2; whnf
  go_wp2
  first | exact hR _ rfl rfl rfl rfl | rfl
set_option maxRecDepth 100000 in
theorem refBuilt_long (s : S.By) (hl : 4000 < s.length) (w : World) :
    Calls Tryz.prog 5 #[.string (mk s)] w fun e w' => e = .returned (.tuple #[.slice none 0 0, .int .i64 0, .int .i64 2]) ∧ w = w' := by
  have hl1 : (4000 : Int) < (mk s).size := by rw [mk_size]; omega
  go_enter Tryz.func5, Tryz.ntmps5
  go_wp2
  go_ret3
  exact ⟨rfl, rfl⟩
set_option maxRecDepth 100000 in
theorem refBuilt_many (s : S.By) (hl : s.length ≤ 4000) (hc : 300 < s.count 10) (w : World) :
    Calls Tryz.prog 5 #[.string (mk s)] w fun e w' => e = .returned (.tuple #[.slice none 0 0, .int .i64 0, .int .i64 2]) ∧ w = w' := by
  have hl1 : ¬ (4000 : Int) < (mk s).size := by rw [mk_size]; omega
  have hc1 : (300 : Int) < (s.count 10 : Nat) := by omega
  go_enter Tryz.func5, Tryz.ntmps5
  go_wp2_with (go_at_call 10; refine (count_feeds s _).mono ?_; rintro e w' ⟨rfl, rfl⟩)
  go_ret3
  exact ⟨rfl, rfl⟩
set_option maxRecDepth 100000 in
theorem refBuilt_none (w : World) :
    Calls Tryz.prog 5 #[.string (mk [])] w fun e w' => e = .returned (.tuple #[.slice none 0 0, .int .i64 0, .int .i64 0]) ∧ w = w' := by
  have hl1 : ¬ (4000 : Int) < (mk []).size := by rw [mk_size]; simp
  have he : (mk []).toList.isEmpty = true := mk_empty []
  go_enter Tryz.func5, Tryz.ntmps5
  go_wp2_with (go_at_call 10; refine (count_feeds [] _).mono ?_; rintro e w' ⟨rfl, rfl⟩)
  go_ret3
  exact ⟨rfl, rfl⟩
set_option maxRecDepth 100000 in
set_option maxHeartbeats 1600000 in
theorem refBuilt_go (s : S.By) (hl : s.length ≤ 4000) (hc : s.count 10 ≤ 300) (h0 : s ≠ []) (w : World) (hF : AF w) (hE : EF w) (hA : Facts w) :
    Calls Tryz.prog 5 #[.string (mk s)] w fun e w' => (∃ v rom, e = .returned (.tuple #[v, .int .i64 0, .int .i64 0]) ∧ S.readText s = .ok rom ∧ sliceAt w' v rom ∧ Below w.heap.size w w') ∨ (∃ (k : Nat) (x : Int), e = .returned (.tuple #[.slice none 0 0, .int .i64 k, .int .i64 x]) ∧ S.readText s = .error (k, x) ∧ Below w.heap.size w w') := by
  have hl1 : ¬ (4000 : Int) < (mk s).size := by rw [mk_size]; omega
  have hc1 : ¬ (300 : Int) < (s.count 10 : Nat) := by omega
  have he : (mk s).toList.isEmpty = false := by rw [mk_empty]; cases s <;> simp_all
  have hmm := @run_makeMap Tryz.prog
  have hsl := split_le s.length s (Nat.le_refl _)
  have hspos : 0 < (Lib.split s [10]).length := splitK_pos _ _ _
  have HSp : Hid (∀ w, AF w → Calls Tryz.prog 12 #[.string (mk s), .string ⟨#[10]⟩] w fun e w' => e = .returned (.slice (some ⟨w.heap.size, 0, none⟩) (Lib.split s [10]).length (Lib.split s [10]).length) ∧ w'.heap[w.heap.size]? = some (.cells (lineCells (Lib.split s [10])) 9 (0, 0)) ∧ Below w.heap.size w w') := fun w h => split_lines s (by omega) w h
  have HF := hid hF
  have HE := hid hE
  have HA := hid hA
  have hrt : Hid (S.readText s = match S.goLines (Lib.split s [10]) 0 S.St.zero with | .ok st => S.lay st.places st.uses st.rom | .error e => .error e) := by
    show S.readText s = _
    unfold S.readText
    rw [S.lines_split s.length s 0 S.St.zero (Nat.le_refl _)]
    rfl
  have hts : Hid (∀ t ∈ Lib.split s [10], t.length ≤ 4000) := fun t ht => by have := split_each s t ht; omega
  clear hF hE hA h0
  go_enter Tryz.func5, Tryz.ntmps5
  show Code.wp _ (Code.seq (cGo [0] bBody) (Code.seq (cGo [1, 0] bBody) (Code.seq (cGo [1, 1, 0] bBody) (Code.seq (cGo [1, 1, 1, 0] bBody) (Code.seq (cGo [1, 1, 1, 1, 0] bBody) (Code.seq (cGo [1, 1, 1, 1, 1, 0] bBody) (Code.seq (cGo [1, 1, 1, 1, 1, 1, 0] bBody) (Code.seq (Code.seq (cGo [1, 1, 1, 1, 1, 1, 1, 0, 0] bBody) (cGo [1, 1, 1, 1, 1, 1, 1, 0, 1] bBody)) (cGo [1, 1, 1, 1, 1, 1, 1, 1] bBody))))))))) _ _ _
  have HM : Hid (∀ Q a w1 w0 v5 v6 mp gl n ls, _ → _) := fun Q a w1 w0 v5 v6 mp gl n ls (hS : Sl a v5 v6 mp gl n 0) => secM Q a w1 w0 v5 v6 mp gl n ls hS
  have HH : Hid (∀ Q a w1 w0 v5 v6 mp gl n k ls st, _ → _) := fun Q a w1 w0 v5 v6 mp gl n k ls st (hS : Sl a v5 v6 mp gl n k) => secH Q a w1 w0 v5 v6 mp gl n k ls st hS
  have HZ : Hid (∀ Q a w1 v5 v6 mp gl n k, _ → _) := fun Q a w1 v5 v6 mp gl n k (hS : Sl a v5 v6 mp gl n k) => sec108 Q a w1 v5 v6 mp gl n k hS
  have hz2 : (cGo [1, 1, 1, 1, 1, 1, 1, 1] bBody) = Code.seq (cGo [1, 1, 1, 1, 1, 1, 1, 1, 0] bBody) (cGo [1, 1, 1, 1, 1, 1, 1, 1, 1] bBody) := rfl
  rw [hz2]
  clear hz2
  revert HM HH HZ
  generalize (cGo [1, 1, 1, 1, 1, 1, 1, 0, 1] bBody) = z1
  generalize (cGo [1, 1, 1, 1, 1, 1, 1, 1, 0] bBody) = z2
  generalize (cGo [1, 1, 1, 1, 1, 1, 1, 1, 1] bBody) = z3
  intro HM HH HZ
  conv => arg 2; arg 1; whnf
  conv => arg 2; arg 2; arg 1; whnf
  conv => arg 2; arg 2; arg 2; arg 1; whnf
  conv => arg 2; arg 2; arg 2; arg 2; arg 1; whnf
  conv => arg 2; arg 2; arg 2; arg 2; arg 2; arg 1; whnf
  conv => arg 2; arg 2; arg 2; arg 2; arg 2; arg 2; arg 1; whnf
  conv => arg 2; arg 2; arg 2; arg 2; arg 2; arg 2; arg 2; arg 1; whnf
  conv => arg 2; arg 2; arg 2; arg 2; arg 2; arg 2; arg 2; arg 2; arg 1; arg 1; whnf
  go_wp2_with (first
    | (go_at_call 10; refine (count_feeds s _).mono ?_; rintro e w' ⟨rfl, rfl⟩)
    | (go_at_call 12; refine (HSp.out _ (HF.out.kept (stA (st0 w) _))).mono ?_; rintro e w1 ⟨rfl, hblk, hb1⟩))
  have esz : (w.alloc (Obj.map #[] 0)).heap.size = w.heap.size + 1 := by simp
  have hBW : BW w w.heap.size (w.heap.size + 1) (Lib.split s [10]) (.slice none 0 0) (.slice none 0 0) S.St.zero w1 :=
    ⟨stp (stA (st0 w) _) hb1, (mapS_made w).below hb1 (by simp), Nat.le_refl _, ⟨rfl, Or.inl ⟨rfl, rfl⟩⟩, ⟨rfl, Or.inl ⟨rfl, rfl⟩⟩, by rw [← esz]; exact hblk⟩
  refine then_k (by assumption) ?_
  refine HM.out _ _ w1 w _ _ _ _ _ (Lib.split s [10]) ⟨rfl, rfl, rfl, rfl, rfl, rfl, rfl, rfl, rfl⟩ rfl hspos (by omega) hts.out hBW ⟨fun _ => rfl, fun _ => rfl⟩ HF.out HE.out HA.out ?_ ?_
  · intro a1 w2 v5' v6' k st hgo hS1 hW1 hi1 hu1
    show Code.wp _ (z2.seq z3) _ a1 w2
    refine wp_seq (HH.out _ a1 w2 w v5' v6' _ _ _ k _ st hS1 hW1 hi1 hu1 ?_ ?_)
    · intro a2 w3 rom' hlay hS2 hrow hb
      show Code.wp _ z3 _ a2 w3
      refine HZ.out _ a2 w3 _ _ _ _ _ _ hS2 (fun a3 hd h2 h3 h4 => ?_)
      obtain ⟨ra, rc, rfl⟩ := row_form hrow
      refine ret_of hd h2 h3 h4 (Or.inl ⟨_, rom', rfl, ?_, own_sliceAt hrow, hb⟩)
      rw [hrt.out, hgo]; exact hlay
    · intro a2 w3 l e hlay hR2 hb
      refine then_ret ?_
      refine ret_of hR2.df hR2.s2 hR2.s3 hR2.s4 ?_
      refine Or.inr ⟨l, e, rfl, ?_, hb⟩
      rw [hrt.out, hgo]; exact hlay
  · intro a1 w2 k e hgo hR2 hb
    refine then_ret ?_
    refine ret_of hR2.df hR2.s2 hR2.s3 hR2.s4 ?_
    refine Or.inr ⟨k, e, rfl, ?_, hb⟩
    rw [hrt.out, hgo]
theorem refBuilt_any (s : S.By) (w : World) (hF : AF w) (hE : EF w) (hA : Facts w) :
    Calls Tryz.prog 5 #[.string (mk s)] w fun e w' => ∃ v, e = .returned (.tuple #[v, .int .i64 (S.at s), .int .i64 (S.err s)]) ∧ sliceAt w' v (S.rom s) ∧ Below w.heap.size w w' := by
  unfold S.at S.err S.rom S.build
  by_cases hl : 4000 < s.length
  · rw [if_pos (Or.inl hl)]
    exact (refBuilt_long s hl w).mono fun e w' ⟨h1, h2⟩ => ⟨_, h1, Or.inl ⟨none, 0, rfl, rfl⟩, h2 ▸ st0 _⟩
  · by_cases hc : 300 < s.count 10
    · rw [if_pos (Or.inr hc)]
      exact (refBuilt_many s (by omega) hc w).mono fun e w' ⟨h1, h2⟩ => ⟨_, h1, Or.inl ⟨none, 0, rfl, rfl⟩, h2 ▸ st0 _⟩
    · rw [if_neg (by omega)]
      by_cases h0 : s = []
      · subst h0
        exact (refBuilt_none w).mono fun e w' ⟨h1, h2⟩ => ⟨_, h1, Or.inl ⟨none, 0, rfl, rfl⟩, h2 ▸ st0 _⟩
      · refine (refBuilt_go s (by omega) (by omega) h0 w hF hE hA).mono fun e w' h => ?_
        rcases h with ⟨v, rom, h1, h2, h3, h4⟩ | ⟨k, x, h1, h2, h3⟩
        · rw [h2]; exact ⟨v, h1, h3, h4⟩
        · rw [h2]; exact ⟨_, h1, Or.inl ⟨none, 0, rfl, rfl⟩, h3⟩
def AsmBuildWalk : Prop := ∀ (H : Type) (enc : TypeId × Value → H) (W : World) (base : Nat) (v0 v1 : Value) (d0 d1 : DataW H) (p0 p1 : List MemPlace), AF W ∧ EF W ∧ Facts W →
  Value.okWide Tryz.prog W .any base (Tryz.f3.params.getD 0 0) v0 → DataW.Trod enc Tryz.prog W 0 (fun _ => true) true (Tryz.f3.params.getD 0 0) v0 d0 p0 → Value.okWide Tryz.prog W .any base (Tryz.f3.params.getD 1 0) v1 → DataW.Trod enc Tryz.prog W 0 (fun _ => true) true (Tryz.f3.params.getD 1 0) v1 d1 p1 →
  Calls Tryz.prog 3 #[v0, v1] W fun e w' => e = .returned (.bool true) ∧ Below W.heap.size W w'
set_option maxRecDepth 100000 in
theorem asmBuild_lifted (walk : AsmBuildWalk) (os : Os) (started : os.Started) (H : Type) (enc : TypeId × Value → H) :
    ReturnsInHanded {} Tryz.checked os 3 .any (fun w args => (Rows.asmBuildSpec.pre enc Tryz.prog Tryz.f3 [] false w args ∧ laidMetH Tryz.prog Rows.asmBuildRow.laid w) ∧ sizedMet enc Tryz.prog Tryz.f3 (OpenSpec.ofChange Rows.asmBuildSpec) false w args)
      (Rows.asmBuildSpec.post enc Tryz.prog Tryz.f3 false true false false) := by
  refine returns_and_shaped (C := Tryz.checked) (X := fun w _ => laidMetH Tryz.prog Rows.asmBuildRow.laid w) (fun _ _ _ hh h => h.of_heap hh) own started (by kernel_rfl) Tryz.func3
    (ChangeSpec.witness_shaped (enc := enc) (C := Tryz.checked) (os := os) (X := fun w _ => laidMetH Tryz.prog Rows.asmBuildRow.laid w) false (World.laidAll Tryz.prog os Rows.asmBuildRow.laid) #[.string ⟨#[]⟩, .string ⟨#[]⟩] 8 (World.laidAll_os _ _ _)
      (World.shaped_of_ZipB (by kernel_rfl) (by kernel_rfl)) (by kernel_rfl) (by kernel_rfl) (by kernel_rfl)
      (by rw [MakeChecks.laidMetH_plain _ _ _ (by kernel_rfl)]; exact laidMet_laidAll _ (by kernel_rfl) (by kernel_rfl))) ?_
  intro W base args ds gs before hval0 hW _ hwt hL hsh _
  have hval : ∀ (j : Nat) t v, Tryz.f3.params[j]? = some t → args[j]? = some v → Value.okWide Tryz.prog W .any base t v := hval0
  have hW' := hW
  obtain ⟨p, q, hA0, hV, rfl, _, _⟩ := hW
  have hA : DataW.TrodAll enc Tryz.prog W 0 (fun _ => true) true Tryz.f3.params.toList args.toList ds p := hA0
  have hA1 := hA
  rw [Tryz.params3] at hA hval
  obtain ⟨v0, vs0, d0, ds0, p0, q0, hargs, rfl, rfl, h0, r0⟩ := trodAll_cons hA
  obtain ⟨v1, vs1, d1, ds1, p1, q1, rfl, rfl, rfl, h1, r1⟩ := trodAll_cons r0
  obtain ⟨rfl, rfl, rfl⟩ := trodAll_nil r1
  obtain rfl : args = #[v0, v1] := by cases args; simp_all
  obtain ⟨rfl, rfl⟩ := trodVars_none hV
  rw [MakeChecks.laidMetH_plain _ _ _ (by kernel_rfl)] at hL
  have hlt := fun x hx => hW'.lt x (List.mem_append_left _ hx)
  refine (walk H enc W base v0 v1 d0 d1 _ _ (⟨af_of hL hsh (by simp [Rows.asmBuildRow]) (by simp [Rows.asmBuildRow]), ef_of hL (by simp [Rows.asmBuildRow]) (by simp [Rows.asmBuildRow]), facts_of hL hsh (by simp [Rows.asmBuildRow]) (by simp [Rows.asmBuildRow])⟩) (hval 0 _ v0 rfl rfl) h0 (hval 1 _ v1 rfl rfl) h1).mono fun e W' ⟨he, hb⟩ => ?_
  subst he
  exact ⟨_, rfl, _, _, _, [], _, [], hW', trodAll_mk1 (shut_bool Tryz.underlying4 _), trodAll_below_all (by kernel_rfl) hb (by kernel_rfl) hA1 hlt, rfl, hb.frame _, fun h => by cases h⟩
theorem asmBuild_row (walk : AsmBuildWalk) : Rows.AsmBuildSaid :=
  OpenClaim.holds_of_wide 3 Tryz.f3 rfl rfl rfl rfl rfl rfl rfl ⟨rfl, rfl, rfl, rfl, rfl⟩ rfl rfl rfl rfl rfl (by kernel_rfl) Tryz.func3 (by kernel_rfl)
    (of_decide_eq_true (by kernel_rfl)) (by unfold Func.isWrapper; first | (rw [if_pos (by decide +kernel)]; kernel_rfl) | (rw [if_neg (by decide +kernel)]; exact ⟨rfl, rfl⟩))
    (fun os started H enc _ => asmBuild_lifted walk os started H enc)
theorem asmBuild_card (walk : AsmBuildWalk) : Rows.AsmBuildCardSaid :=
  Claim7.holds_tied_plain_at .later [] _ true _ true (asmBuild_row walk) (fun _ h => by cases h) (by kernel_rfl) (fun _ h => by cases h) asmBuild_row_tie rfl ⟨rfl, rfl⟩ (by kernel_rfl) rfl
    (fun f fn hf hfn => by
      obtain rfl : f = 3 := Option.some.inj ((show Tryz.prog.funcNamed "marquee/marqueelaw.AsmBuild" = some 3 by kernel_rfl).symm.trans hf) |>.symm
      obtain rfl : fn = Tryz.f3 := (Option.some.inj (Tryz.func3.symm.trans hfn)).symm
      exact ⟨by kernel_rfl, fun j t ht => by
        have hm : t ∈ Tryz.f3.params.toList := List.mem_of_getElem? (i := j) (by rw [Array.getElem?_toList]; exact ht)
        have hall : Tryz.f3.params.toList.all (fun t => !(Tryz.prog.wantsStandIn t)) = true := by kernel_rfl
        have := List.all_eq_true.1 hall t hm
        exact Bool.not_eq_true' _ ▸ this⟩)
    (by kernel_rfl)
set_option maxRecDepth 100000 in
set_option maxHeartbeats 1600000 in
theorem asmBuild_any (s n : S.By) (w : World) (hF : AF w) (hE : EF w) (hA : Facts w) :
    Calls Tryz.prog 3 #[.string (mk s), .string (mk n)] w fun e w' => e = .returned (.bool true) ∧ Below w.heap.size w w' := by
  have HB := hid (build_any s w hF hE)
  have HF := hid hF
  have HE := hid hE
  have HA := hid hA
  have HN : Hid (∀ w, Calls Tryz.prog 7 #[.string (mk n)] w fun e w' => e = .returned (.bool (S.nameOk n)) ∧ w = w') := fun w => asmName_at (mk n) w
  have HI : Hid (∀ w, AF w → Calls Tryz.prog 8 #[.string (mk n)] w fun e w' => e = .returned (.bool (S.nameOk n)) ∧ Below w.heap.size w w') := fun w h => isName_any n w h
  have HR : Hid (∀ w, AF w → EF w → Facts w → Calls Tryz.prog 5 #[.string (mk s)] w fun e w' => ∃ v, e = .returned (.tuple #[v, .int .i64 (S.at s), .int .i64 (S.err s)]) ∧ sliceAt w' v (S.rom s) ∧ Below w.heap.size w w') := fun w h1 h2 h3 => refBuilt_any s w h1 h2 h3
  generalize S.nameOk n = b0 at *
  have hbb : (b0 == b0) = true := by simp
  have hrr : (S.rom s == S.rom s) = true := by simp
  generalize S.rom s = rom at *
  generalize (S.at s : Int) = at' at *
  generalize S.err s = er at *
  clear hF hE hA
  go_enter Tryz.func3, Tryz.ntmps3
  go_wp2_with (first
    | (go_at_call 4; refine HB.out.mono ?_; rintro e w1 ⟨v1, rfl, hs1, hb1⟩; have HS1 := hid hs1; clear hs1)
    | (go_at_call 5; refine (HR.out _ (HF.out.kept hb1) (HE.out.kept hb1) (HA.out.kept hb1)).mono ?_; rintro e w2 ⟨v2, rfl, hs2, hb2⟩; have HS2 := hid hs2; clear hs2; have B2 := hid (stp hb1 hb2))
    | (go_at_call 6; refine (built_any _ (HF.out.kept B2.out)).mono ?_; rintro e w3 ⟨rfl, hb3⟩; have B3 := hid (stp B2.out hb3))
    | (go_at_call 7; refine (HN.out _).mono ?_; rintro e w4 ⟨rfl, rfl⟩)
    | (go_at_call 8; refine (HI.out _ (HF.out.kept B3.out)).mono ?_; rintro e w5 ⟨rfl, hb5⟩; have B5 := hid (stp B3.out hb5))
    | (go_at_call 9; refine (equal_any _ _ rom rom _ (HS1.out.kept (stp (stp hb2 hb3) hb5)) (HS2.out.kept (stp hb3 hb5))).mono ?_; rintro e w6 ⟨rfl, rfl⟩))
  go_ret
  exact ⟨ret_b (by simp), B5.out⟩
set_option maxRecDepth 100000 in
theorem asmBuild_walk : AsmBuildWalk := by
  intro H enc W base v0 v1 d0 d1 p0 p1 hF k0 t0 k1 t1
  obtain ⟨x, rfl, _⟩ := Go.ChangeMaps.open_string Tryz.underlying9 k0 t0
  obtain ⟨y, rfl, _⟩ := Go.ChangeMaps.open_string Tryz.underlying9 k1 t1
  have := asmBuild_any (bs x) (bs y) W hF.1 hF.2.1 hF.2.2
  rw [mk_bs, mk_bs] at this
  exact this
theorem asmBuild_holds : Rows.AsmBuildCardSaid := asmBuild_card asmBuild_walk
end Go.Proofs.YtdjhlfoapieohaaGreatDoor
