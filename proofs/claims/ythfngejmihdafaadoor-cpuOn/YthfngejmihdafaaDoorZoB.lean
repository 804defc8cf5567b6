/-
  The law CpuOn: its row and card, its text where the space is wrong, and all of it (the texts CpuOnD, CpuOnFrame, CpuOnWalk in one).
-/
import Derived.Test.YthfngejmihdafaaDoorZoA
import Derived.Test.YthfngejmihdafaaDoorShapes
import Derived.Test.YthfngejmihdafaaDoorCards
import Derived.Test.YthfngejmihdafaaDoorTie
import Derived.SevenTiedAt
import Derived.Test.YthfngejmihdafaaDoorZoC
import Derived.Test.YthfngejmihdafaaDoorZoD
namespace Go.Proofs.YthfngejmihdafaaDoor
open Go.ChangeShapes Go.WideShapes Go.ChangeAt Go.RowKit
set_option linter.unusedVariables false

set_option maxRecDepth 100000 in
theorem on_out (n : Int) (hn : n < 0 ∨ 500 ≤ n) (more : Bool) (v1 v2 : Value) (w : World) :
    Calls Tryd.prog 3 #[.agg #[v1, v2], .int .i64 n, .bool more] w fun e w' => e = .returned (.bool true) ∧ Below w.heap.size w w' := by
  by_cases h : n < 0
  · go_enter Tryd.func3, Tryd.ntmps3
    go_wp2
    go_ret
    exact ⟨rfl, stA (st0 _) _⟩
  · have h2 : 500 ≤ n := by omega
    go_enter Tryd.func3, Tryd.ntmps3
    go_wp2
    go_ret
    exact ⟨rfl, stA (st0 _) _⟩
set_option maxRecDepth 100000 in
set_option maxHeartbeats 3200000 in
theorem on_err (n : Int) (hn0 : 0 ≤ n) (hn : n < 500) (more : Bool) (v1 v2 : Value) (rom ram : List UInt8) (w : World) (h1 : sliceAt w v1 rom) (h2 : sliceAt w v2 ram) (hl : 1024 < rom.length ∨ 256 < ram.length) (hs : shapesAt w) :
    Calls Tryd.prog 3 #[.agg #[v1, v2], .int .i64 n, .bool more] w fun e w' => e = .returned (.bool true) ∧ Below w.heap.size w w' := by
  have HS := hid hs
  have H1 := hid h1
  have H2 := hid h2
  have HL := hid hl
  obtain ⟨a1, k1, x1⟩ := slice_len h1
  obtain ⟨a2, k2, x2⟩ := slice_len h2
  subst x1 x2
  have hn1 : ¬ (n < 0) := by omega
  have hn2 : ¬ (500 ≤ n) := by omega
  clear h1 h2 hl hs
  have hmm := @run_makeMap Tryd.prog
  go_enter Tryd.func3, Tryd.ntmps3
  go_wp2_with (first
    | (have zz := B4; clear zz; go_at_call 6; refine (stepped_any _ (HS.out.kept B4.out)).mono ?_; rintro e w5 ⟨rfl, hb5⟩; have B5 := hid (stp B4.out hb5); clear hb5)
    | (have zz := B3; clear zz; go_at_call 6; refine (stepped_any _ (HS.out.kept (stA (stA B3.out _) _))).mono ?_; rintro e w4 ⟨rfl, hb4⟩; have B4 := hid (stp (stA (stA B3.out _) _) hb4); clear hb4)
    | (have zz := B2; clear zz; go_at_call 5; refine (run_err _ _ _ rom ram _ _ (H1.out.kept B2.out) (H2.out.kept B2.out) HL.out).mono ?_; rintro e w3 ⟨rfl, hb3⟩; have B3 := hid (stp B2.out hb3); clear hb3)
    | (refine wpList_binsert _ rfl _ _ _ 33 rfl 4 32 under_bmap Tryd.underlying4 (w1.heap.size + 1 + 1) 0 rfl ?_ _ rfl rfl ?_; (exact (heap_alloc_old _ _ (by simp)).trans (heap_new_at _ _ _ (by simp))); intro w2 hm2 hs2; have lk := blookup_run under_bmap Tryd.underlying4 hm2 more _ (zero_ints w2); have DD := hid (hs2.grown _ (stA (stA (st0 _) _) _) (by simp)); have B2 := hid (stp (stA (stA B1.out _) _) DD.out); clear hm2 hs2)
    | (go_at_call 5; refine (run_err _ _ _ rom ram _ _ (H1.out.kept (stA (st0 w) _)) (H2.out.kept (stA (st0 w) _)) HL.out).mono ?_; rintro e w1 ⟨rfl, hb1⟩; have B1 := hid (stp (stA (st0 w) _) hb1); obtain ⟨sz, s0, s1⟩ := (Sat.new w _ _ _ rfl).kept hb1; clear hb1))
  go_ret
  exact ⟨rfl, B5.out⟩
def CpuOnWalk : Prop := ∀ (H : Type) (enc : TypeId × Value → H) (W : World) (base : Nat) (v0 v1 v2 : Value) (d0 d1 d2 : DataW H) (p0 p1 p2 : List MemPlace), shapesAt W →
  Value.okWide Tryd.prog W .any base (Tryd.f3.params.getD 0 0) v0 → DataW.Trod enc Tryd.prog W 0 (fun _ => true) true (Tryd.f3.params.getD 0 0) v0 d0 p0 → Value.okWide Tryd.prog W .any base (Tryd.f3.params.getD 1 0) v1 → DataW.Trod enc Tryd.prog W 0 (fun _ => true) true (Tryd.f3.params.getD 1 0) v1 d1 p1 → Value.okWide Tryd.prog W .any base (Tryd.f3.params.getD 2 0) v2 → DataW.Trod enc Tryd.prog W 0 (fun _ => true) true (Tryd.f3.params.getD 2 0) v2 d2 p2 →
  Calls Tryd.prog 3 #[v0, v1, v2] W fun e w' => e = .returned (.bool true) ∧ Below W.heap.size W w'
set_option maxRecDepth 100000 in
theorem cpuOn_lifted (walk : CpuOnWalk) (os : Os) (started : os.Started) (H : Type) (enc : TypeId × Value → H) :
    ReturnsInHanded {} Tryd.checked os 3 .any (fun w args => (Rows.cpuOnSpec.pre enc Tryd.prog Tryd.f3 [] false w args ∧ laidMetH Tryd.prog Rows.cpuOnRow.laid w) ∧ sizedMet enc Tryd.prog Tryd.f3 (OpenSpec.ofChange Rows.cpuOnSpec) false w args)
      (Rows.cpuOnSpec.post enc Tryd.prog Tryd.f3 false true false false) := by
  refine returns_and_shaped (C := Tryd.checked) (X := fun w _ => laidMetH Tryd.prog Rows.cpuOnRow.laid w) (fun _ _ _ hh h => h.of_heap hh) own started (by kernel_rfl) Tryd.func3
    (ChangeSpec.witness_shaped (enc := enc) (C := Tryd.checked) (os := os) (X := fun w _ => laidMetH Tryd.prog Rows.cpuOnRow.laid w) false (World.laidAll Tryd.prog os Rows.cpuOnRow.laid) #[.agg #[.slice none 0 0, .slice none 0 0], .int .i64 0, .bool false] 8 (World.laidAll_os _ _ _)
      (World.shaped_of_ZipB (by kernel_rfl) (by kernel_rfl)) (by kernel_rfl) (by kernel_rfl) (by kernel_rfl)
      (by rw [MakeChecks.laidMetH_plain _ _ _ (by kernel_rfl)]; exact laidMet_laidAll _ (by kernel_rfl) (by kernel_rfl))) ?_
  intro W base args ds gs before hval0 hW _ _ hL hsh _
  have hval : ∀ (j : Nat) t v, Tryd.f3.params[j]? = some t → args[j]? = some v → Value.okWide Tryd.prog W .any base t v := hval0
  have hW' := hW
  obtain ⟨p, q, hA0, hV, rfl, _, _⟩ := hW
  have hA : DataW.TrodAll enc Tryd.prog W 0 (fun _ => true) true Tryd.f3.params.toList args.toList ds p := hA0
  have hA1 := hA
  rw [Tryd.params3] at hA hval
  obtain ⟨v0, vs0, d0, ds0, p0, q0, hargs, rfl, rfl, h0, r0⟩ := trodAll_cons hA
  obtain ⟨v1, vs1, d1, ds1, p1, q1, rfl, rfl, rfl, h1, r1⟩ := trodAll_cons r0
  obtain ⟨v2, vs2, d2, ds2, p2, q2, rfl, rfl, rfl, h2, r2⟩ := trodAll_cons r1
  obtain ⟨rfl, rfl, rfl⟩ := trodAll_nil r2
  obtain rfl : args = #[v0, v1, v2] := by cases args; simp_all
  obtain ⟨rfl, rfl⟩ := trodVars_none hV
  rw [MakeChecks.laidMetH_plain _ _ _ (by kernel_rfl)] at hL
  have hlt := fun x hx => hW'.lt x (List.mem_append_left _ hx)
  refine (walk H enc W base v0 v1 v2 d0 d1 d2 _ _ _ (shapes_of_laid hL (by simp [Rows.cpuOnRow])) (hval 0 _ v0 rfl rfl) h0 (hval 1 _ v1 rfl rfl) h1 (hval 2 _ v2 rfl rfl) h2).mono fun e W' ⟨he, hb⟩ => ?_
  subst he
  exact ⟨_, rfl, _, _, _, [], _, [], hW', trodAll_mk1 (shut_bool Tryd.underlying4 _), trodAll_below_all (by kernel_rfl) hb (by kernel_rfl) hA1 hlt, rfl, hb.frame _, fun h => by cases h⟩
theorem cpuOn_row (walk : CpuOnWalk) : Rows.CpuOnSaid :=
  OpenClaim.holds_of_wide 3 Tryd.f3 rfl rfl rfl rfl rfl rfl rfl ⟨rfl, rfl, rfl, rfl, rfl⟩ rfl rfl rfl rfl rfl (by kernel_rfl) Tryd.func3 (by kernel_rfl)
    (of_decide_eq_true (by kernel_rfl)) (by unfold Func.isWrapper; first | (rw [if_pos (by decide +kernel)]; kernel_rfl) | (rw [if_neg (by decide +kernel)]; exact ⟨rfl, rfl⟩))
    (fun os started H enc _ => cpuOn_lifted walk os started H enc)
theorem cpuOn_card (walk : CpuOnWalk) : Rows.CpuOnCardSaid :=
  Claim7.holds_tied_plain_at .later [] _ true _ false (cpuOn_row walk) (fun _ h => by cases h) (by kernel_rfl) (fun _ h => by cases h) cpuOn_row_tie rfl ⟨rfl, rfl⟩ (by kernel_rfl) rfl
    (fun f fn hf hfn => by
      obtain rfl : f = 3 := Option.some.inj ((show Tryd.prog.funcNamed "marquee/marqueelaw.CpuOn" = some 3 by kernel_rfl).symm.trans hf) |>.symm
      obtain rfl : fn = Tryd.f3 := (Option.some.inj (Tryd.func3.symm.trans hfn)).symm
      exact ⟨by kernel_rfl, fun j t ht => by
        have hm : t ∈ Tryd.f3.params.toList := List.mem_of_getElem? (i := j) (by rw [Array.getElem?_toList]; exact ht)
        have hall : Tryd.f3.params.toList.all (fun t => !(Tryd.prog.wantsStandIn t)) = true := by kernel_rfl
        have := List.all_eq_true.1 hall t hm
        exact Bool.not_eq_true' _ ▸ this⟩)
    (by kernel_rfl)
set_option maxRecDepth 100000 in
theorem cpuOn_walk : CpuOnWalk := by
  intro H enc W base v0 v1 v2 d0 d1 d2 p0 p1 p2 hs k0 t0 k1 t1 k2 t2
  obtain ⟨u1, u2, rom, ram, rfl, h1, h2, _, _⟩ := open_space k0 t0
  obtain ⟨n, rfl, _, _, wn⟩ := open_int Tryd.underlying3 k1 t1
  obtain ⟨r, rfl, _⟩ := open_bool Tryd.underlying4 k2 t2
  by_cases hn : n < 0 ∨ 500 ≤ n
  · exact on_out n hn r u1 u2 W
  · by_cases hl : 1024 < rom.length ∨ 256 < ram.length
    · exact on_err n (by omega) (by omega) r u1 u2 rom ram W h1 h2 hl hs
    · obtain ⟨N, rfl⟩ := Int.eq_ofNat_of_zero_le (show 0 ≤ n by omega)
      rcases Nat.eq_zero_or_pos N with h0 | h0
      · exact on_zero N (by omega) h0 r u1 u2 rom ram W h1 h2 (by omega) (by omega) hs
      · exact on_pos N (by omega) h0 r u1 u2 rom ram W h1 h2 (by omega) (by omega) hs
theorem cpuOn_holds : Rows.CpuOnCardSaid := cpuOn_card cpuOn_walk
end Go.Proofs.YthfngejmihdafaaDoor
