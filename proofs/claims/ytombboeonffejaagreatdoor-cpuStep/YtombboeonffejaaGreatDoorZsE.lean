/-
  For every processor, every space, rung or not, the law CpuStep of the program returns true and leaves its arguments as they were; no condition but the row's own.
-/
import Derived.Test.YtombboeonffejaaGreatDoorShapes
import Derived.Test.YtombboeonffejaaGreatDoorCards
import Derived.Test.YtombboeonffejaaGreatDoorTie
import Derived.SevenTiedAt
import Derived.Test.YtombboeonffejaaGreatDoorZsT
import Derived.Test.YtombboeonffejaaGreatDoorZsW
namespace Go.Proofs.YtombboeonffejaaGreatDoor
open Go.ChangeShapes Go.WideShapes Go.ChangeAt Go.RowKit
set_option linter.unusedVariables false

def CpuStepWalk : Prop := ∀ (H : Type) (enc : TypeId × Value → H) (W : World) (base : Nat) (v0 v1 v2 : Value) (d0 d1 d2 : DataW H) (p0 p1 p2 : List MemPlace), Facts W ∧ (∀ n ∈ d1.weights Tryz.prog 28, n ≤ reachBytes) →
  Value.okWide Tryz.prog W .any base (Tryz.f3.params.getD 0 0) v0 → DataW.Trod enc Tryz.prog W 0 (fun _ => true) true (Tryz.f3.params.getD 0 0) v0 d0 p0 → Value.okWide Tryz.prog W .any base (Tryz.f3.params.getD 1 0) v1 → DataW.Trod enc Tryz.prog W 0 (fun _ => true) true (Tryz.f3.params.getD 1 0) v1 d1 p1 → Value.okWide Tryz.prog W .any base (Tryz.f3.params.getD 2 0) v2 → DataW.Trod enc Tryz.prog W 0 (fun _ => true) true (Tryz.f3.params.getD 2 0) v2 d2 p2 →
  Calls Tryz.prog 3 #[v0, v1, v2] W fun e w' => e = .returned (.bool true) ∧ Below W.heap.size W w'
set_option maxRecDepth 100000 in
theorem cpuStep_lifted (walk : CpuStepWalk) (os : Os) (started : os.Started) (H : Type) (enc : TypeId × Value → H) :
    ReturnsInHanded {} Tryz.checked os 3 .any (fun w args => (Rows.cpuStepSpec.pre enc Tryz.prog Tryz.f3 [] false w args ∧ laidMetH Tryz.prog Rows.cpuStepRow.laid w) ∧ sizedMet enc Tryz.prog Tryz.f3 (OpenSpec.ofChange Rows.cpuStepSpec) false w args)
      (Rows.cpuStepSpec.post enc Tryz.prog Tryz.f3 false true false false) := by
  refine returns_and_shaped (C := Tryz.checked) (X := fun w _ => laidMetH Tryz.prog Rows.cpuStepRow.laid w) (fun _ _ _ hh h => h.of_heap hh) own started (by kernel_rfl) Tryz.func3
    (ChangeSpec.witness_shaped (enc := enc) (C := Tryz.checked) (os := os) (X := fun w _ => laidMetH Tryz.prog Rows.cpuStepRow.laid w) false (World.laidAll Tryz.prog os Rows.cpuStepRow.laid) #[.agg #[.int .u16 0, .int .u16 0, .int .u16 0, .int .u16 0, .int .u16 0, .int .u16 0, .int .u16 0, .int .u16 0, .int .u16 0, .bool false, .bool false, .bool false, .bool false, .bool false, .bool false], .agg #[.slice none 0 0, .slice none 0 0], .bool false] 8 (World.laidAll_os _ _ _)
      (World.shaped_of_ZipB (by kernel_rfl) (by kernel_rfl)) (by kernel_rfl) (by kernel_rfl) (by kernel_rfl)
      (by rw [MakeChecks.laidMetH_plain _ _ _ (by kernel_rfl)]; exact laidMet_laidAll _ (by kernel_rfl) (by kernel_rfl))) ?_
  intro W base args ds gs before hval0 hW _ hwt hL hsh _
  have hval : ∀ (j : Nat) t v, Tryz.f3.params[j]? = some t → args[j]? = some v → Value.okWide Tryz.prog W .any base t v := hval0
  have hW' := hW
  obtain ⟨p, q, hA0, hV, rfl, _, _⟩ := hW
  have hA : DataW.TrodAll enc Tryz.prog W 0 (fun _ => true) true Tryz.f3.params.toList args.toList ds p := hA0
  have hA1 := hA
  rw [Tryz.params3] at hA hval
  obtain ⟨v0, vs0, d0, ds0, p0, q0, hargs, rfl, rfl, h0, r0⟩ := trodAll_cons hA
  obtain ⟨v1, vs1, d1, ds1, p1, q1, rfl, rfl, rfl, h1, r1⟩ := trodAll_cons r0
  obtain ⟨v2, vs2, d2, ds2, p2, q2, rfl, rfl, rfl, h2, r2⟩ := trodAll_cons r1
  obtain ⟨rfl, rfl, rfl⟩ := trodAll_nil r2
  obtain rfl : args = #[v0, v1, v2] := by cases args; simp_all
  obtain ⟨rfl, rfl⟩ := trodVars_none hV
  rw [MakeChecks.laidMetH_plain _ _ _ (by kernel_rfl)] at hL
  have hlt := fun x hx => hW'.lt x (List.mem_append_left _ hx)
  refine (walk H enc W base v0 v1 v2 d0 d1 d2 _ _ _ (⟨facts_of hL hsh (by simp [Rows.cpuStepRow]) (by simp [Rows.cpuStepRow]), fun n hn => by have := List.all_eq_true.1 hwt n (DataW.weights_mem_each (j := 1) rfl rfl n hn); simpa using this⟩) (hval 0 _ v0 rfl rfl) h0 (hval 1 _ v1 rfl rfl) h1 (hval 2 _ v2 rfl rfl) h2).mono fun e W' ⟨he, hb⟩ => ?_
  subst he
  exact ⟨_, rfl, _, _, _, [], _, [], hW', trodAll_mk1 (shut_bool Tryz.underlying4 _), trodAll_below_all (by kernel_rfl) hb (by kernel_rfl) hA1 hlt, rfl, hb.frame _, fun h => by cases h⟩
theorem cpuStep_row (walk : CpuStepWalk) : Rows.CpuStepSaid :=
  OpenClaim.holds_of_wide 3 Tryz.f3 rfl rfl rfl rfl rfl rfl rfl ⟨rfl, rfl, rfl, rfl, rfl⟩ rfl rfl rfl rfl rfl (by kernel_rfl) Tryz.func3 (by kernel_rfl)
    (of_decide_eq_true (by kernel_rfl)) (by unfold Func.isWrapper; first | (rw [if_pos (by decide +kernel)]; kernel_rfl) | (rw [if_neg (by decide +kernel)]; exact ⟨rfl, rfl⟩))
    (fun os started H enc _ => cpuStep_lifted walk os started H enc)
theorem cpuStep_card (walk : CpuStepWalk) : Rows.CpuStepCardSaid :=
  Claim7.holds_tied_plain_at .later [] _ true _ true (cpuStep_row walk) (fun _ h => by cases h) (by kernel_rfl) (fun _ h => by cases h) cpuStep_row_tie rfl ⟨rfl, rfl⟩ (by kernel_rfl) rfl
    (fun f fn hf hfn => by
      obtain rfl : f = 3 := Option.some.inj ((show Tryz.prog.funcNamed "marquee/marqueelaw.CpuStep" = some 3 by kernel_rfl).symm.trans hf) |>.symm
      obtain rfl : fn = Tryz.f3 := (Option.some.inj (Tryz.func3.symm.trans hfn)).symm
      exact ⟨by kernel_rfl, fun j t ht => by
        have hm : t ∈ Tryz.f3.params.toList := List.mem_of_getElem? (i := j) (by rw [Array.getElem?_toList]; exact ht)
        have hall : Tryz.f3.params.toList.all (fun t => !(Tryz.prog.wantsStandIn t)) = true := by kernel_rfl
        have := List.all_eq_true.1 hall t hm
        exact Bool.not_eq_true' _ ▸ this⟩)
    (by kernel_rfl)
set_option maxRecDepth 100000 in
set_option maxHeartbeats 6400000 in
theorem cpuStep_bad (c : C.Cpu) (v1 v2 : Value) (rom ram : List UInt8) (r : Bool) (w : World) (h1 : sliceAt w v1 rom) (h2 : sliceAt w v2 ram) (hl1 : rom.length ≤ 140737488355328) (hl2 : ram.length ≤ 140737488355328) (hl : 1024 < rom.length ∨ 256 < ram.length) (hF : Facts w) :
    Calls Tryz.prog 3 #[cpuV c, .agg #[v1, v2], .bool r] w fun e w' => e = .returned (.bool true) ∧ Below w.heap.size w w' := by
  obtain ⟨a1, k1, x1⟩ := slice_len h1
  obtain ⟨a2, k2, x2⟩ := slice_len h2
  subst x1 x2
  have H1 := hid h1
  have H2 := hid h2
  have HF := hid hF
  clear h1 h2 hF
  go_enter Tryz.func3, Tryz.ntmps3
  go_upto_region 1 with fail
  go_cut [7] (fun p W => ∃ bo a3 k3 a4 k4, p = .pointer (some ⟨bo, 0, none⟩) ∧ Cs1 w bo c (.slice a1 rom.length k1) (.slice a2 ram.length k2) (.slice a3 rom.length k3) (.slice a4 ram.length k4) rom ram W)
  case first =>
    go_wp2_with (go_at_call 5; refine (own_any _ _ rom ram _ (H1.out.kept (stA (stA (st0 w) _) _)) (H2.out.kept (stA (stA (st0 w) _) _)) hl1 hl2).mono ?_; rintro e w1 ⟨vR, vM, rfl, hcop, hb1⟩; obtain ⟨aR, kR, hvR⟩ := own_slice hcop.1; obtain ⟨aM, kM, hvM⟩ := own_slice hcop.2.1; subst hvR hvM; have HC := hid hcop; clear hcop)
    go_meet
    have hA := stp (stA (stA (st0 w) _) _) hb1
    exact ⟨w1.heap.size, aR, kR, aM, kM, rfl, stA hA _, (((Cat.new w c _ rfl).over _).kept hb1).over _, (((Sat.new _ _ _ _ (by simp))).kept hb1).over _, Sat.new _ _ _ _ rfl, H1.out.kept (stA hA _), H2.out.kept (stA hA _), (slice_of_own HC.out.1).kept (stA (st0 w1) _), (slice_of_own HC.out.2.1).kept (stA (st0 w1) _), HF.out.kept (stA hA _)⟩
  case rest =>
  obtain ⟨bo, a3, k3, a4, k4, rfl, hC⟩ := hcut
  have HC1 := hid hC
  clear hC
  have HST := hid (fun W x1 x2 s1 s2 => step_err c x1 x2 rom ram r W s1 s2 hl)
  go_upto_region 2 with fail
  go_cut [8, 9, 10, 11] (fun pd pu n e W => ∃ bd bu, pd = .pointer (some ⟨bd, 0, none⟩) ∧ pu = .pointer (some ⟨bu, 0, none⟩) ∧ n = .int .i64 0 ∧ e = .int .i64 2 ∧ Cs2 w bo bd bu c (.slice a1 rom.length k1) (.slice a2 ram.length k2) (.slice a3 rom.length k3) (.slice a4 ram.length k4) rom ram C.Cpu.zero (.slice none 0 0) (.slice none 0 0) [] [] W)
  case first =>
    obtain ⟨q0, q1, q2, q3, q4, q5, q6, q7, q8, q9, q10, q11, q12, q13, q14⟩ := HC1.out.cc.all
    obtain ⟨z1, d0, d1⟩ := HC1.out.oo
    have z0 := HC1.out.cc.z
    go_wp2_with (go_at_call 6; refine (HST.out _ _ _ HC1.out.q1 HC1.out.q2).mono ?_; rintro e w2 ⟨rfl, hb2⟩)
    go_meet
    have hA := stA (stA (st0 w2) (.cells #[.int .u16 (C.Cpu.zero.r 0), .int .u16 (C.Cpu.zero.r 1), .int .u16 (C.Cpu.zero.r 2), .int .u16 (C.Cpu.zero.r 3), .int .u16 (C.Cpu.zero.r 4), .int .u16 (C.Cpu.zero.r 5), .int .u16 (C.Cpu.zero.r 6), .int .u16 (C.Cpu.zero.r 7), .int .u16 C.Cpu.zero.PC, .bool C.Cpu.zero.Z, .bool C.Cpu.zero.N, .bool C.Cpu.zero.C, .bool C.Cpu.zero.V, .bool C.Cpu.zero.May, .bool C.Cpu.zero.Waits] 25)) (.cells #[.slice none 0 0, .slice none 0 0] 28)
    exact ⟨w2.heap.size, w2.heap.size + 1, rfl, rfl, rfl, rfl, (HC1.out.kept hb2).kept hA, (Cat.new w2 C.Cpu.zero _ rfl).over _, Sat.new _ _ _ _ (by simp), Or.inl ⟨none, 0, rfl, rfl⟩, Or.inl ⟨none, 0, rfl, rfl⟩⟩
  case rest =>
  obtain ⟨bd, bu, rfl, rfl, rfl, rfl, hC2⟩ := hcut
  have HC2 := hid hC2
  clear hC2 HC1
  have hk1 := fun W => chk_any a1 a2 rom.length ram.length k1 k2 W
  have hk2 := fun W => checkSp_any a1 a2 rom.length ram.length k1 k2 W
  rw [if_pos hl] at hk1 hk2
  have HK1 := hid hk1
  have HK2 := hid hk2
  clear hk1 hk2
  go_upto_region 3 with fail
  go_cut [48] (fun b W => b = .bool false ∧ Cs2 w bo bd bu c (.slice a1 rom.length k1) (.slice a2 ram.length k2) (.slice a3 rom.length k3) (.slice a4 ram.length k4) rom ram C.Cpu.zero (.slice none 0 0) (.slice none 0 0) [] [] W)
  case first =>
    go_region_held3 (fun w' => w'.cell? ⟨w.heap.size, 0, none⟩ = some (.int .u16 (c.r 0)) ∧ w'.cell? ⟨w.heap.size, 1, none⟩ = some (.int .u16 (c.r 1)) ∧ w'.cell? ⟨w.heap.size, 2, none⟩ = some (.int .u16 (c.r 2)) ∧ w'.cell? ⟨w.heap.size, 3, none⟩ = some (.int .u16 (c.r 3)) ∧ w'.cell? ⟨w.heap.size, 4, none⟩ = some (.int .u16 (c.r 4)) ∧ w'.cell? ⟨w.heap.size, 5, none⟩ = some (.int .u16 (c.r 5)) ∧ w'.cell? ⟨w.heap.size, 6, none⟩ = some (.int .u16 (c.r 6)) ∧ w'.cell? ⟨w.heap.size, 7, none⟩ = some (.int .u16 (c.r 7)) ∧ w'.cell? ⟨w.heap.size, 8, none⟩ = some (.int .u16 c.PC) ∧ w'.cell? ⟨w.heap.size, 9, none⟩ = some (.bool c.Z) ∧ w'.cell? ⟨w.heap.size, 10, none⟩ = some (.bool c.N) ∧ w'.cell? ⟨w.heap.size, 11, none⟩ = some (.bool c.C) ∧ w'.cell? ⟨w.heap.size, 12, none⟩ = some (.bool c.V) ∧ w'.cell? ⟨w.heap.size, 13, none⟩ = some (.bool c.May) ∧ w'.cell? ⟨w.heap.size, 14, none⟩ = some (.bool c.Waits) ∧ w'.cell? ⟨w.heap.size + 1, 0, none⟩ = some (.slice a1 rom.length k1) ∧ w'.cell? ⟨w.heap.size + 1, 1, none⟩ = some (.slice a2 ram.length k2) ∧ w'.cell? ⟨bo, 0, none⟩ = some (.slice a3 rom.length k3) ∧ w'.cell? ⟨bo, 1, none⟩ = some (.slice a4 ram.length k4) ∧ Cs2 w bo bd bu c (.slice a1 rom.length k1) (.slice a2 ram.length k2) (.slice a3 rom.length k3) (.slice a4 ram.length k4) rom ram C.Cpu.zero (.slice none 0 0) (.slice none 0 0) [] [] w')
      (first
        | with_reducible exact cs2all HC2.out
        | with_reducible exact cs2all HC2.out.drew
        | with_reducible exact cs2keep (by assumption) (by assumption)
        | (go_keep; done))
      (first
        | (go_at_call 7; refine (stepped_any _ HC2.out.drew.fx.shapes).mono ?_; rintro e w3 ⟨rfl, hb3⟩; have C3 := hid (HC2.out.drew.kept hb3))
        | (go_at_call 8; refine (HK1.out _).mono ?_; rintro e w4 ⟨rfl, hb4⟩)
        | (go_at_call 9; refine (HK2.out _).mono ?_; rintro e w5 ⟨rfl, hb5⟩)
        | (go_at_call 10; refine (sign_any c _).mono ?_; rintro e w6 ⟨rfl, hb6⟩)
        | (go_at_call 11; refine (rsign_any c _).mono ?_; rintro e w7 ⟨rfl, hb7⟩; have C7 := hid ((((C3.out.kept hb4).kept hb5).kept hb6).kept hb7))
        | (go_at_call 12; refine (same_any _ _ _ _ rom ram _ C7.out.q1 C7.out.q2 C7.out.r1 C7.out.r2).mono ?_; rintro e w8 ⟨rfl, hb8⟩))
    have C8 := hid (C7.out.kept hb8)
    go_wp2_with fail
    go_meet
    exact ⟨rfl, C8.out⟩
  case rest =>
  obtain ⟨rfl, hC2⟩ := hcut
  clear HC2
  have HC2 := hid hC2
  clear hC2
  have s0 := HC2.out.ss.c0
  have s1 := HC2.out.ss.c1
  have heq : ∀ W, (binOp .eql 25 (cpuV C.Cpu.zero) (.agg #[.int .u16 0, .int .u16 0, .int .u16 0, .int .u16 0, .int .u16 0, .int .u16 0, .int .u16 0, .int .u16 0, .int .u16 0, .bool false, .bool false, .bool false, .bool false, .bool false, .bool false])).run Tryz.prog W = .ok (.bool true) W := fun W => eq_cpu C.Cpu.zero W
  go_wp2_with (first
    | (go_at_call 9; refine (HK2.out _).mono ?_; rintro e w4 ⟨rfl, hb4⟩; have HC4 := hid (HC2.out.kept hb4); have z0 := HC4.out.uu.c0; have z1 := HC4.out.uu.c1; clear hb4)
    | (refine ldGc (by rfl) (.tmp 8) rfl bd C.Cpu.zero rfl HC4.out.dd ?_)
    | (go_at_call 12; refine (same_any _ _ _ _ [] [] _ HC4.out.u1 HC4.out.u2 (Or.inl ⟨none, 0, rfl, rfl⟩) (Or.inl ⟨none, 0, rfl, rfl⟩)).mono ?_; rintro e w12 ⟨rfl, hb12⟩))
  go_ret
  exact ⟨rfl, stp HC4.out.low hb12⟩
set_option maxRecDepth 100000 in
theorem cpuStep_walk : CpuStepWalk := by
  intro H enc W base v0 v1 v2 d0 d1 d2 p0 p1 p2 hFW k0 t0 k1 t1 k2 t2
  obtain ⟨c, rfl, hc⟩ := open_cpu k0 t0
  obtain ⟨u1, u2, rom, ram, rfl, h1, h2, g1, g2⟩ := open_spaceW k1 t1 hFW.2
  obtain ⟨r, rfl, _⟩ := open_bool Tryz.underlying4 k2 t2
  by_cases hl : 1024 < rom.length ∨ 256 < ram.length
  · exact cpuStep_bad c u1 u2 rom ram r W h1 h2 g1 g2 hl hFW.1
  · exact cpuStep_ok c hc u1 u2 rom ram r W h1 h2 (by omega) (by omega) hFW.1
theorem cpuStep_holds : Rows.CpuStepCardSaid := cpuStep_card cpuStep_walk
end Go.Proofs.YtombboeonffejaaGreatDoor
