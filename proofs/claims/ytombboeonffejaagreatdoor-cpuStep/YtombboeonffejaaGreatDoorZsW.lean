/-
  The Go text of the law CpuStep, where the space is right.
-/
import Derived.Test.YtombboeonffejaaGreatDoorZsT
namespace Go.Proofs.YtombboeonffejaaGreatDoor
open Go.ChangeShapes Go.WideShapes Go.ChangeAt Go.RowKit
set_option linter.unusedVariables false

set_option maxRecDepth 100000 in
set_option maxHeartbeats 12800000 in
theorem cpuStep_ok (c : C.Cpu) (hc : c.ok) (v1 v2 : Value) (rom ram : List UInt8) (r : Bool) (w : World) (h1 : sliceAt w v1 rom) (h2 : sliceAt w v2 ram) (hl1 : rom.length ≤ 1024) (hl2 : ram.length ≤ 256) (hF : Facts w) :
    Calls Tryz.prog 3 #[cpuV c, .agg #[v1, v2], .bool r] w fun e w' => e = .returned (.bool true) ∧ Below w.heap.size w w' := by
  obtain ⟨a1, k1, x1⟩ := slice_len h1
  obtain ⟨a2, k2, x2⟩ := slice_len h2
  subst x1 x2
  have H1 := hid h1
  have H2 := hid h2
  have HF := hid hF
  clear h1 h2 hF
  go_enter Tryz.func3, Tryz.ntmps3
  go_upto_region 1 with fail
  go_cut [7] (fun p W => ∃ bo a3 k3 a4 k4, p = .pointer (some ⟨bo, 0, none⟩) ∧ Cs1 w bo c (.slice a1 rom.length k1) (.slice a2 ram.length k2) (.slice a3 rom.length k3) (.slice a4 ram.length k4) rom ram W)
  case first =>
    go_wp2_with (go_at_call 5; refine (own_any _ _ rom ram _ (H1.out.kept (stA (stA (st0 w) _) _)) (H2.out.kept (stA (stA (st0 w) _) _)) (by omega) (by omega)).mono ?_; rintro e w1 ⟨vR, vM, rfl, hcop, hb1⟩; obtain ⟨aR, kR, hvR⟩ := own_slice hcop.1; obtain ⟨aM, kM, hvM⟩ := own_slice hcop.2.1; subst hvR hvM; have HC := hid hcop; clear hcop)
    go_meet
    have hA := stp (stA (stA (st0 w) _) _) hb1
    exact ⟨w1.heap.size, aR, kR, aM, kM, rfl, stA hA _, (((Cat.new w c _ rfl).over _).kept hb1).over _, (((Sat.new _ _ _ _ (by simp))).kept hb1).over _, Sat.new _ _ _ _ rfl, H1.out.kept (stA hA _), H2.out.kept (stA hA _), (slice_of_own HC.out.1).kept (stA (st0 w1) _), (slice_of_own HC.out.2.1).kept (stA (st0 w1) _), HF.out.kept (stA hA _)⟩
  case rest =>
  obtain ⟨bo, a3, k3, a4, k4, rfl, hC⟩ := hcut
  have HC1 := hid hC
  clear hC
  have hST := fun W x1 x2 s1 s2 ss => step_ok c hc x1 x2 rom ram r W s1 s2 hl1 hl2 ss
  obtain ⟨y, hy⟩ : ∃ y, C.step (spc rom) c ram r = y := ⟨_, rfl⟩
  rw [hy] at hST
  have HY := hid hy
  have HST := hid hST
  clear hy hST
  go_upto_region 2 with fail
  go_cut [8, 9, 10, 11] (fun pd pu n e W => ∃ bd bu a5 k5 a6 k6, pd = .pointer (some ⟨bd, 0, none⟩) ∧ pu = .pointer (some ⟨bu, 0, none⟩) ∧ n = .int .i64 y.n ∧ e = .int .i64 0 ∧ y.c.ok ∧ Cs2 w bo bd bu c (.slice a1 rom.length k1) (.slice a2 ram.length k2) (.slice a3 rom.length k3) (.slice a4 ram.length k4) rom ram y.c (.slice a5 rom.length k5) (.slice a6 y.s.length k6) rom y.s W)
  case first =>
    obtain ⟨q0, q1, q2, q3, q4, q5, q6, q7, q8, q9, q10, q11, q12, q13, q14⟩ := HC1.out.cc.all
    obtain ⟨z1, d0, d1⟩ := HC1.out.oo
    have z0 := HC1.out.cc.z
    go_wp2_with (go_at_call 6; refine (HST.out _ _ _ HC1.out.q1 HC1.out.q2 HC1.out.fx.shapes).mono ?_; rintro e w2 ⟨vR, vM, rfl, hR, hM, hok, hb2⟩; obtain ⟨a5, k5, hvR⟩ := slice_len hR; obtain ⟨a6, k6, hvM⟩ := slice_len hM; subst hvR hvM; have HR := hid hR; have HM := hid hM; have HOK := hid hok; clear hR hM hok)
    go_meet
    have hA := stA (stA (st0 w2) (.cells #[.int .u16 (y.c.r 0), .int .u16 (y.c.r 1), .int .u16 (y.c.r 2), .int .u16 (y.c.r 3), .int .u16 (y.c.r 4), .int .u16 (y.c.r 5), .int .u16 (y.c.r 6), .int .u16 (y.c.r 7), .int .u16 y.c.PC, .bool y.c.Z, .bool y.c.N, .bool y.c.C, .bool y.c.V, .bool y.c.May, .bool y.c.Waits] 25)) (.cells #[.slice a5 rom.length k5, .slice a6 y.s.length k6] 28)
    exact ⟨w2.heap.size, w2.heap.size + 1, a5, k5, a6, k6, rfl, rfl, rfl, rfl, HOK.out, (HC1.out.kept hb2).kept hA, (Cat.new w2 y.c _ rfl).over _, Sat.new _ _ _ _ (by simp), HR.out.kept hA, HM.out.kept hA⟩
  case rest =>
  obtain ⟨bd, bu, a5, k5, a6, k6, rfl, rfl, rfl, rfl, hyok, hC2⟩ := hcut
  have HC2 := hid hC2
  have HYO := hid hyok
  clear hC2 HC1 hyok
  have hk1 := fun W => chk_any a1 a2 rom.length ram.length k1 k2 W
  have hk2 := fun W => checkSp_any a1 a2 rom.length ram.length k1 k2 W
  rw [if_neg (show ¬ (1024 < rom.length ∨ 256 < ram.length) by omega)] at hk1 hk2
  have HK1 := hid hk1
  have HK2 := hid hk2
  clear hk1 hk2
  go_upto_region 3 with fail
  go_cut [48] (fun b W => b = .bool false ∧ Cs2 w bo bd bu c (.slice a1 rom.length k1) (.slice a2 ram.length k2) (.slice a3 rom.length k3) (.slice a4 ram.length k4) rom ram y.c (.slice a5 rom.length k5) (.slice a6 y.s.length k6) rom y.s W)
  case first =>
    go_region_held3 (fun w' => w'.cell? ⟨w.heap.size, 0, none⟩ = some (.int .u16 (c.r 0)) ∧ w'.cell? ⟨w.heap.size, 1, none⟩ = some (.int .u16 (c.r 1)) ∧ w'.cell? ⟨w.heap.size, 2, none⟩ = some (.int .u16 (c.r 2)) ∧ w'.cell? ⟨w.heap.size, 3, none⟩ = some (.int .u16 (c.r 3)) ∧ w'.cell? ⟨w.heap.size, 4, none⟩ = some (.int .u16 (c.r 4)) ∧ w'.cell? ⟨w.heap.size, 5, none⟩ = some (.int .u16 (c.r 5)) ∧ w'.cell? ⟨w.heap.size, 6, none⟩ = some (.int .u16 (c.r 6)) ∧ w'.cell? ⟨w.heap.size, 7, none⟩ = some (.int .u16 (c.r 7)) ∧ w'.cell? ⟨w.heap.size, 8, none⟩ = some (.int .u16 c.PC) ∧ w'.cell? ⟨w.heap.size, 9, none⟩ = some (.bool c.Z) ∧ w'.cell? ⟨w.heap.size, 10, none⟩ = some (.bool c.N) ∧ w'.cell? ⟨w.heap.size, 11, none⟩ = some (.bool c.C) ∧ w'.cell? ⟨w.heap.size, 12, none⟩ = some (.bool c.V) ∧ w'.cell? ⟨w.heap.size, 13, none⟩ = some (.bool c.May) ∧ w'.cell? ⟨w.heap.size, 14, none⟩ = some (.bool c.Waits) ∧ w'.cell? ⟨w.heap.size + 1, 0, none⟩ = some (.slice a1 rom.length k1) ∧ w'.cell? ⟨w.heap.size + 1, 1, none⟩ = some (.slice a2 ram.length k2) ∧ w'.cell? ⟨bo, 0, none⟩ = some (.slice a3 rom.length k3) ∧ w'.cell? ⟨bo, 1, none⟩ = some (.slice a4 ram.length k4) ∧ Cs2 w bo bd bu c (.slice a1 rom.length k1) (.slice a2 ram.length k2) (.slice a3 rom.length k3) (.slice a4 ram.length k4) rom ram y.c (.slice a5 rom.length k5) (.slice a6 y.s.length k6) rom y.s w')
      (first
        | with_reducible exact cs2all HC2.out
        | with_reducible exact cs2all HC2.out.drew
        | with_reducible exact cs2keep (by assumption) (by assumption)
        | (go_keep; done))
      (first
        | (go_at_call 7; refine (stepped_any _ HC2.out.drew.fx.shapes).mono ?_; rintro e w3 ⟨rfl, hb3⟩; have C3 := hid (HC2.out.drew.kept hb3))
        | (go_at_call 8; refine (HK1.out _).mono ?_; rintro e w4 ⟨rfl, hb4⟩)
        | (go_at_call 9; refine (HK2.out _).mono ?_; rintro e w5 ⟨rfl, hb5⟩)
        | (go_at_call 10; refine (sign_any c _).mono ?_; rintro e w6 ⟨rfl, hb6⟩)
        | (go_at_call 11; refine (rsign_any c _).mono ?_; rintro e w7 ⟨rfl, hb7⟩; have C7 := hid ((((C3.out.kept hb4).kept hb5).kept hb6).kept hb7))
        | (go_at_call 12; refine (same_any _ _ _ _ rom ram _ C7.out.q1 C7.out.q2 C7.out.r1 C7.out.r2).mono ?_; rintro e w8 ⟨rfl, hb8⟩))
    have C8 := hid (C7.out.kept hb8)
    go_wp2_with fail
    go_meet
    exact ⟨rfl, C8.out⟩
  case rest =>
  obtain ⟨rfl, hC2⟩ := hcut
  clear HC2
  have HC2 := hid hC2
  clear hC2
  have s0 := HC2.out.ss.c0
  have s1 := HC2.out.ss.c1
  have hfew : rom.length ≤ 1024 ∧ ram.length ≤ 256 := ⟨hl1, hl2⟩
  go_upto_region 8 with (go_at_call 9; refine (HK2.out _).mono ?_; rintro e w4 ⟨rfl, hb4⟩; have HC4 := hid (HC2.out.kept hb4); have z0 := HC4.out.ss.c0; have z1 := HC4.out.ss.c1; clear hb4)
  go_cut [13] (fun p W => ∃ bx aR kR aM kM, p = .pointer (some ⟨bx, 0, none⟩) ∧ X8 w4 bx (.slice aR rom.length kR) (.slice aM ram.length kM) rom ram W)
  case first =>
    go_wp2_with (go_at_call 5; refine (own_any _ _ rom ram _ HC4.out.r1 HC4.out.r2 (by omega) (by omega)).mono ?_; rintro e w5 ⟨vR, vM, rfl, hcop, hb5⟩; obtain ⟨aR, kR, hvR⟩ := own_slice hcop.1; obtain ⟨aM, kM, hvM⟩ := own_slice hcop.2.1; subst hvR hvM; have HCp := hid hcop; clear hcop)
    go_meet
    exact ⟨w5.heap.size, aR, kR, aM, kM, rfl, stA hb5 _, heap_alloc_new w5 _, ⟨own_kept HCp.out.1 (stA (st0 w5) _), own_kept HCp.out.2.1 (stA (st0 w5) _), HCp.out.2.2⟩, hb5.size, fun k hk => Nat.ne_of_lt (HCp.out.2.1.lt k hk).2⟩
  case rest =>
  obtain ⟨bx, aR, kR, aM, kM, rfl, hX⟩ := hcut
  have HX := hid hX
  clear hX s0 s1 z0 z1 HC2
  go_upto_region 9 with fail
  go_cut [14, 15] (fun p n W => ∃ bw bs, p = .pointer (some ⟨bw, 0, none⟩) ∧ n = .int .i64 y.n ∧ Below w4.heap.size w4 W ∧ Cat W bw y.c ∧ SpQ w4.heap.size bx bs (.slice aR rom.length kR) (.slice aM ram.length kM) rom W y.s)
  case first =>
    have K0 := hid ((HC4.out.kept HX.out.lo).cc.all)
    have K1 := hid ((HC4.out.kept HX.out.lo.drew).cc.all)
    have K1a := hid (fun o => ((HC4.out.kept (stA HX.out.lo o).drew).cc.all))
    have HFx := hid HC4.out.fx
    go_region_held3 (fun w' => w'.cell? ⟨w.heap.size, 0, none⟩ = some (.int .u16 (c.r 0)) ∧ w'.cell? ⟨w.heap.size, 1, none⟩ = some (.int .u16 (c.r 1)) ∧ w'.cell? ⟨w.heap.size, 2, none⟩ = some (.int .u16 (c.r 2)) ∧ w'.cell? ⟨w.heap.size, 3, none⟩ = some (.int .u16 (c.r 3)) ∧ w'.cell? ⟨w.heap.size, 4, none⟩ = some (.int .u16 (c.r 4)) ∧ w'.cell? ⟨w.heap.size, 5, none⟩ = some (.int .u16 (c.r 5)) ∧ w'.cell? ⟨w.heap.size, 6, none⟩ = some (.int .u16 (c.r 6)) ∧ w'.cell? ⟨w.heap.size, 7, none⟩ = some (.int .u16 (c.r 7)) ∧ w'.cell? ⟨w.heap.size, 8, none⟩ = some (.int .u16 c.PC) ∧ w'.cell? ⟨w.heap.size, 9, none⟩ = some (.bool c.Z) ∧ w'.cell? ⟨w.heap.size, 10, none⟩ = some (.bool c.N) ∧ w'.cell? ⟨w.heap.size, 11, none⟩ = some (.bool c.C) ∧ w'.cell? ⟨w.heap.size, 12, none⟩ = some (.bool c.V) ∧ w'.cell? ⟨w.heap.size, 13, none⟩ = some (.bool c.May) ∧ w'.cell? ⟨w.heap.size, 14, none⟩ = some (.bool c.Waits))
      (first
        | with_reducible exact K0.out
        | with_reducible exact K1.out
        | with_reducible exact K10.out
        | with_reducible exact K11.out
        | with_reducible exact K12.out _
        | with_reducible exact K1a.out _
        | with_reducible exact K10a.out _
        | (rw [nest15]; with_reducible exact K13.out)
        | (rw [nest15]; with_reducible exact K14.out)
        | (go_keep; done))
      (first
        | (go_at_call 14; refine (spaceMem_any bx _).mono ?_; rintro e w10 ⟨rfl, hptr, hb10⟩; have HB10 : Hid (Below wc.heap.size wc w10) := (by first | exact stp (st0 wc).drew hb10 | exact stp (stA (st0 wc).drew _) hb10 | exact stp (stA (st0 wc) _).drew hb10); have HQ10 := hid ((HX.out.kept (by first | exact (st0 wc).drew | exact (stA (st0 wc).drew _) | exact (stA (st0 wc) _).drew)).sp HFx.out hfew hptr hb10); have K10 := hid ((HC4.out.kept (stp HX.out.lo HB10.out)).cc.all); have K10a := hid (fun o => ((HC4.out.kept (stp HX.out.lo HB10.out)).cc.over o).all); (try (have hB10 := (hb10.block wc.heap.size (by simp)).trans (heap_alloc_new wc _))); clear hptr hb10)
        | (go_at_call 13; refine (rstep_any (space_qs w4.heap.size bx _ (.slice aR rom.length kR) (.slice aM ram.length kM) rom) c hc _ ram ?_ r).mono ?_; (first | exact HQ10.out | exact HQ10.out.kept (stA (st0 w10) _) | (have hq := HQ10.out; simp at hq; exact hq)); rw [HY.out]; rintro e w11 ⟨rfl, hI, hMv⟩; have HI := hid hI; have HMv := hid hMv; have HB11 : Hid (Below w4.heap.size w4 w11) := (by first | exact (stp HX.out.lo HB10.out).trans hMv.below | exact (stA (stp HX.out.lo HB10.out) _).trans hMv.below); have K11 := hid ((HC4.out.kept HB11.out).cc.all); have K12 := hid (fun o => ((HC4.out.kept HB11.out).cc.over o).all); have K13 := hid ((HC4.out.kept (bl_sets (Nat.le_trans HX.out.lo.size HB10.out.size) (c15 y.c) 0 HB11.out)).cc.all); have K14 := hid ((HC4.out.kept (bl_sets HX.out.lo.size (c15 y.c) 0 HB11.out)).cc.all); (try (have hB11 := (HX.out.out HFx.out hMv (b := wc.heap.size) (Nat.le_refl _) (by simp) (Nat.lt_of_lt_of_le (Array.getElem?_eq_some_iff.1 hB10).1 (by simp))).trans hB10; have HB14 := hid hB11; obtain ⟨n1, n2, n3⟩ := boxN hB11)); (try (have hC11 := (HX.out.out HFx.out hMv (b := w10.heap.size) HB10.out.size (Nat.ne_of_gt HQ10.out.p.pcell.2) (by simp)).trans (heap_alloc_new w10 _); have HC14 := hid hC11; obtain ⟨n4, n5, n6⟩ := boxN hC11)); clear hI hMv))
    all_goals (go_wp2_with fail; go_meet)
    all_goals first
      | (refine ⟨w11.heap.size, wc.heap.size, ?_, rfl, ?_, ?_, ?_⟩
         · with_reducible rfl
         · exact stA HB11.out _
         · exact Cat.new w11 y.c _ rfl
         · exact HI.out.kept (stA (st0 w11) _))
      | (refine ⟨w10.heap.size, wc.heap.size, ?_, rfl, ?_, ?_, ?_⟩
         · with_reducible rfl
         · rw [nest15]; exact bl_sets (Nat.le_trans HX.out.lo.size HB10.out.size) (c15 y.c) 0 HB11.out
         · rw [nest15]; exact cat_set y.c HC14.out
         · rw [nest15]; exact HI.out.sets (HX.out.free HFx.out HB10.out.size (Nat.ne_of_gt HQ10.out.p.pcell.2)) 0 (c15 y.c))
      | (refine ⟨wc.heap.size, wc.heap.size + 1, ?_, rfl, ?_, ?_, ?_⟩
         · with_reducible rfl
         · rw [nest15]; exact bl_sets HX.out.lo.size (c15 y.c) 0 HB11.out
         · rw [nest15]; exact cat_set y.c HB14.out
         · rw [nest15]; exact HI.out.sets (HX.out.free HFx.out (Nat.le_refl _) (Nat.ne_of_lt (Nat.lt_succ_self _))) 0 (c15 y.c))
  case rest =>
  obtain ⟨bw, bs, rfl, rfl, hlo, hcat, hsp⟩ := hcut
  have HC5 := hid (HC4.out.kept hlo)
  have HW := hid hcat
  have u0 := HC5.out.uu.c0
  have u1 := HC5.out.uu.c1
  obtain ⟨t0, t1, t2⟩ := hsp.p.sp.cells
  have HS1 := hid (slice_of_own hsp.p.sp.hrom)
  have HS2 := hid (slice_of_own hsp.p.sp.hram)
  have heq := eq_cpu y.c
  have hn : (y.n == y.n) = true := by simp
  clear hlo hcat hsp HC4 HX
  go_wp2_with (first
    | (refine ldGc (by rfl) (.tmp 8) rfl bd y.c rfl HC5.out.dd ?_)
    | (refine ldGc (by rfl) (.tmp 14) rfl bw y.c rfl HW.out ?_)
    | (go_at_call 12; refine (same_any _ _ _ _ rom y.s _ HC5.out.u1 HC5.out.u2 HS1.out HS2.out).mono ?_; rintro e w12 ⟨rfl, hb12⟩))
  go_ret
  exact ⟨rfl, stp HC5.out.low hb12⟩
end Go.Proofs.YtombboeonffejaaGreatDoor
