/-
  For every space, every number of steps and all rings the law CpuRun of the program returns true and leaves its arguments as they were; no condition but the row's own.
-/
import Derived.Test.YtombboeonffejaaGreatDoorZsR
import Derived.Deep.CutBlock
namespace Go.Proofs.YtombboeonffejaaGreatDoor
open Go.ChangeShapes Go.WideShapes Go.ChangeAt Go.RowKit
set_option linter.unusedVariables false

theorem runTo_okk (v1 v2 v3 : Value) (rom ram : List UInt8) (l : List Int) (w : World) (h1 : sliceAt w v1 rom) (h2 : sliceAt w v2 ram) (h3 : intsAt w v3 l) (hl3 : l.length ≤ maxLen) (hl1 : rom.length ≤ 1024) (hl2 : ram.length ≤ 256) (hs : shapesAt w) (k : Nat) (hk : k ≤ 500) : (runTo (spc rom) ram (rg l) k).1.ok := by
  obtain ⟨e, w', fr, ⟨vR, vM, _, _, _, hok, _⟩, _⟩ := run_ok v1 v2 v3 rom ram l k hk w h1 h2 h3 hl3 hl1 hl2 hs []
  exact hok
set_option maxRecDepth 100000 in
set_option maxHeartbeats 12800000 in
theorem cpuRun_ok (v1 v2 v3 : Value) (rom ram : List UInt8) (l : List Int) (N : Nat) (hN : N ≤ 500) (w : World) (h1 : sliceAt w v1 rom) (h2 : sliceAt w v2 ram) (h3 : intsAt w v3 l) (hl3 : l.length ≤ maxLen) (hl1 : rom.length ≤ 1024) (hl2 : ram.length ≤ 256) (hF : Facts w) :
    Calls Tryz.prog 4 #[.agg #[v1, v2], .int .i64 N, v3] w fun e w' => e = .returned (.bool true) ∧ Below w.heap.size w w' := by
  have HOK := hid (fun k hk => runTo_okk v1 v2 v3 rom ram l w h1 h2 h3 hl3 hl1 hl2 hF.shapes k hk)
  obtain ⟨a1, k1, x1⟩ := slice_len h1
  obtain ⟨a2, k2, x2⟩ := slice_len h2
  subst x1 x2
  have H1 := hid h1
  have H2 := hid h2
  have H3 := hid h3
  have HF := hid hF
  have hRun := fun W s1 s2 s3 ss => run_ok (.slice a1 rom.length k1) (.slice a2 ram.length k2) v3 rom ram l N hN W s1 s2 s3 hl3 hl1 hl2 ss
  obtain ⟨y, hy⟩ : ∃ y, runTo (spc rom) ram (rg l) N = y := ⟨_, rfl⟩
  rw [hy] at hRun
  have HRun := hid hRun
  have HY := hid hy
  have hk2 := fun W => checkSp_any a1 a2 rom.length ram.length k1 k2 W
  rw [if_neg (show ¬ (1024 < rom.length ∨ 256 < ram.length) by omega)] at hk2
  have HK2 := hid hk2
  have hfew : rom.length ≤ 1024 ∧ ram.length ≤ 256 := ⟨hl1, hl2⟩
  have hn0 : ¬ (N : Int) < 0 := by omega
  have hn5 : ¬ (500 : Int) < (N : Int) := by omega
  clear h1 h2 h3 hF hRun hk2 hy
  go_enter Tryz.func4, Tryz.ntmps4
  go_upto_region 2 with (go_at_call 15; refine (HRun.out _ (H1.out.kept (stA (st0 w) _)) (H2.out.kept (stA (st0 w) _)) (H3.out.kept (stA (st0 w) _)) (HF.out.kept (stA (st0 w) _)).shapes).mono ?_; rintro e w1 ⟨vR, vM, rfl, hR, hM, hok, hb1⟩; obtain ⟨a5, k5, hvR⟩ := slice_len hR; obtain ⟨a6, k6, hvM⟩ := slice_len hM; subst hvR hvM; have HRr := hid hR; have HMm := hid hM; clear hR hM hok)
  have hA := stA (stA (st0 w1) (.cells #[.int .u16 (y.1.r 0), .int .u16 (y.1.r 1), .int .u16 (y.1.r 2), .int .u16 (y.1.r 3), .int .u16 (y.1.r 4), .int .u16 (y.1.r 5), .int .u16 (y.1.r 6), .int .u16 (y.1.r 7), .int .u16 y.1.PC, .bool y.1.Z, .bool y.1.N, .bool y.1.C, .bool y.1.V, .bool y.1.May, .bool y.1.Waits] 25)) (.cells #[.slice a5 rom.length k5, .slice a6 y.2.1.length k6] 28)
  have hL := stp (stp (stA (st0 w) (.cells #[.slice a1 rom.length k1, .slice a2 ram.length k2] 28)) hb1) hA
  refine Pl.cutW' (fun W => Rb w w1.heap.size (w1.heap.size + 1) (.slice a1 rom.length k1) (.slice a2 ram.length k2) rom ram y.1 (.slice a5 rom.length k5) (.slice a6 y.2.1.length k6) rom y.2.1 W) ⟨hL, ((Sat.new w _ _ _ rfl).kept hb1).kept hA, (Cat.new w1 y.1 _ rfl).over _, Sat.new _ _ _ _ (by simp), H1.out.kept hL, H2.out.kept hL, HRr.out.kept hA, HMm.out.kept hA, HF.out.kept hL⟩ ?_
  rintro W hR
  have HR := hid hR
  have s0 := HR.out.ss.c0
  have s1 := HR.out.ss.c1
  clear hR hA hL hb1 HRr HMm
  go_upto_region 7 with (first
    | (go_at_call 9; refine (HK2.out _).mono ?_; rintro e w3 ⟨rfl, hb3⟩; have HR3 := hid (HR.out.kept hb3); clear hb3)
    | (go_at_call 7; refine (stepped_any _ HR3.out.fx.shapes).mono ?_; rintro e w4 ⟨rfl, hb4⟩; have HR4 := hid (HR3.out.kept hb4); have z0 := HR4.out.ss.c0; have z1 := HR4.out.ss.c1; clear hb4))
  go_cut [12] (fun p W => ∃ bx aR kR aM kM, p = .pointer (some ⟨bx, 0, none⟩) ∧ X8 w4 bx (.slice aR rom.length kR) (.slice aM ram.length kM) rom ram W)
  case first =>
    go_wp2_with (go_at_call 5; refine (own_any _ _ rom ram _ HR4.out.r1 HR4.out.r2 (by omega) (by omega)).mono ?_; rintro e w5 ⟨vR, vM, rfl, hcop, hb5⟩; obtain ⟨aR, kR, hvR⟩ := own_slice hcop.1; obtain ⟨aM, kM, hvM⟩ := own_slice hcop.2.1; subst hvR hvM; have HCp := hid hcop; clear hcop)
    go_meet
    exact ⟨w5.heap.size, aR, kR, aM, kM, rfl, stA hb5 _, heap_alloc_new w5 _, ⟨own_kept HCp.out.1 (stA (st0 w5) _), own_kept HCp.out.2.1 (stA (st0 w5) _), HCp.out.2.2⟩, hb5.size, fun k hk => Nat.ne_of_lt (HCp.out.2.1.lt k hk).2⟩
  case rest =>
  obtain ⟨bx, aR, kR, aM, kM, rfl, hX⟩ := hcut
  have HX := hid hX
  clear hX s0 s1 z0 z1 HR HR3
  obtain ⟨c0, hc0⟩ : ∃ c0, (C.begin' (spc rom) ram).1 = c0 := ⟨_, rfl⟩
  have hbs : (C.begin' (spc rom) ram).2 = ram := rfl
  have HBg := hid (fun bs W hW => rbegin_any (space_qs w4.heap.size bx bs (.slice aR rom.length kR) (.slice aM ram.length kM) rom) W ram hW)
  rw [hc0, hbs] at HBg
  have HC0 := hid hc0
  clear hc0 hbs
  have HFx := hid HR4.out.fx
  go_upto_block 0 with (first
    | (go_at_call 14; refine (spaceMem_any bx _).mono ?_; rintro e w10 ⟨rfl, hptr, hb10⟩; have HQ10 := hid (HX.out.sp HFx.out hfew hptr hb10); have HB10 := hid hb10; clear hptr hb10)
    | (go_at_call 16; refine (HBg.out _ _ (HQ10.out.kept (stA (st0 w10) _))).mono ?_; rintro e w11 ⟨rfl, hI, hM⟩; have HI := hid hI; have HMv := hid hM; clear hI hM))
  have hz10 := HB10.out.size
  have hz11 : w10.heap.size < w11.heap.size := Nat.lt_of_lt_of_le (by simp) HMv.out.size
  have hpl := HQ10.out.p.pcell.2
  have hmb := (HX.out.out HFx.out HMv.out (b := w10.heap.size) hz10 (Nat.ne_of_gt hpl) (by simp)).trans (heap_alloc_new w10 _)
  refine Pl.cutW' (fun W => RL w4 bx w10.heap.size w11.heap.size wc.heap.size (.slice aR rom.length kR) (.slice aM ram.length kM) rom c0 ram W) ⟨stA ((stA (stp HX.out.lo HB10.out) _).trans HMv.out.below) _, HI.out.kept (stA (st0 w11) _), (heap_alloc_old w11 _ hz11).trans hmb, Cat.new w11 c0 _ rfl, fun o => Lib.frozen_of_heap (heap_alloc_new w11 _) o, HX.out.free HFx.out hz10 (Nat.ne_of_gt hpl), HX.out.free HFx.out (by omega) (by omega), by omega, Nat.le_trans HX.out.lo.size hz10, Nat.le_trans HX.out.lo.size (by omega)⟩ ?_
  rintro W5 hRL
  have HRL := hid hRL
  clear hRL hmb hpl HMv HI HQ10 HBg
  obtain ⟨bm, hbm⟩ : ∃ b, b = w10.heap.size := ⟨_, rfl⟩
  obtain ⟨bw, hbw⟩ : ∃ b, b = w11.heap.size := ⟨_, rfl⟩
  obtain ⟨bs, hbs⟩ : ∃ b, b = wc.heap.size := ⟨_, rfl⟩
  rw [← hbm, ← hbw, ← hbs] at HRL
  rw [← hbm, ← hbw]
  clear hz10 hz11 hbm hbw hbs HB10 HX
  go_cut [15, 72] (fun all _ W => all = .int .i64 y.2.2 ∧ RL w4 bx bm bw bs (.slice aR rom.length kR) (.slice aM ram.length kM) rom y.1 y.2.1 W)
  case first =>
    go_wp2_with fail
    go_loopw [15, 72] (fun all i W => ∃ k : Nat, k ≤ N ∧ i = .int .i64 k ∧ all = .int .i64 (runTo (spc rom) ram (rg l) k).2.2 ∧ RL w4 bx bm bw bs (.slice aR rom.length kR) (.slice aM ram.length kM) rom (runTo (spc rom) ram (rg l) k).1 (runTo (spc rom) ram (rg l) k).2.1 W) (fun _ i _ => N - (intOf i).toNat)
    case atStart => exact ⟨0, Nat.zero_le _, rfl, rfl, by show RL _ _ _ _ _ _ _ _ (C.begin' (spc rom) ram).1 ram _; rw [HC0.out]; exact HRL.out⟩
    case round =>
      clear HRL
      obtain ⟨k, hk, rfl, rfl, hRL⟩ := hrel
      by_cases hkN : k < N
      · have hkN' : (k : Int) < N := by omega
        have hqok := HOK.out k (by omega)
        have hnk := runTo_n rom ram (rg l) (k + 1)
        have hnk0 := runTo_n rom ram (rg l) k
        obtain ⟨q, hq⟩ : ∃ q, runTo (spc rom) ram (rg l) k = q := ⟨_, rfl⟩
        have hsucc : runTo (spc rom) ram (rg l) (k + 1) = ((C.step (spc rom) q.1 q.2.1 (rg l k)).c, (C.step (spc rom) q.1 q.2.1 (rg l k)).s, q.2.2 + (C.step (spc rom) q.1 q.2.1 (rg l k)).n) := by rw [runTo, hq]
        obtain ⟨z, hz⟩ : ∃ z, C.step (spc rom) q.1 q.2.1 (rg l k) = z := ⟨_, rfl⟩
        rw [hz] at hsucc
        rw [hsucc] at hnk
        rw [hq] at hRL hqok hnk0 ⊢
        have hwr : IntKind.i64.wrap (q.2.2 + z.n) = q.2.2 + z.n := by rw [IntKind.wrap_i64]; simp only at hnk; omega
        have HSuc := hid hsucc
        have HZ := hid hz
        have HQ := hid hqok
        have HRL := hid hRL
        clear hsucc hz hqok hq hRL hnk hnk0
        go_upto_region 13 with fail
        go_cut [17, 18] (fun p n W => ∃ bd, p = .pointer (some ⟨bd, 0, none⟩) ∧ n = .int .i64 z.n ∧ RL w4 bx bm bw bs (.slice aR rom.length kR) (.slice aM ram.length kM) rom q.1 z.s W ∧ Cat W bd z.c)
        case first =>
          have KA := hid HRL.out.cells
          have KB := hid (HRL.out.kept (st0 wr).drew).cells
          have KC := hid (fun o => (HRL.out.kept (stA (st0 wr) o).drew).cells)
          have HI3 := hid (fun W (hb : Below wr.heap.size wr W) => containsInt v3 l k W (H3.out.kept (stp HR4.out.low (stp HRL.out.lo hb))) hl3)
          go_region_held3 (fun w' => w'.cell? ⟨bw, 0, none⟩ = some (.int .u16 (q.1.r 0)) ∧ w'.cell? ⟨bw, 1, none⟩ = some (.int .u16 (q.1.r 1)) ∧ w'.cell? ⟨bw, 2, none⟩ = some (.int .u16 (q.1.r 2)) ∧ w'.cell? ⟨bw, 3, none⟩ = some (.int .u16 (q.1.r 3)) ∧ w'.cell? ⟨bw, 4, none⟩ = some (.int .u16 (q.1.r 4)) ∧ w'.cell? ⟨bw, 5, none⟩ = some (.int .u16 (q.1.r 5)) ∧ w'.cell? ⟨bw, 6, none⟩ = some (.int .u16 (q.1.r 6)) ∧ w'.cell? ⟨bw, 7, none⟩ = some (.int .u16 (q.1.r 7)) ∧ w'.cell? ⟨bw, 8, none⟩ = some (.int .u16 q.1.PC) ∧ w'.cell? ⟨bw, 9, none⟩ = some (.bool q.1.Z) ∧ w'.cell? ⟨bw, 10, none⟩ = some (.bool q.1.N) ∧ w'.cell? ⟨bw, 11, none⟩ = some (.bool q.1.C) ∧ w'.cell? ⟨bw, 12, none⟩ = some (.bool q.1.V) ∧ w'.cell? ⟨bw, 13, none⟩ = some (.bool q.1.May) ∧ w'.cell? ⟨bw, 14, none⟩ = some (.bool q.1.Waits) ∧ w'.cell? ⟨bm, 0, none⟩ = some (gv bs) ∧ w'.cell? ⟨bm, 1, none⟩ = some (pv bs))
            (first
              | with_reducible exact KA.out
              | with_reducible exact KB.out
              | with_reducible exact KC.out _
              | with_reducible exact K11.out
              | with_reducible exact K12.out _
              | (rw [nest15]; with_reducible exact K13.out))
            (first
              | (go_at_call 17; refine (HI3.out _ ?_).mono ?_; (first | exact (st0 wr).drew | exact (stA (st0 wr) _).drew); rintro e wq ⟨rfl, rfl⟩)
              | (go_at_call 13; refine (rstep_any (space_qs w4.heap.size bx bs (.slice aR rom.length kR) (.slice aM ram.length kM) rom) q.1 HQ.out _ q.2.1 ?_ (rg l k)).mono ?_; (first | exact (HRL.out.kept (st0 wr).drew).sp | exact (HRL.out.kept (stA (st0 wr) _).drew).sp); rw [HZ.out]; rintro e w11 ⟨rfl, hI, hMv⟩; have HL11 : Hid (RL w4 bx bm bw bs (.slice aR rom.length kR) (.slice aM ram.length kM) rom q.1 z.s w11) := (by first | exact (HRL.out.kept (st0 wr).drew).step hI hMv | exact (HRL.out.kept (stA (st0 wr) _).drew).step hI hMv); have K11 := hid HL11.out.cells; have K12 := hid (fun o => (HL11.out.kept (stA (st0 w11) o)).cells); (try (have hB11 := (hMv.block wr.heap.size (by simp) (fun ht => absurd (HRL.out.sp.lt _ ht) (Nat.lt_irrefl _))).trans (heap_alloc_new wr _); have HB14 := hid hB11; have HF13 := hid (HL11.out.far (b := wr.heap.size) HRL.out.lo.size (fun ht => absurd (HRL.out.sp.lt _ ht) (Nat.lt_irrefl _)) (Nat.ne_of_gt HRL.out.mz) (Nat.ne_of_gt HRL.out.wc.z) (c15 z.c)); have K13 := hid HF13.out.cells; obtain ⟨n1, n2, n3⟩ := boxN hB11)); clear hI hMv))
          all_goals (go_wp2_with fail; go_meet)
          all_goals first
            | (refine ⟨w11.heap.size, ?_, rfl, ?_, ?_⟩
               · with_reducible rfl
               · exact HL11.out.kept (stA (st0 w11) _)
               · exact Cat.new w11 z.c _ rfl)
            | (refine ⟨wr.heap.size, ?_, rfl, ?_, ?_⟩
               · with_reducible rfl
               · rw [nest15]; exact HF13.out
               · rw [nest15]; exact cat_set z.c HB14.out)
        case rest =>
        obtain ⟨bd, rfl, rfl, hRL2, hcd⟩ := hcut
        have HRL2 := hid hRL2
        have HCd := hid hcd
        clear hRL2 hcd HRL
        go_wp2_with (first
          | (refine ldc rfl _ rfl bd z.c rfl HCd.out ?_)
          | (refine stc rfl _ _ rfl bw q.1 z.c rfl rfl HRL2.out.wc HRL2.out.wf ?_; rintro w14 hw14; have HW14 := hid hw14; clear hw14))
        refine ⟨⟨k + 1, hkN, by go_num, by rw [HSuc.out], ?_⟩, by simp [intOf]; omega⟩
        rw [HSuc.out, HW14.out]
        exact HRL2.out.put z.c
      · have hkn : ¬ (k : Int) < N := by omega
        have ek : k = N := by omega
        subst ek
        rw [HY.out] at hRL ⊢
        have HRL := hid hRL
        clear hRL
        go_wp2
        go_meet
        exact ⟨rfl, HRL.out⟩
  case rest =>
  obtain ⟨rfl, hRL⟩ := hcut
  have HRL2 := hid hRL
  have HR5 := hid (HR4.out.kept hRL.lo)
  have u0 := HR5.out.uu.c0
  have u1 := HR5.out.uu.c1
  obtain ⟨t0, t1, t2⟩ := hRL.sp.p.sp.cells
  have HS1 := hid (slice_of_own hRL.sp.p.sp.hrom)
  have HS2 := hid (slice_of_own hRL.sp.p.sp.hram)
  have heq := eq_cpu y.1
  have hnn : (y.2.2 == y.2.2) = true := by simp
  clear hRL HRL
  go_wp2_with (first
    | (refine ldGc (by rfl) (.tmp 7) rfl w1.heap.size y.1 rfl HR5.out.cc ?_)
    | (refine ldGc (by rfl) (.tmp 14) rfl bw y.1 rfl HRL2.out.wc ?_)
    | (go_at_call 12; refine (same_any _ _ _ _ rom y.2.1 _ HR5.out.u1 HR5.out.u2 HS1.out HS2.out).mono ?_; rintro e w15 ⟨rfl, hb15⟩))
  go_ret
  exact ⟨rfl, stp HR5.out.low hb15⟩
set_option maxRecDepth 100000 in
theorem cpuRun_walk : CpuRunWalk := by
  intro H enc W base v0 v1 v2 d0 d1 d2 p0 p1 p2 hF k0 t0 k1 t1 k2 t2
  obtain ⟨u1, u2, rom, ram, rfl, h1, h2, g1, g2⟩ := open_space k0 t0
  obtain ⟨n, rfl, _, _, wn⟩ := open_int Tryz.underlying3 k1 t1
  obtain ⟨a, len, cap, rfl⟩ := okWide_slice Tryz.underlying46 k2
  obtain ⟨fuel, hf⟩ := t2
  obtain ⟨l, h3, hl3⟩ := ints_of (v := .slice a len cap) Tryz.underlying46 (by simpa [Value.cells] using hf)
  by_cases hl : 1024 < rom.length ∨ 256 < ram.length
  · exact cpuRun_space u1 u2 _ rom ram n W h1 h2 hl hF
  · by_cases hn : n < 0
    · exact cpuRun_neg u1 u2 _ rom ram n W h1 h2 hl hn hF
    · by_cases hm : 500 < n
      · exact cpuRun_many u1 u2 _ rom ram n W h1 h2 hl hm hF
      · obtain ⟨N, rfl⟩ := Int.eq_ofNat_of_zero_le (Int.not_lt.1 hn)
        exact cpuRun_ok u1 u2 _ rom ram l N (by omega) W h1 h2 h3 hl3 (by omega) (by omega) hF
theorem cpuRun_holds : Rows.CpuRunCardSaid := cpuRun_card cpuRun_walk
end Go.Proofs.YtombboeonffejaaGreatDoor
