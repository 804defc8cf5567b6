/-
  The Go text of the law ToneRuns returns true where clocks are too many.
-/
import Derived.Test.YtjmmbbehjklhgaaToneRunsBad1
namespace Go.Proofs.Ytjmmbbehjklhgaa
open Go.ChangeShapes Go.WideShapes Go.ChangeAt Go.RowKit
set_option linter.unusedVariables false

theorem eq_zeroV3 (w : World) : (binOp .eql 24 (.agg (vcs ⟨0, 0, 0, false, 0⟩).toArray) (.agg #[.int .u16 0, .int .u16 0, .int .u8 0, .bool false, .int .u16 0])).run Try.prog w = .ok (.bool true) w := eq_voice ⟨0, 0, 0, false, 0⟩ w

set_option maxRecDepth 100000 in
set_option maxHeartbeats 6400000 in
theorem runs_n2_ok (v : Vc) (s : Sd) (n : Int) (w : World) (hv : v.ok) (h : s.ok) (hn : 20000 < n) (hww : 0 ≤ s.w ∧ s.w ≤ 15) :
    Calls Try.prog 3 #[(.agg #[.int .u16 v.p, .int .u16 v.c, .int .u8 v.l, .bool v.h, .int .u16 v.n]), (.agg #[.int .u16 s.a.p, .int .u16 s.a.c, .int .u8 s.a.l, .bool s.a.h, .int .u16 s.a.n, .int .u16 s.b.p, .int .u16 s.b.c, .int .u8 s.b.l, .bool s.b.h, .int .u16 s.b.n, .int .u16 s.c.p, .int .u16 s.c.c, .int .u8 s.c.l, .bool s.c.h, .int .u16 s.c.n, .int .i64 s.w]), .int .i64 n] w fun e w' => e = .returned (.bool true) ∧ Below w.heap.size w w' := by
  have HV := hid hv
  have HNB : Hid (¬ (0 ≤ n ∧ n ≤ 20000)) := by show ¬ (0 ≤ n ∧ n ≤ 20000); omega
  have hn0 : ¬ n < 0 := by omega
  have HF : Hid s.fit := ⟨h, hww⟩
  go_enter Try.func3, Try.ntmps3
  go_upto_region 1 with fail
  go_cut [7, 8] (fun px e W => ∃ bx, px = .pointer (some ⟨bx, 0, none⟩) ∧ e = .int .i64 3 ∧ R1 w bx v s ⟨0, 0, 0, false, 0⟩ W)
  case first =>
    refine Pl.cutW (fun W => Below w.heap.size w W ∧ Bx W w.heap.size (vcs v) ∧ Bx W (w.heap.size + 1) (scs s)) ⟨stA (stA (st0 w) _) _, (Bx.new w (vcs v) _ rfl).over _, Bx.new _ (scs s) _ (by simp)⟩ ?_
    rintro W ⟨hlow, hbv, hbs⟩
    have HLO := hid hlow
    have HBV := hid hbv
    have HBS := hid hbs
    clear hlow hbv hbs
    go_wp2_with (first
      | (refine wpList_load_mid rfl 24 _ rfl w.heap.size 0 rfl (vcs v) _ HBV.out.c Try.underlying24 rfl info_voice ?_)
      | (go_at_call 7; refine (run_bad v n _ HNB.out).mono ?_; rintro e w1 ⟨rfl, hb1⟩))
    go_meet
    exact ⟨w1.heap.size, rfl, rfl, stA (stp HLO.out hb1) _, (HBV.out.kept hb1).over _, (HBS.out.kept hb1).over _, Bx.new w1 (vcs ⟨0, 0, 0, false, 0⟩) 24 rfl, Nat.le_trans HBS.out.z hb1.size⟩
  case rest =>
  obtain ⟨bx, rfl, rfl, hR1⟩ := hcut
  have HR1 := hid hR1
  clear hR1
  go_upto_region 2 with fail
  go_cut [9, 10, 11] (fun vl po f W => ∃ la lc bo, vl = .slice la (([] : List UInt8)).length lc ∧ po = .pointer (some ⟨bo, 0, none⟩) ∧ f = .int .i64 3 ∧ R2 w bx bo v s ⟨0, 0, 0, false, 0⟩ zs (.slice la (([] : List UInt8)).length lc) (([] : List UInt8)) W)
  case first =>
    go_wp2_with (first
      | (refine wpList_load_mid rfl 27 _ rfl (w.heap.size + 1) 0 rfl (scs s) _ HR1.out.s.c Try.underlying27 rfl info_sound ?_)
      | (go_at_call 8; refine (samples_may s n _ HF.out HNB.out).mono ?_; rintro e w2 ⟨rfl, hb2⟩; have HSL : Hid (sliceAt w2 (.slice none 0 0) []) := Or.inl ⟨none, 0, rfl, rfl⟩))
    go_meet
    exact ⟨none, 0, w2.heap.size, rfl, rfl, rfl, (HR1.out.kept hb2).kept (stA (st0 w2) _), Bx.new w2 zs 27 rfl, HSL.out.kept (stA (st0 w2) _), Nat.le_trans HR1.out.s.z hb2.size, (fun k hk => by simp [Value.ownBlock] at hk)⟩
  case rest =>
  obtain ⟨la, lc, bo, rfl, rfl, rfl, hR2⟩ := hcut
  have HR2 := hid hR2
  have c15 := hR2.s.at 15 _ rfl
  have sz := hR2.s.z
  clear hR2 HR1
  go_upto_region 6 with fail
  go_cut [49] (fun c W => c = .bool false ∧ R2 w bx bo v s ⟨0, 0, 0, false, 0⟩ zs (.slice la (([] : List UInt8)).length lc) (([] : List UInt8)) W)
  case first =>
    clear c15 sz
    have hnv := neq_voice v.tick
    go_region_held3 (fun w' => w'.cell? ⟨w.heap.size, 0, none⟩ = some (.int .u16 v.p) ∧ w'.cell? ⟨w.heap.size, 1, none⟩ = some (.int .u16 v.c) ∧ w'.cell? ⟨w.heap.size, 2, none⟩ = some (.int .u8 v.l) ∧ w'.cell? ⟨w.heap.size, 3, none⟩ = some (.bool v.h) ∧ w'.cell? ⟨w.heap.size, 4, none⟩ = some (.int .u16 v.n) ∧ w'.cell? ⟨w.heap.size + 1, 0, none⟩ = some (.int .u16 s.a.p) ∧ w'.cell? ⟨w.heap.size + 1, 1, none⟩ = some (.int .u16 s.a.c) ∧ w'.cell? ⟨w.heap.size + 1, 2, none⟩ = some (.int .u8 s.a.l) ∧ w'.cell? ⟨w.heap.size + 1, 3, none⟩ = some (.bool s.a.h) ∧ w'.cell? ⟨w.heap.size + 1, 4, none⟩ = some (.int .u16 s.a.n) ∧ w'.cell? ⟨w.heap.size + 1, 5, none⟩ = some (.int .u16 s.b.p) ∧ w'.cell? ⟨w.heap.size + 1, 6, none⟩ = some (.int .u16 s.b.c) ∧ w'.cell? ⟨w.heap.size + 1, 7, none⟩ = some (.int .u8 s.b.l) ∧ w'.cell? ⟨w.heap.size + 1, 8, none⟩ = some (.bool s.b.h) ∧ w'.cell? ⟨w.heap.size + 1, 9, none⟩ = some (.int .u16 s.b.n) ∧ w'.cell? ⟨w.heap.size + 1, 10, none⟩ = some (.int .u16 s.c.p) ∧ w'.cell? ⟨w.heap.size + 1, 11, none⟩ = some (.int .u16 s.c.c) ∧ w'.cell? ⟨w.heap.size + 1, 12, none⟩ = some (.int .u8 s.c.l) ∧ w'.cell? ⟨w.heap.size + 1, 13, none⟩ = some (.bool s.c.h) ∧ w'.cell? ⟨w.heap.size + 1, 14, none⟩ = some (.int .u16 s.c.n) ∧ w'.cell? ⟨w.heap.size + 1, 15, none⟩ = some (.int .i64 s.w) ∧ R2 w bx bo v s ⟨0, 0, 0, false, 0⟩ zs (.slice la (([] : List UInt8)).length lc) (([] : List UInt8)) w')
      (first
        | with_reducible exact r2all HR2.out
        | with_reducible exact r2all HR2.out.drew
        | with_reducible exact r2keep (by assumption) (by assumption)
        | (go_keep; done))
      (first
        | (go_at_call 9; refine (sounded_any _).mono ?_; rintro e w3 ⟨rfl, hb3⟩)
        | (go_at_call 10; refine (tick_any v _ HV.out).mono ?_; rintro e w4 ⟨rfl, hb4⟩)
        | (go_at_call 11; refine (rtick_v v _ HV.out).mono ?_; rintro e w5 ⟨rfl, hb5⟩)
        | (go_at_call 12; refine (check_ok s _ HF.out.w).mono ?_; rintro e w6 ⟨rfl, hb6⟩))
    have HRW := hid (show R2 w bx bo v s ⟨0, 0, 0, false, 0⟩ zs (.slice la (([] : List UInt8)).length lc) (([] : List UInt8)) w6 by rename_i hh; exact hh.2.2.2.2.2.2.2.2.2.2.2.2.2.2.2.2.2.2.2.2.2)
    go_wp2_with fail
    go_meet
    exact ⟨rfl, HRW.out⟩
  case rest =>
  obtain ⟨rfl, hR3⟩ := hcut
  have HR3 := hid hR3
  clear hR3 HR2
  have hzz := eq_zeroL
  have hzv := eq_zeroV3
  go_wp2_with (first
    | (refine loadG (by rfl) 24 (.tmp 7) rfl bx 0 rfl (vcs ⟨0, 0, 0, false, 0⟩) _ HR3.out.x.c Try.underlying24 rfl info_voice ?_)
    | (refine loadG (by rfl) 27 (.tmp 10) rfl bo 0 rfl zs _ HR3.out.o.c Try.underlying27 rfl info_sound ?_))
  go_ret
  exact ⟨rfl, HR3.out.low⟩

set_option maxRecDepth 100000 in
set_option maxHeartbeats 6400000 in
theorem runs_n2_lo (v : Vc) (s : Sd) (n : Int) (w : World) (hv : v.ok) (h : s.ok) (hn : 20000 < n) (hww : s.w < 0) :
    Calls Try.prog 3 #[(.agg #[.int .u16 v.p, .int .u16 v.c, .int .u8 v.l, .bool v.h, .int .u16 v.n]), (.agg #[.int .u16 s.a.p, .int .u16 s.a.c, .int .u8 s.a.l, .bool s.a.h, .int .u16 s.a.n, .int .u16 s.b.p, .int .u16 s.b.c, .int .u8 s.b.l, .bool s.b.h, .int .u16 s.b.n, .int .u16 s.c.p, .int .u16 s.c.c, .int .u8 s.c.l, .bool s.c.h, .int .u16 s.c.n, .int .i64 s.w]), .int .i64 n] w fun e w' => e = .returned (.bool true) ∧ Below w.heap.size w w' := by
  have HV := hid hv
  have HNB : Hid (¬ (0 ≤ n ∧ n ≤ 20000)) := by show ¬ (0 ≤ n ∧ n ≤ 20000); omega
  have hn0 : ¬ n < 0 := by omega
  have HWB : Hid (s.w < 0 ∨ 15 < s.w) := by show s.w < 0 ∨ 15 < s.w; omega
  go_enter Try.func3, Try.ntmps3
  go_upto_region 1 with fail
  go_cut [7, 8] (fun px e W => ∃ bx, px = .pointer (some ⟨bx, 0, none⟩) ∧ e = .int .i64 3 ∧ R1 w bx v s ⟨0, 0, 0, false, 0⟩ W)
  case first =>
    refine Pl.cutW (fun W => Below w.heap.size w W ∧ Bx W w.heap.size (vcs v) ∧ Bx W (w.heap.size + 1) (scs s)) ⟨stA (stA (st0 w) _) _, (Bx.new w (vcs v) _ rfl).over _, Bx.new _ (scs s) _ (by simp)⟩ ?_
    rintro W ⟨hlow, hbv, hbs⟩
    have HLO := hid hlow
    have HBV := hid hbv
    have HBS := hid hbs
    clear hlow hbv hbs
    go_wp2_with (first
      | (refine wpList_load_mid rfl 24 _ rfl w.heap.size 0 rfl (vcs v) _ HBV.out.c Try.underlying24 rfl info_voice ?_)
      | (go_at_call 7; refine (run_bad v n _ HNB.out).mono ?_; rintro e w1 ⟨rfl, hb1⟩))
    go_meet
    exact ⟨w1.heap.size, rfl, rfl, stA (stp HLO.out hb1) _, (HBV.out.kept hb1).over _, (HBS.out.kept hb1).over _, Bx.new w1 (vcs ⟨0, 0, 0, false, 0⟩) 24 rfl, Nat.le_trans HBS.out.z hb1.size⟩
  case rest =>
  obtain ⟨bx, rfl, rfl, hR1⟩ := hcut
  have HR1 := hid hR1
  clear hR1
  go_upto_region 2 with fail
  go_cut [9, 10, 11] (fun vl po f W => ∃ la lc bo, vl = .slice la (([] : List UInt8)).length lc ∧ po = .pointer (some ⟨bo, 0, none⟩) ∧ f = .int .i64 3 ∧ R2 w bx bo v s ⟨0, 0, 0, false, 0⟩ zs (.slice la (([] : List UInt8)).length lc) (([] : List UInt8)) W)
  case first =>
    go_wp2_with (first
      | (refine wpList_load_mid rfl 27 _ rfl (w.heap.size + 1) 0 rfl (scs s) _ HR1.out.s.c Try.underlying27 rfl info_sound ?_)
      | (go_at_call 8; refine (samples_check s n _ HWB.out).mono ?_; rintro e w2 ⟨rfl, hb2⟩; have HSL : Hid (sliceAt w2 (.slice none 0 0) []) := Or.inl ⟨none, 0, rfl, rfl⟩))
    go_meet
    exact ⟨none, 0, w2.heap.size, rfl, rfl, rfl, (HR1.out.kept hb2).kept (stA (st0 w2) _), Bx.new w2 zs 27 rfl, HSL.out.kept (stA (st0 w2) _), Nat.le_trans HR1.out.s.z hb2.size, (fun k hk => by simp [Value.ownBlock] at hk)⟩
  case rest =>
  obtain ⟨la, lc, bo, rfl, rfl, rfl, hR2⟩ := hcut
  have HR2 := hid hR2
  have c15 := hR2.s.at 15 _ rfl
  have sz := hR2.s.z
  clear hR2 HR1
  go_upto_region 6 with fail
  go_cut [49] (fun c W => c = .bool false ∧ R2 w bx bo v s ⟨0, 0, 0, false, 0⟩ zs (.slice la (([] : List UInt8)).length lc) (([] : List UInt8)) W)
  case first =>
    clear c15 sz
    have hnv := neq_voice v.tick
    go_region_held3 (fun w' => w'.cell? ⟨w.heap.size, 0, none⟩ = some (.int .u16 v.p) ∧ w'.cell? ⟨w.heap.size, 1, none⟩ = some (.int .u16 v.c) ∧ w'.cell? ⟨w.heap.size, 2, none⟩ = some (.int .u8 v.l) ∧ w'.cell? ⟨w.heap.size, 3, none⟩ = some (.bool v.h) ∧ w'.cell? ⟨w.heap.size, 4, none⟩ = some (.int .u16 v.n) ∧ w'.cell? ⟨w.heap.size + 1, 0, none⟩ = some (.int .u16 s.a.p) ∧ w'.cell? ⟨w.heap.size + 1, 1, none⟩ = some (.int .u16 s.a.c) ∧ w'.cell? ⟨w.heap.size + 1, 2, none⟩ = some (.int .u8 s.a.l) ∧ w'.cell? ⟨w.heap.size + 1, 3, none⟩ = some (.bool s.a.h) ∧ w'.cell? ⟨w.heap.size + 1, 4, none⟩ = some (.int .u16 s.a.n) ∧ w'.cell? ⟨w.heap.size + 1, 5, none⟩ = some (.int .u16 s.b.p) ∧ w'.cell? ⟨w.heap.size + 1, 6, none⟩ = some (.int .u16 s.b.c) ∧ w'.cell? ⟨w.heap.size + 1, 7, none⟩ = some (.int .u8 s.b.l) ∧ w'.cell? ⟨w.heap.size + 1, 8, none⟩ = some (.bool s.b.h) ∧ w'.cell? ⟨w.heap.size + 1, 9, none⟩ = some (.int .u16 s.b.n) ∧ w'.cell? ⟨w.heap.size + 1, 10, none⟩ = some (.int .u16 s.c.p) ∧ w'.cell? ⟨w.heap.size + 1, 11, none⟩ = some (.int .u16 s.c.c) ∧ w'.cell? ⟨w.heap.size + 1, 12, none⟩ = some (.int .u8 s.c.l) ∧ w'.cell? ⟨w.heap.size + 1, 13, none⟩ = some (.bool s.c.h) ∧ w'.cell? ⟨w.heap.size + 1, 14, none⟩ = some (.int .u16 s.c.n) ∧ w'.cell? ⟨w.heap.size + 1, 15, none⟩ = some (.int .i64 s.w) ∧ R2 w bx bo v s ⟨0, 0, 0, false, 0⟩ zs (.slice la (([] : List UInt8)).length lc) (([] : List UInt8)) w')
      (first
        | with_reducible exact r2all HR2.out
        | with_reducible exact r2all HR2.out.drew
        | with_reducible exact r2keep (by assumption) (by assumption)
        | (go_keep; done))
      (first
        | (go_at_call 9; refine (sounded_any _).mono ?_; rintro e w3 ⟨rfl, hb3⟩)
        | (go_at_call 10; refine (tick_any v _ HV.out).mono ?_; rintro e w4 ⟨rfl, hb4⟩)
        | (go_at_call 11; refine (rtick_v v _ HV.out).mono ?_; rintro e w5 ⟨rfl, hb5⟩)
        | (go_at_call 12; refine (check_bad s _ HWB.out).mono ?_; rintro e w6 ⟨rfl, hb6⟩))
    have HRW := hid (show R2 w bx bo v s ⟨0, 0, 0, false, 0⟩ zs (.slice la (([] : List UInt8)).length lc) (([] : List UInt8)) w6 by rename_i hh; exact hh.2.2.2.2.2.2.2.2.2.2.2.2.2.2.2.2.2.2.2.2.2)
    go_wp2_with fail
    go_meet
    exact ⟨rfl, HRW.out⟩
  case rest =>
  obtain ⟨rfl, hR3⟩ := hcut
  have HR3 := hid hR3
  clear hR3 HR2
  have hzz := eq_zeroL
  have hzv := eq_zeroV3
  go_wp2_with (first
    | (refine loadG (by rfl) 24 (.tmp 7) rfl bx 0 rfl (vcs ⟨0, 0, 0, false, 0⟩) _ HR3.out.x.c Try.underlying24 rfl info_voice ?_)
    | (refine loadG (by rfl) 27 (.tmp 10) rfl bo 0 rfl zs _ HR3.out.o.c Try.underlying27 rfl info_sound ?_))
  go_ret
  exact ⟨rfl, HR3.out.low⟩

set_option maxRecDepth 100000 in
set_option maxHeartbeats 6400000 in
theorem runs_n2_hi (v : Vc) (s : Sd) (n : Int) (w : World) (hv : v.ok) (h : s.ok) (hn : 20000 < n) (hww : 15 < s.w) :
    Calls Try.prog 3 #[(.agg #[.int .u16 v.p, .int .u16 v.c, .int .u8 v.l, .bool v.h, .int .u16 v.n]), (.agg #[.int .u16 s.a.p, .int .u16 s.a.c, .int .u8 s.a.l, .bool s.a.h, .int .u16 s.a.n, .int .u16 s.b.p, .int .u16 s.b.c, .int .u8 s.b.l, .bool s.b.h, .int .u16 s.b.n, .int .u16 s.c.p, .int .u16 s.c.c, .int .u8 s.c.l, .bool s.c.h, .int .u16 s.c.n, .int .i64 s.w]), .int .i64 n] w fun e w' => e = .returned (.bool true) ∧ Below w.heap.size w w' := by
  have HV := hid hv
  have HNB : Hid (¬ (0 ≤ n ∧ n ≤ 20000)) := by show ¬ (0 ≤ n ∧ n ≤ 20000); omega
  have hn0 : ¬ n < 0 := by omega
  have HWB : Hid (s.w < 0 ∨ 15 < s.w) := by show s.w < 0 ∨ 15 < s.w; omega
  have hw0 : ¬ s.w < 0 := by omega
  go_enter Try.func3, Try.ntmps3
  go_upto_region 1 with fail
  go_cut [7, 8] (fun px e W => ∃ bx, px = .pointer (some ⟨bx, 0, none⟩) ∧ e = .int .i64 3 ∧ R1 w bx v s ⟨0, 0, 0, false, 0⟩ W)
  case first =>
    refine Pl.cutW (fun W => Below w.heap.size w W ∧ Bx W w.heap.size (vcs v) ∧ Bx W (w.heap.size + 1) (scs s)) ⟨stA (stA (st0 w) _) _, (Bx.new w (vcs v) _ rfl).over _, Bx.new _ (scs s) _ (by simp)⟩ ?_
    rintro W ⟨hlow, hbv, hbs⟩
    have HLO := hid hlow
    have HBV := hid hbv
    have HBS := hid hbs
    clear hlow hbv hbs
    go_wp2_with (first
      | (refine wpList_load_mid rfl 24 _ rfl w.heap.size 0 rfl (vcs v) _ HBV.out.c Try.underlying24 rfl info_voice ?_)
      | (go_at_call 7; refine (run_bad v n _ HNB.out).mono ?_; rintro e w1 ⟨rfl, hb1⟩))
    go_meet
    exact ⟨w1.heap.size, rfl, rfl, stA (stp HLO.out hb1) _, (HBV.out.kept hb1).over _, (HBS.out.kept hb1).over _, Bx.new w1 (vcs ⟨0, 0, 0, false, 0⟩) 24 rfl, Nat.le_trans HBS.out.z hb1.size⟩
  case rest =>
  obtain ⟨bx, rfl, rfl, hR1⟩ := hcut
  have HR1 := hid hR1
  clear hR1
  go_upto_region 2 with fail
  go_cut [9, 10, 11] (fun vl po f W => ∃ la lc bo, vl = .slice la (([] : List UInt8)).length lc ∧ po = .pointer (some ⟨bo, 0, none⟩) ∧ f = .int .i64 3 ∧ R2 w bx bo v s ⟨0, 0, 0, false, 0⟩ zs (.slice la (([] : List UInt8)).length lc) (([] : List UInt8)) W)
  case first =>
    go_wp2_with (first
      | (refine wpList_load_mid rfl 27 _ rfl (w.heap.size + 1) 0 rfl (scs s) _ HR1.out.s.c Try.underlying27 rfl info_sound ?_)
      | (go_at_call 8; refine (samples_check s n _ HWB.out).mono ?_; rintro e w2 ⟨rfl, hb2⟩; have HSL : Hid (sliceAt w2 (.slice none 0 0) []) := Or.inl ⟨none, 0, rfl, rfl⟩))
    go_meet
    exact ⟨none, 0, w2.heap.size, rfl, rfl, rfl, (HR1.out.kept hb2).kept (stA (st0 w2) _), Bx.new w2 zs 27 rfl, HSL.out.kept (stA (st0 w2) _), Nat.le_trans HR1.out.s.z hb2.size, (fun k hk => by simp [Value.ownBlock] at hk)⟩
  case rest =>
  obtain ⟨la, lc, bo, rfl, rfl, rfl, hR2⟩ := hcut
  have HR2 := hid hR2
  have c15 := hR2.s.at 15 _ rfl
  have sz := hR2.s.z
  clear hR2 HR1
  go_upto_region 6 with fail
  go_cut [49] (fun c W => c = .bool false ∧ R2 w bx bo v s ⟨0, 0, 0, false, 0⟩ zs (.slice la (([] : List UInt8)).length lc) (([] : List UInt8)) W)
  case first =>
    clear c15 sz
    have hnv := neq_voice v.tick
    go_region_held3 (fun w' => w'.cell? ⟨w.heap.size, 0, none⟩ = some (.int .u16 v.p) ∧ w'.cell? ⟨w.heap.size, 1, none⟩ = some (.int .u16 v.c) ∧ w'.cell? ⟨w.heap.size, 2, none⟩ = some (.int .u8 v.l) ∧ w'.cell? ⟨w.heap.size, 3, none⟩ = some (.bool v.h) ∧ w'.cell? ⟨w.heap.size, 4, none⟩ = some (.int .u16 v.n) ∧ w'.cell? ⟨w.heap.size + 1, 0, none⟩ = some (.int .u16 s.a.p) ∧ w'.cell? ⟨w.heap.size + 1, 1, none⟩ = some (.int .u16 s.a.c) ∧ w'.cell? ⟨w.heap.size + 1, 2, none⟩ = some (.int .u8 s.a.l) ∧ w'.cell? ⟨w.heap.size + 1, 3, none⟩ = some (.bool s.a.h) ∧ w'.cell? ⟨w.heap.size + 1, 4, none⟩ = some (.int .u16 s.a.n) ∧ w'.cell? ⟨w.heap.size + 1, 5, none⟩ = some (.int .u16 s.b.p) ∧ w'.cell? ⟨w.heap.size + 1, 6, none⟩ = some (.int .u16 s.b.c) ∧ w'.cell? ⟨w.heap.size + 1, 7, none⟩ = some (.int .u8 s.b.l) ∧ w'.cell? ⟨w.heap.size + 1, 8, none⟩ = some (.bool s.b.h) ∧ w'.cell? ⟨w.heap.size + 1, 9, none⟩ = some (.int .u16 s.b.n) ∧ w'.cell? ⟨w.heap.size + 1, 10, none⟩ = some (.int .u16 s.c.p) ∧ w'.cell? ⟨w.heap.size + 1, 11, none⟩ = some (.int .u16 s.c.c) ∧ w'.cell? ⟨w.heap.size + 1, 12, none⟩ = some (.int .u8 s.c.l) ∧ w'.cell? ⟨w.heap.size + 1, 13, none⟩ = some (.bool s.c.h) ∧ w'.cell? ⟨w.heap.size + 1, 14, none⟩ = some (.int .u16 s.c.n) ∧ w'.cell? ⟨w.heap.size + 1, 15, none⟩ = some (.int .i64 s.w) ∧ R2 w bx bo v s ⟨0, 0, 0, false, 0⟩ zs (.slice la (([] : List UInt8)).length lc) (([] : List UInt8)) w')
      (first
        | with_reducible exact r2all HR2.out
        | with_reducible exact r2all HR2.out.drew
        | with_reducible exact r2keep (by assumption) (by assumption)
        | (go_keep; done))
      (first
        | (go_at_call 9; refine (sounded_any _).mono ?_; rintro e w3 ⟨rfl, hb3⟩)
        | (go_at_call 10; refine (tick_any v _ HV.out).mono ?_; rintro e w4 ⟨rfl, hb4⟩)
        | (go_at_call 11; refine (rtick_v v _ HV.out).mono ?_; rintro e w5 ⟨rfl, hb5⟩)
        | (go_at_call 12; refine (check_bad s _ HWB.out).mono ?_; rintro e w6 ⟨rfl, hb6⟩))
    have HRW := hid (show R2 w bx bo v s ⟨0, 0, 0, false, 0⟩ zs (.slice la (([] : List UInt8)).length lc) (([] : List UInt8)) w6 by rename_i hh; exact hh.2.2.2.2.2.2.2.2.2.2.2.2.2.2.2.2.2.2.2.2.2)
    go_wp2_with fail
    go_meet
    exact ⟨rfl, HRW.out⟩
  case rest =>
  obtain ⟨rfl, hR3⟩ := hcut
  have HR3 := hid hR3
  clear hR3 HR2
  have hzz := eq_zeroL
  have hzv := eq_zeroV3
  go_wp2_with (first
    | (refine loadG (by rfl) 24 (.tmp 7) rfl bx 0 rfl (vcs ⟨0, 0, 0, false, 0⟩) _ HR3.out.x.c Try.underlying24 rfl info_voice ?_)
    | (refine loadG (by rfl) 27 (.tmp 10) rfl bo 0 rfl zs _ HR3.out.o.c Try.underlying27 rfl info_sound ?_))
  go_ret
  exact ⟨rfl, HR3.out.low⟩
end Go.Proofs.Ytjmmbbehjklhgaa
