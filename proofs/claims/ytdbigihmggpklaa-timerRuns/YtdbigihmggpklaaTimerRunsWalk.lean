/-
  The Go text of the law TimerRuns returns true where so many clocks may be.
-/
import Derived.Test.YtdbigihmggpklaaTimF
namespace Go.Proofs.Ytdbigihmggpklaa
open Go.ChangeShapes Go.WideShapes Go.ChangeAt Go.RowKit
set_option linter.unusedVariables false

set_option maxRecDepth 100000 in
set_option maxHeartbeats 3200000 in
theorem runs_ok (r c n : Int) (on o2 g : Bool) (w : World) (hr : 0 ≤ r ∧ r ≤ 65535) (hc : 0 ≤ c ∧ c ≤ 65535) (hn : 0 ≤ n ∧ n ≤ 20000) :
    Calls Try.prog 3 #[.agg #[.int .u16 r, .int .u16 c, .bool on, .bool g], .bool o2, .int .i64 n] w fun e w' => e = .returned (.bool true) ∧ Below w.heap.size w w' := by
  have hne := neq_timer
  have he := eq_timer
  obtain ⟨N, rfl⟩ := Int.eq_ofNat_of_zero_le hn.1
  have hn0 : ¬ ((N : Int) < 0) := by omega
  have hn2 : ¬ ((20000 : Int) < N) := by omega
  go_enter Try.func3, Try.ntmps3
  go_wp2_with (go_at_call 6; refine (run_any _ _ (N : Int) _ _ _ hr hc hn).mono ?_; rintro e w1 ⟨rfl, hb1⟩; have K1 := hid (RunsK.mk (bx := w1.heap.size) (stA (stp (stA (st0 w) _) hb1) _) (((Tat.new w _ _ _ _).kept hb1).over _) (Tat.new w1 r (rnC r c on N) on (rnG c on g N))))
  have K2 := hid K1.out.all
  have ztx : w.heap.size < w1.heap.size := Nat.lt_of_lt_of_le (by simp) hb1.size
  generalize hbx : w1.heap.size = bx at *
  clear hb1 K1
  refine Pl.cutW (fun W => W.cell? ⟨w.heap.size, 0, none⟩ = some (.int .u16 r) ∧ W.cell? ⟨w.heap.size, 1, none⟩ = some (.int .u16 c) ∧ W.cell? ⟨w.heap.size, 2, none⟩ = some (.bool on) ∧ W.cell? ⟨w.heap.size, 3, none⟩ = some (.bool g) ∧ RunsK w bx r r c (rnC r c on N) on on g (rnG c on g N) W) K2.out ?_
  rintro W ⟨p0, p1, p2, p3, hK⟩
  clear K2
  have HK := hid hK
  clear hK
  go_region_held3 (fun w' => w'.cell? ⟨w.heap.size, 0, none⟩ = some (.int .u16 r) ∧ w'.cell? ⟨w.heap.size, 1, none⟩ = some (.int .u16 c) ∧ w'.cell? ⟨w.heap.size, 2, none⟩ = some (.bool on) ∧ w'.cell? ⟨w.heap.size, 3, none⟩ = some (.bool g) ∧ RunsK w bx r r c (rnC r c on N) on on g (rnG c on g N) w')
    (first
      | with_reducible exact RunsK.all HK.out.drew
      | with_reducible exact runs_keep (by assumption) (by assumption)
      | (go_keep; done))
    (first
      | (go_at_call 7; refine (timed_any _).mono ?_; rintro e w4 ⟨rfl, hb4⟩)
      | (go_at_call 8; refine (tick_any _ _ _ _ _ hc).mono ?_; rintro e w5 ⟨rfl, hb5⟩)
      | (go_at_call 9; refine (rtick_any _ _ _ _ _ hc).mono ?_; rintro e w6 ⟨rfl, hb6⟩))
  have K6 := hid (show w6.cell? ⟨w.heap.size, 0, none⟩ = some (.int .u16 r) ∧ w6.cell? ⟨w.heap.size, 1, none⟩ = some (.int .u16 c) ∧ w6.cell? ⟨w.heap.size, 2, none⟩ = some (.bool on) ∧ w6.cell? ⟨w.heap.size, 3, none⟩ = some (.bool g) ∧ RunsK w bx r r c (rnC r c on N) on on g (rnG c on g N) w6 by assumption)
  obtain ⟨t0, t1, t2, t3, hK6⟩ := K6.out
  clear K6
  have tz := hK6.t.z
  have HK6 := hid hK6
  clear hK6
  cases o2
  · go_wp2
    refine Pl.cutW (fun W => W.cell? ⟨w.heap.size, 0, none⟩ = some (.int .u16 r) ∧ W.cell? ⟨w.heap.size, 1, none⟩ = some (.int .u16 c) ∧ W.cell? ⟨w.heap.size, 2, none⟩ = some (.bool on) ∧ W.cell? ⟨w.heap.size, 3, none⟩ = some (.bool g) ∧ W.cell? ⟨w6.heap.size, 0, none⟩ = some (.int .u16 r) ∧ W.cell? ⟨w6.heap.size, 1, none⟩ = some (.int .u16 c) ∧ W.cell? ⟨w6.heap.size, 2, none⟩ = some (.bool false) ∧ W.cell? ⟨w6.heap.size, 3, none⟩ = some (.bool g) ∧ RunsY w bx w6.heap.size r r c (rnC r c on N) c on on false g (rnG c on g N) W) (RunsY.all ⟨stA HK6.out.low _, HK6.out.t.over _, HK6.out.x.over _, Tat.new _ _ _ _ _⟩) ?_
    rintro W ⟨p0, p1, p2, p3, y0, y1, y2, y3, hK⟩
    have HK := hid hK
    clear hK HK6 t0 t1 t2 t3
    go_region_held3 (fun w' => w'.cell? ⟨w.heap.size, 0, none⟩ = some (.int .u16 r) ∧ w'.cell? ⟨w.heap.size, 1, none⟩ = some (.int .u16 c) ∧ w'.cell? ⟨w.heap.size, 2, none⟩ = some (.bool on) ∧ w'.cell? ⟨w.heap.size, 3, none⟩ = some (.bool g) ∧ w'.cell? ⟨w6.heap.size, 0, none⟩ = some (.int .u16 r) ∧ w'.cell? ⟨w6.heap.size, 1, none⟩ = some (.int .u16 c) ∧ w'.cell? ⟨w6.heap.size, 2, none⟩ = some (.bool false) ∧ w'.cell? ⟨w6.heap.size, 3, none⟩ = some (.bool g) ∧ RunsY w bx w6.heap.size r r c (rnC r c on N) c on on false g (rnG c on g N) w')
      (first
        | with_reducible exact RunsY.all HK.out.drew
        | with_reducible exact runsY_keep (by assumption) (by assumption)
        | (go_keep; done))
      ((go_at_call 10; refine (set_off _ _ _ _ _).mono ?_; rintro e w7 ⟨rfl, hb7⟩))
    have K7 := hid (show w7.cell? ⟨w.heap.size, 0, none⟩ = some (.int .u16 r) ∧ w7.cell? ⟨w.heap.size, 1, none⟩ = some (.int .u16 c) ∧ w7.cell? ⟨w.heap.size, 2, none⟩ = some (.bool on) ∧ w7.cell? ⟨w.heap.size, 3, none⟩ = some (.bool g) ∧ w7.cell? ⟨w6.heap.size, 0, none⟩ = some (.int .u16 r) ∧ w7.cell? ⟨w6.heap.size, 1, none⟩ = some (.int .u16 c) ∧ w7.cell? ⟨w6.heap.size, 2, none⟩ = some (.bool false) ∧ w7.cell? ⟨w6.heap.size, 3, none⟩ = some (.bool g) ∧ RunsY w bx w6.heap.size r r c (rnC r c on N) c on on false g (rnG c on g N) w7 by assumption)
    obtain ⟨t0, t1, t2, t3, _, _, _, _, hK7⟩ := K7.out
    clear K7
    have HR : Hid (RunsW w bx r c N on g 0 w7) := by
      have hz := rn_zero r c on g hc
      refine ⟨hK7.low, ?_, hK7.x, ztx⟩
      rw [show ((0 : Nat) : Int) = 0 from rfl, hz.1, hz.2]
      exact hK7.t
    clear hK7 HK p0 p1 p2 p3 y0 y1 y2 y3
    have tz := HR.out.t.z
    cases on
    · go_wp2_with (go_at_call 11; refine (next_off _ _ _ _ hc).mono ?_; rintro e w8 ⟨rfl, hb8⟩)
      have HR8 := hid (RunsW.kept HR.out hb8)
      clear HR t0 t1 t2 t3 tz
      go_loopw [62] (fun i wr => ∃ k : Nat, k ≤ N ∧ i = .int .i64 k ∧ RunsW w bx r c N false g k wr) (fun i _ => N - (intOf i).toNat)
      case atStart => exact ⟨0, Nat.zero_le _, rfl, HR8.out⟩
      case round =>
        clear HR8
        obtain ⟨k, hk, rfl, hA⟩ := hrel
        have HA := hid hA
        have hy := rn_bd r c false k hr hc (by omega)
        obtain ⟨tz, t0, t1, t2, t3, tf⟩ := hA.t
        by_cases h8 : k < N
        · have h8' : (k : Int) < N := by omega
          obtain ⟨s1, s2⟩ := rn_step r c false g k hr hc (by omega)
          have HS1 := hid s1
          have HS2 := hid s2
          clear hA s1 s2
          go_wp2_with (go_at_call 9; refine (rtick_any _ _ _ _ _ hy).mono ?_; rintro e w9 ⟨rfl, hb9⟩; obtain ⟨k9, f9⟩ := bcell hb9; have z9 := Nat.lt_of_lt_of_le tz hb9.size)
          go_roundw
          case rel => exact ⟨k + 1, h8, by go_num, HA.out.next hb9 HS1.out HS2.out⟩
          case measure => simp [intOf]; omega
        · obtain rfl : k = N := by omega
          obtain ⟨xz, x0, x1, x2, x3, xf⟩ := hA.x
          clear hA
          go_wp2
          go_ret
          exact ⟨rfl, HA.out.low⟩
    · go_wp2_with (go_at_call 11; refine (next_on _ _ _ _ hc).mono ?_; rintro e w8 ⟨rfl, hb8⟩)
      have HR8 := hid (RunsW.kept HR.out hb8)
      clear HR t0 t1 t2 t3 tz
      go_loopw [62] (fun i wr => ∃ k : Nat, k ≤ N ∧ i = .int .i64 k ∧ RunsW w bx r c N true g k wr) (fun i _ => N - (intOf i).toNat)
      case atStart => exact ⟨0, Nat.zero_le _, rfl, HR8.out⟩
      case round =>
        clear HR8
        obtain ⟨k, hk, rfl, hA⟩ := hrel
        have HA := hid hA
        have hy := rn_bd r c true k hr hc (by omega)
        obtain ⟨tz, t0, t1, t2, t3, tf⟩ := hA.t
        by_cases h8 : k < N
        · have h8' : (k : Int) < N := by omega
          obtain ⟨s1, s2⟩ := rn_step r c true g k hr hc (by omega)
          have HS1 := hid s1
          have HS2 := hid s2
          clear hA s1 s2
          go_wp2_with (go_at_call 9; refine (rtick_any _ _ _ _ _ hy).mono ?_; rintro e w9 ⟨rfl, hb9⟩; obtain ⟨k9, f9⟩ := bcell hb9; have z9 := Nat.lt_of_lt_of_le tz hb9.size)
          go_roundw
          case rel => exact ⟨k + 1, h8, by go_num, HA.out.next hb9 HS1.out HS2.out⟩
          case measure => simp [intOf]; omega
        · obtain rfl : k = N := by omega
          obtain ⟨xz, x0, x1, x2, x3, xf⟩ := hA.x
          clear hA
          go_wp2
          go_ret
          exact ⟨rfl, HA.out.low⟩
  · go_wp2
    refine Pl.cutW (fun W => W.cell? ⟨w.heap.size, 0, none⟩ = some (.int .u16 r) ∧ W.cell? ⟨w.heap.size, 1, none⟩ = some (.int .u16 c) ∧ W.cell? ⟨w.heap.size, 2, none⟩ = some (.bool on) ∧ W.cell? ⟨w.heap.size, 3, none⟩ = some (.bool g) ∧ W.cell? ⟨w6.heap.size, 0, none⟩ = some (.int .u16 r) ∧ W.cell? ⟨w6.heap.size, 1, none⟩ = some (.int .u16 r) ∧ W.cell? ⟨w6.heap.size, 2, none⟩ = some (.bool true) ∧ W.cell? ⟨w6.heap.size, 3, none⟩ = some (.bool g) ∧ RunsY w bx w6.heap.size r r c (rnC r c on N) r on on true g (rnG c on g N) W) (RunsY.all ⟨stA HK6.out.low _, HK6.out.t.over _, HK6.out.x.over _, Tat.new _ _ _ _ _⟩) ?_
    rintro W ⟨p0, p1, p2, p3, y0, y1, y2, y3, hK⟩
    have HK := hid hK
    clear hK HK6 t0 t1 t2 t3
    go_region_held3 (fun w' => w'.cell? ⟨w.heap.size, 0, none⟩ = some (.int .u16 r) ∧ w'.cell? ⟨w.heap.size, 1, none⟩ = some (.int .u16 c) ∧ w'.cell? ⟨w.heap.size, 2, none⟩ = some (.bool on) ∧ w'.cell? ⟨w.heap.size, 3, none⟩ = some (.bool g) ∧ w'.cell? ⟨w6.heap.size, 0, none⟩ = some (.int .u16 r) ∧ w'.cell? ⟨w6.heap.size, 1, none⟩ = some (.int .u16 r) ∧ w'.cell? ⟨w6.heap.size, 2, none⟩ = some (.bool true) ∧ w'.cell? ⟨w6.heap.size, 3, none⟩ = some (.bool g) ∧ RunsY w bx w6.heap.size r r c (rnC r c on N) r on on true g (rnG c on g N) w')
      (first
        | with_reducible exact RunsY.all HK.out.drew
        | with_reducible exact runsY_keep (by assumption) (by assumption)
        | (go_keep; done))
      ((go_at_call 10; refine (set_on _ _ _ _ _).mono ?_; rintro e w7 ⟨rfl, hb7⟩))
    have K7 := hid (show w7.cell? ⟨w.heap.size, 0, none⟩ = some (.int .u16 r) ∧ w7.cell? ⟨w.heap.size, 1, none⟩ = some (.int .u16 c) ∧ w7.cell? ⟨w.heap.size, 2, none⟩ = some (.bool on) ∧ w7.cell? ⟨w.heap.size, 3, none⟩ = some (.bool g) ∧ w7.cell? ⟨w6.heap.size, 0, none⟩ = some (.int .u16 r) ∧ w7.cell? ⟨w6.heap.size, 1, none⟩ = some (.int .u16 r) ∧ w7.cell? ⟨w6.heap.size, 2, none⟩ = some (.bool true) ∧ w7.cell? ⟨w6.heap.size, 3, none⟩ = some (.bool g) ∧ RunsY w bx w6.heap.size r r c (rnC r c on N) r on on true g (rnG c on g N) w7 by assumption)
    obtain ⟨t0, t1, t2, t3, _, _, _, _, hK7⟩ := K7.out
    clear K7
    have HR : Hid (RunsW w bx r c N on g 0 w7) := by
      have hz := rn_zero r c on g hc
      refine ⟨hK7.low, ?_, hK7.x, ztx⟩
      rw [show ((0 : Nat) : Int) = 0 from rfl, hz.1, hz.2]
      exact hK7.t
    clear hK7 HK p0 p1 p2 p3 y0 y1 y2 y3
    have tz := HR.out.t.z
    cases on
    · go_wp2_with (go_at_call 11; refine (next_off _ _ _ _ hc).mono ?_; rintro e w8 ⟨rfl, hb8⟩)
      have HR8 := hid (RunsW.kept HR.out hb8)
      clear HR t0 t1 t2 t3 tz
      go_loopw [62] (fun i wr => ∃ k : Nat, k ≤ N ∧ i = .int .i64 k ∧ RunsW w bx r c N false g k wr) (fun i _ => N - (intOf i).toNat)
      case atStart => exact ⟨0, Nat.zero_le _, rfl, HR8.out⟩
      case round =>
        clear HR8
        obtain ⟨k, hk, rfl, hA⟩ := hrel
        have HA := hid hA
        have hy := rn_bd r c false k hr hc (by omega)
        obtain ⟨tz, t0, t1, t2, t3, tf⟩ := hA.t
        by_cases h8 : k < N
        · have h8' : (k : Int) < N := by omega
          obtain ⟨s1, s2⟩ := rn_step r c false g k hr hc (by omega)
          have HS1 := hid s1
          have HS2 := hid s2
          clear hA s1 s2
          go_wp2_with (go_at_call 9; refine (rtick_any _ _ _ _ _ hy).mono ?_; rintro e w9 ⟨rfl, hb9⟩; obtain ⟨k9, f9⟩ := bcell hb9; have z9 := Nat.lt_of_lt_of_le tz hb9.size)
          go_roundw
          case rel => exact ⟨k + 1, h8, by go_num, HA.out.next hb9 HS1.out HS2.out⟩
          case measure => simp [intOf]; omega
        · obtain rfl : k = N := by omega
          obtain ⟨xz, x0, x1, x2, x3, xf⟩ := hA.x
          clear hA
          go_wp2
          go_ret
          exact ⟨rfl, HA.out.low⟩
    · go_wp2_with (go_at_call 11; refine (next_on _ _ _ _ hc).mono ?_; rintro e w8 ⟨rfl, hb8⟩)
      have HR8 := hid (RunsW.kept HR.out hb8)
      clear HR t0 t1 t2 t3 tz
      go_loopw [62] (fun i wr => ∃ k : Nat, k ≤ N ∧ i = .int .i64 k ∧ RunsW w bx r c N true g k wr) (fun i _ => N - (intOf i).toNat)
      case atStart => exact ⟨0, Nat.zero_le _, rfl, HR8.out⟩
      case round =>
        clear HR8
        obtain ⟨k, hk, rfl, hA⟩ := hrel
        have HA := hid hA
        have hy := rn_bd r c true k hr hc (by omega)
        obtain ⟨tz, t0, t1, t2, t3, tf⟩ := hA.t
        by_cases h8 : k < N
        · have h8' : (k : Int) < N := by omega
          obtain ⟨s1, s2⟩ := rn_step r c true g k hr hc (by omega)
          have HS1 := hid s1
          have HS2 := hid s2
          clear hA s1 s2
          go_wp2_with (go_at_call 9; refine (rtick_any _ _ _ _ _ hy).mono ?_; rintro e w9 ⟨rfl, hb9⟩; obtain ⟨k9, f9⟩ := bcell hb9; have z9 := Nat.lt_of_lt_of_le tz hb9.size)
          go_roundw
          case rel => exact ⟨k + 1, h8, by go_num, HA.out.next hb9 HS1.out HS2.out⟩
          case measure => simp [intOf]; omega
        · obtain rfl : k = N := by omega
          obtain ⟨xz, x0, x1, x2, x3, xf⟩ := hA.x
          clear hA
          go_wp2
          go_ret
          exact ⟨rfl, HA.out.low⟩
end Go.Proofs.Ytdbigihmggpklaa
