/-
  The Go text of the law TimerRuns returns true where so many clocks may not be.
-/
import Derived.Test.YtdbigihmggpklaaTimF
namespace Go.Proofs.Ytdbigihmggpklaa
open Go.ChangeShapes Go.WideShapes Go.ChangeAt Go.RowKit
set_option linter.unusedVariables false

set_option maxRecDepth 100000 in
set_option maxHeartbeats 3200000 in
theorem runs_bad (r c n : Int) (on o2 g : Bool) (w : World) (hr : 0 ≤ r ∧ r ≤ 65535) (hc : 0 ≤ c ∧ c ≤ 65535) (hn : n < 0 ∨ 20000 < n) :
    Calls Try.prog 3 #[.agg #[.int .u16 r, .int .u16 c, .bool on, .bool g], .bool o2, .int .i64 n] w fun e w' => e = .returned (.bool true) ∧ Below w.heap.size w w' := by
  have hne := neq_timer
  have he := eq_timer
  have HN := hid hn
  clear hn
  go_enter Try.func3, Try.ntmps3
  go_wp2_with (go_at_call 6; refine (run_bad _ _ _ _ _ _ HN.out).mono ?_; rintro e w1 ⟨rfl, hb1⟩; have K1 := hid (RunsK.mk (bx := w1.heap.size) (stA (stp (stA (st0 w) _) hb1) _) (((Tat.new w _ _ _ _).kept hb1).over _) (Tat.new w1 0 0 false false)))
  have K2 := hid K1.out.all
  have ztx : w.heap.size < w1.heap.size := Nat.lt_of_lt_of_le (by simp) hb1.size
  generalize hbx : w1.heap.size = bx at *
  clear hb1 K1
  refine Pl.cutW (fun W => W.cell? ⟨w.heap.size, 0, none⟩ = some (.int .u16 r) ∧ W.cell? ⟨w.heap.size, 1, none⟩ = some (.int .u16 c) ∧ W.cell? ⟨w.heap.size, 2, none⟩ = some (.bool on) ∧ W.cell? ⟨w.heap.size, 3, none⟩ = some (.bool g) ∧ RunsK w bx r 0 c 0 on false g false W) K2.out ?_
  rintro W ⟨p0, p1, p2, p3, hK⟩
  clear K2
  have HK := hid hK
  clear hK
  go_region_held3 (fun w' => w'.cell? ⟨w.heap.size, 0, none⟩ = some (.int .u16 r) ∧ w'.cell? ⟨w.heap.size, 1, none⟩ = some (.int .u16 c) ∧ w'.cell? ⟨w.heap.size, 2, none⟩ = some (.bool on) ∧ w'.cell? ⟨w.heap.size, 3, none⟩ = some (.bool g) ∧ RunsK w bx r 0 c 0 on false g false w')
    (first
      | with_reducible exact RunsK.all HK.out.drew
      | with_reducible exact runs_keep (by assumption) (by assumption)
      | (go_keep; done))
    (first
      | (go_at_call 7; refine (timed_any _).mono ?_; rintro e w4 ⟨rfl, hb4⟩)
      | (go_at_call 8; refine (tick_any _ _ _ _ _ hc).mono ?_; rintro e w5 ⟨rfl, hb5⟩)
      | (go_at_call 9; refine (rtick_any _ _ _ _ _ hc).mono ?_; rintro e w6 ⟨rfl, hb6⟩))
  have K6 := hid (show w6.cell? ⟨w.heap.size, 0, none⟩ = some (.int .u16 r) ∧ w6.cell? ⟨w.heap.size, 1, none⟩ = some (.int .u16 c) ∧ w6.cell? ⟨w.heap.size, 2, none⟩ = some (.bool on) ∧ w6.cell? ⟨w.heap.size, 3, none⟩ = some (.bool g) ∧ RunsK w bx r 0 c 0 on false g false w6 by assumption)
  obtain ⟨t0, t1, t2, t3, hK6⟩ := K6.out
  clear K6
  have tz := hK6.t.z
  have HK6 := hid hK6
  clear hK6
  cases o2
  · go_wp2
    refine Pl.cutW (fun W => W.cell? ⟨w.heap.size, 0, none⟩ = some (.int .u16 r) ∧ W.cell? ⟨w.heap.size, 1, none⟩ = some (.int .u16 c) ∧ W.cell? ⟨w.heap.size, 2, none⟩ = some (.bool on) ∧ W.cell? ⟨w.heap.size, 3, none⟩ = some (.bool g) ∧ W.cell? ⟨w6.heap.size, 0, none⟩ = some (.int .u16 r) ∧ W.cell? ⟨w6.heap.size, 1, none⟩ = some (.int .u16 c) ∧ W.cell? ⟨w6.heap.size, 2, none⟩ = some (.bool false) ∧ W.cell? ⟨w6.heap.size, 3, none⟩ = some (.bool g) ∧ RunsY w bx w6.heap.size r 0 c 0 c on false false g false W) (RunsY.all ⟨stA HK6.out.low _, HK6.out.t.over _, HK6.out.x.over _, Tat.new _ _ _ _ _⟩) ?_
    rintro W ⟨p0, p1, p2, p3, y0, y1, y2, y3, hK⟩
    have HK := hid hK
    clear hK HK6 t0 t1 t2 t3
    go_region_held3 (fun w' => w'.cell? ⟨w.heap.size, 0, none⟩ = some (.int .u16 r) ∧ w'.cell? ⟨w.heap.size, 1, none⟩ = some (.int .u16 c) ∧ w'.cell? ⟨w.heap.size, 2, none⟩ = some (.bool on) ∧ w'.cell? ⟨w.heap.size, 3, none⟩ = some (.bool g) ∧ w'.cell? ⟨w6.heap.size, 0, none⟩ = some (.int .u16 r) ∧ w'.cell? ⟨w6.heap.size, 1, none⟩ = some (.int .u16 c) ∧ w'.cell? ⟨w6.heap.size, 2, none⟩ = some (.bool false) ∧ w'.cell? ⟨w6.heap.size, 3, none⟩ = some (.bool g) ∧ RunsY w bx w6.heap.size r 0 c 0 c on false false g false w')
      (first
        | with_reducible exact RunsY.all HK.out.drew
        | with_reducible exact runsY_keep (by assumption) (by assumption)
        | (go_keep; done))
      ((go_at_call 10; refine (set_off _ _ _ _ _).mono ?_; rintro e w7 ⟨rfl, hb7⟩))
    have K7 := hid (show w7.cell? ⟨w.heap.size, 0, none⟩ = some (.int .u16 r) ∧ w7.cell? ⟨w.heap.size, 1, none⟩ = some (.int .u16 c) ∧ w7.cell? ⟨w.heap.size, 2, none⟩ = some (.bool on) ∧ w7.cell? ⟨w.heap.size, 3, none⟩ = some (.bool g) ∧ w7.cell? ⟨w6.heap.size, 0, none⟩ = some (.int .u16 r) ∧ w7.cell? ⟨w6.heap.size, 1, none⟩ = some (.int .u16 c) ∧ w7.cell? ⟨w6.heap.size, 2, none⟩ = some (.bool false) ∧ w7.cell? ⟨w6.heap.size, 3, none⟩ = some (.bool g) ∧ RunsY w bx w6.heap.size r 0 c 0 c on false false g false w7 by assumption)
    obtain ⟨t0, t1, t2, t3, _, _, _, _, hK7⟩ := K7.out
    clear K7
    have HR := hid hK7
    clear hK7 HK p0 p1 p2 p3 y0 y1 y2 y3
    have tz := HR.out.t.z
    have hn := HN.out
    clear HN
    cases on
    · rcases hn with h | h
      · go_wp2_with (go_at_call 11; refine (next_off _ _ _ _ hc).mono ?_; rintro e w8 ⟨rfl, hb8⟩; obtain ⟨xz, x0, x1, x2, x3, xf⟩ := HR.out.x.kept hb8)
        go_ret
        exact ⟨rfl, stp HR.out.low hb8⟩
      · have h' : ¬ (n < 0) := by omega
        go_wp2_with (go_at_call 11; refine (next_off _ _ _ _ hc).mono ?_; rintro e w8 ⟨rfl, hb8⟩; obtain ⟨xz, x0, x1, x2, x3, xf⟩ := HR.out.x.kept hb8)
        go_ret
        exact ⟨rfl, stp HR.out.low hb8⟩
    · rcases hn with h | h
      · go_wp2_with (go_at_call 11; refine (next_on _ _ _ _ hc).mono ?_; rintro e w8 ⟨rfl, hb8⟩; obtain ⟨xz, x0, x1, x2, x3, xf⟩ := HR.out.x.kept hb8)
        go_ret
        exact ⟨rfl, stp HR.out.low hb8⟩
      · have h' : ¬ (n < 0) := by omega
        go_wp2_with (go_at_call 11; refine (next_on _ _ _ _ hc).mono ?_; rintro e w8 ⟨rfl, hb8⟩; obtain ⟨xz, x0, x1, x2, x3, xf⟩ := HR.out.x.kept hb8)
        go_ret
        exact ⟨rfl, stp HR.out.low hb8⟩
  · go_wp2
    refine Pl.cutW (fun W => W.cell? ⟨w.heap.size, 0, none⟩ = some (.int .u16 r) ∧ W.cell? ⟨w.heap.size, 1, none⟩ = some (.int .u16 c) ∧ W.cell? ⟨w.heap.size, 2, none⟩ = some (.bool on) ∧ W.cell? ⟨w.heap.size, 3, none⟩ = some (.bool g) ∧ W.cell? ⟨w6.heap.size, 0, none⟩ = some (.int .u16 r) ∧ W.cell? ⟨w6.heap.size, 1, none⟩ = some (.int .u16 r) ∧ W.cell? ⟨w6.heap.size, 2, none⟩ = some (.bool true) ∧ W.cell? ⟨w6.heap.size, 3, none⟩ = some (.bool g) ∧ RunsY w bx w6.heap.size r 0 c 0 r on false true g false W) (RunsY.all ⟨stA HK6.out.low _, HK6.out.t.over _, HK6.out.x.over _, Tat.new _ _ _ _ _⟩) ?_
    rintro W ⟨p0, p1, p2, p3, y0, y1, y2, y3, hK⟩
    have HK := hid hK
    clear hK HK6 t0 t1 t2 t3
    go_region_held3 (fun w' => w'.cell? ⟨w.heap.size, 0, none⟩ = some (.int .u16 r) ∧ w'.cell? ⟨w.heap.size, 1, none⟩ = some (.int .u16 c) ∧ w'.cell? ⟨w.heap.size, 2, none⟩ = some (.bool on) ∧ w'.cell? ⟨w.heap.size, 3, none⟩ = some (.bool g) ∧ w'.cell? ⟨w6.heap.size, 0, none⟩ = some (.int .u16 r) ∧ w'.cell? ⟨w6.heap.size, 1, none⟩ = some (.int .u16 r) ∧ w'.cell? ⟨w6.heap.size, 2, none⟩ = some (.bool true) ∧ w'.cell? ⟨w6.heap.size, 3, none⟩ = some (.bool g) ∧ RunsY w bx w6.heap.size r 0 c 0 r on false true g false w')
      (first
        | with_reducible exact RunsY.all HK.out.drew
        | with_reducible exact runsY_keep (by assumption) (by assumption)
        | (go_keep; done))
      ((go_at_call 10; refine (set_on _ _ _ _ _).mono ?_; rintro e w7 ⟨rfl, hb7⟩))
    have K7 := hid (show w7.cell? ⟨w.heap.size, 0, none⟩ = some (.int .u16 r) ∧ w7.cell? ⟨w.heap.size, 1, none⟩ = some (.int .u16 c) ∧ w7.cell? ⟨w.heap.size, 2, none⟩ = some (.bool on) ∧ w7.cell? ⟨w.heap.size, 3, none⟩ = some (.bool g) ∧ w7.cell? ⟨w6.heap.size, 0, none⟩ = some (.int .u16 r) ∧ w7.cell? ⟨w6.heap.size, 1, none⟩ = some (.int .u16 r) ∧ w7.cell? ⟨w6.heap.size, 2, none⟩ = some (.bool true) ∧ w7.cell? ⟨w6.heap.size, 3, none⟩ = some (.bool g) ∧ RunsY w bx w6.heap.size r 0 c 0 r on false true g false w7 by assumption)
    obtain ⟨t0, t1, t2, t3, _, _, _, _, hK7⟩ := K7.out
    clear K7
    have HR := hid hK7
    clear hK7 HK p0 p1 p2 p3 y0 y1 y2 y3
    have tz := HR.out.t.z
    have hn := HN.out
    clear HN
    cases on
    · rcases hn with h | h
      · go_wp2_with (go_at_call 11; refine (next_off _ _ _ _ hc).mono ?_; rintro e w8 ⟨rfl, hb8⟩; obtain ⟨xz, x0, x1, x2, x3, xf⟩ := HR.out.x.kept hb8)
        go_ret
        exact ⟨rfl, stp HR.out.low hb8⟩
      · have h' : ¬ (n < 0) := by omega
        go_wp2_with (go_at_call 11; refine (next_off _ _ _ _ hc).mono ?_; rintro e w8 ⟨rfl, hb8⟩; obtain ⟨xz, x0, x1, x2, x3, xf⟩ := HR.out.x.kept hb8)
        go_ret
        exact ⟨rfl, stp HR.out.low hb8⟩
    · rcases hn with h | h
      · go_wp2_with (go_at_call 11; refine (next_on _ _ _ _ hc).mono ?_; rintro e w8 ⟨rfl, hb8⟩; obtain ⟨xz, x0, x1, x2, x3, xf⟩ := HR.out.x.kept hb8)
        go_ret
        exact ⟨rfl, stp HR.out.low hb8⟩
      · have h' : ¬ (n < 0) := by omega
        go_wp2_with (go_at_call 11; refine (next_on _ _ _ _ hc).mono ?_; rintro e w8 ⟨rfl, hb8⟩; obtain ⟨xz, x0, x1, x2, x3, xf⟩ := HR.out.x.kept hb8)
        go_ret
        exact ⟨rfl, stp HR.out.low hb8⟩
end Go.Proofs.Ytdbigihmggpklaa
