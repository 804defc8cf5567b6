/-
  The Go text of the law BeamParts returns true.
-/
import Derived.Test.YteanddobckpcpaaBemD
namespace Go.Proofs.Yteanddobckpcpaa
open Go.ChangeShapes Go.WideShapes Go.ChangeAt Go.RowKit
set_option linter.unusedVariables false

set_option maxRecDepth 100000 in
set_option maxHeartbeats 1600000 in
theorem Bm.parts_no (l a f n m : Int) (g : Bool) (w : World) (h : ¬ BOk l a f ∨ (BOk l a f ∧ ¬ (0 ≤ n ∧ n ≤ 20000))) :
    Calls Try.prog 4 #[.agg #[.int .i64 l, .int .i64 a, .bool g, .int .i64 f], .int .i64 n, .int .i64 m] w fun e w' => e = .returned (.bool true) ∧ Below w.heap.size w w' := by
  have H := hid h
  clear h
  go_enter Try.func4, Try.ntmps4
  go_wp2_with (first
    | (go_at_call 5; refine (Bm.run_bad l a f n g _ H.out).mono ?_; rintro e w1 ⟨rfl, hb1⟩; have B1 := hid (stp (stA (st0 w) _) hb1))
    | (have zz := B2; clear zz; go_at_call 7; refine (Bm.beamed_any _).mono ?_; rintro e w3 ⟨rfl, hb3⟩; have B3 := hid (stp B2.out hb3))
    | (go_at_call 7; refine (Bm.beamed_any _).mono ?_; rintro e w2 ⟨rfl, hb2⟩; have B2 := hid (stp (stA B1.out _) hb2)))
  go_ret
  exact ⟨rfl, B3.out⟩
set_option maxRecDepth 100000 in
set_option maxHeartbeats 1600000 in
theorem Bm.parts_m (l a f n m : Int) (g : Bool) (w : World) (h : BOk l a f) (hn : 0 ≤ n ∧ n ≤ 20000) (hm : m < 0 ∨ (0 ≤ m ∧ 20000 - n < m)) :
    Calls Try.prog 4 #[.agg #[.int .i64 l, .int .i64 a, .bool g, .int .i64 f], .int .i64 n, .int .i64 m] w fun e w' => e = .returned (.bool true) ∧ Below w.heap.size w w' := by
  have H := hid h
  have HN := hid hn
  obtain ⟨n0, n1⟩ := hn
  clear h
  rcases hm with h | ⟨h0, h⟩
  all_goals
    go_enter Try.func4, Try.ntmps4
    go_wp2_with (first
      | (go_at_call 5; refine (Bm.run_any l a f n g _ H.out HN.out).mono ?_; rintro e w1 ⟨rfl, hb1⟩; have B1 := hid (stp (stA (st0 w) _) hb1))
      | (have zz := B2; clear zz; go_at_call 7; refine (Bm.beamed_any _).mono ?_; rintro e w3 ⟨rfl, hb3⟩; have B3 := hid (stp B2.out hb3))
      | (go_at_call 7; refine (Bm.beamed_any _).mono ?_; rintro e w2 ⟨rfl, hb2⟩; have B2 := hid (stp (stA B1.out _) hb2)))
    go_ret
    exact ⟨rfl, B3.out⟩
set_option maxRecDepth 100000 in
set_option maxHeartbeats 1600000 in
theorem Bm.parts_f (l a f n m : Int) (g : Bool) (w : World) (h : BOk l a f) (hn : 0 ≤ n ∧ n ≤ 20000) (hm : 0 ≤ m) (hm2 : m ≤ 20000 - n) (hx : ¬ BOk (bmL l a n) (bmA l a n) (bmF l a f n)) :
    Calls Try.prog 4 #[.agg #[.int .i64 l, .int .i64 a, .bool g, .int .i64 f], .int .i64 n, .int .i64 m] w fun e w' => e = .returned (.bool true) ∧ Below w.heap.size w w' := by
  have H := hid h
  have HN := hid hn
  have HX := hid hx
  obtain ⟨n0, n1⟩ := hn
  clear h hx
  go_enter Try.func4, Try.ntmps4
  go_wp2_with (first
    | (go_at_call 5; refine (Bm.run_any l a f n g _ H.out HN.out).mono ?_; rintro e w1 ⟨rfl, hb1⟩; have B1 := hid (stp (stA (st0 w) _) hb1))
    | (go_at_call 8; refine (Bm.check_no _ _ _ _ _ HX.out).mono ?_; rintro e w4 ⟨rfl, hb4⟩; have B4 := hid (stp B2.out hb4))
    | (have zz := B4; clear zz; go_at_call 7; refine (Bm.beamed_any _).mono ?_; rintro e w3 ⟨rfl, hb3⟩; have B3 := hid (stp B4.out hb3))
    | (go_at_call 7; refine (Bm.beamed_any _).mono ?_; rintro e w2 ⟨rfl, hb2⟩; have B2 := hid (stp (stA B1.out _) hb2); have X2 := hid ((Bat.new w1 _ _ _ _).kept hb2); obtain ⟨xz, x0, x1, x2, x3, xf⟩ := X2.out))
  go_ret
  exact ⟨rfl, B3.out⟩
set_option maxRecDepth 100000 in
set_option maxHeartbeats 1600000 in
theorem Bm.parts_ok (l a f n m : Int) (g : Bool) (w : World) (h : BOk l a f) (hn : 0 ≤ n ∧ n ≤ 20000) (hm : 0 ≤ m) (hm2 : m ≤ 20000 - n) (hx : BOk (bmL l a n) (bmA l a n) (bmF l a f n)) :
    Calls Try.prog 4 #[.agg #[.int .i64 l, .int .i64 a, .bool g, .int .i64 f], .int .i64 n, .int .i64 m] w fun e w' => e = .returned (.bool true) ∧ Below w.heap.size w w' := by
  have he := eq_beam
  have H := hid h
  have HN := hid hn
  have HX := hid hx
  have HM : Hid (0 ≤ m ∧ m ≤ 20000) := hid (by omega)
  have HNM : Hid (0 ≤ n + m ∧ n + m ≤ 20000) := hid (by omega)
  have Q := hid (bm_add l a f n m g ⟨h.l0, h.l1⟩ ⟨h.a0, h.a1⟩ hn.1 hm)
  have f0 := h.f0
  have f1 := h.f1
  have q1 : bmL l a 640 = l := by unfold bmL; have := h.l0; have := h.l1; have := h.a0; have := h.a1; omega
  have q2 : bmA l a 640 = a := by unfold bmA; have := h.a0; have := h.a1; omega
  have q3 : bmG l a g 640 = true := by unfold bmG; rw [decide_eq_true (by have := h.l0; have := h.l1; have := h.a0; have := h.a1; omega), Bool.or_true]
  have q4 : bmF l a f 640 = f + 1 := by unfold bmF; have := h.l0; have := h.l1; have := h.a0; have := h.a1; omega
  have Q4 := hid (And.intro q1 (And.intro q2 (And.intro q3 q4)))
  obtain ⟨n0, n1⟩ := hn
  clear h hx q1 q2 q3 q4
  go_enter Try.func4, Try.ntmps4
  go_wp2_with (first
    | (have zz := B4; clear zz; go_at_call 5; refine (Bm.run_any _ _ _ m _ _ HX.out HM.out).mono ?_; rw [Q.out.1, Q.out.2.1, Q.out.2.2.1, Q.out.2.2.2]; rintro e w5 ⟨rfl, hb5⟩; have B5 := hid (stp B4.out hb5); have T5 := hid (T4.out.kept hb5); clear B4 T4 t0 t1 t2 t3 tf x0 x1 x2 x3 xf; obtain ⟨tz5, t0, t1, t2, t3, tf⟩ := T5.out)
    | (have zz := B5; clear zz; go_at_call 5; refine (Bm.run_any l a f (n + m) g _ H.out HNM.out).mono ?_; rintro e w6 ⟨rfl, hb6⟩; have B6 := hid (stp (stA B5.out _) hb6); have T6 := hid ((T5.out.over _).kept hb6); have Y6 := hid ((Bat.new w5 _ _ _ _).kept hb6); clear B5 T5 t0 t1 t2 t3 tf; obtain ⟨tz6, t0, t1, t2, t3, tf⟩ := T6.out)
    | (have zz := B6; clear zz; go_at_call 5; refine (Bm.run_any l a f 640 g _ H.out (by omega)).mono ?_; rw [Q4.out.1, Q4.out.2.1, Q4.out.2.2.1, Q4.out.2.2.2]; rintro e w7 ⟨rfl, hb7⟩; have B7 := hid (stp (stA B6.out _) hb7); have T7 := hid ((T6.out.over _).kept hb7); have Y7 := hid ((Y6.out.over _).kept hb7); have Z7 := hid ((Bat.new w6 _ _ _ _).kept hb7); clear B6 T6 Y6 t0 t1 t2 t3 tf; obtain ⟨tz7, t0, t1, t2, t3, tf⟩ := T7.out; obtain ⟨yz7, y0, y1, y2, y3, yf⟩ := Y7.out; obtain ⟨zz7, z0, z1, z2, z3, zf⟩ := Z7.out)
    | (go_at_call 5; refine (Bm.run_any l a f n g _ H.out HN.out).mono ?_; rintro e w1 ⟨rfl, hb1⟩; have B1 := hid (stp (stA (st0 w) _) hb1); have T1 := hid ((Bat.new w _ _ _ _).kept hb1))
    | (go_at_call 8; refine (Bm.check_yes _ _ _ _ _ HX.out).mono ?_; rintro e w4 ⟨rfl, hb4⟩; have B4 := hid (stp B2.out hb4); have T4 := hid (T2.out.kept hb4); have X4 := hid (X2.out.kept hb4); clear B2 T2 X2 x0 x1 x2 x3 xf; obtain ⟨tz, t0, t1, t2, t3, tf⟩ := T4.out; obtain ⟨xz4, x0, x1, x2, x3, xf⟩ := X4.out)
    | (go_at_call 7; refine (Bm.beamed_any _).mono ?_; rintro e w2 ⟨rfl, hb2⟩; have B2 := hid (stp (stA B1.out _) hb2); have T2 := hid ((T1.out.over _).kept hb2); have X2 := hid ((Bat.new w1 _ _ _ _).kept hb2); obtain ⟨xz, x0, x1, x2, x3, xf⟩ := X2.out))
  go_ret
  exact ⟨rfl, stA B7.out _⟩
end Go.Proofs.Yteanddobckpcpaa
