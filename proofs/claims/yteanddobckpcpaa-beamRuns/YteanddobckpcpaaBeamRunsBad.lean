/-
  The Go text of the law BeamRuns returns true where the beam, or so many clocks, may not be.
-/
import Derived.Test.YteanddobckpcpaaBemD
namespace Go.Proofs.Yteanddobckpcpaa
open Go.ChangeShapes Go.WideShapes Go.ChangeAt Go.RowKit
set_option linter.unusedVariables false

set_option maxRecDepth 100000 in
set_option maxHeartbeats 1600000 in
theorem Bm.runs_no0 (l a f n : Int) (g : Bool) (w : World) (h : ¬ BOk l a f)  (h0 : l < 0) :
    Calls Try.prog 3 #[.agg #[.int .i64 l, .int .i64 a, .bool g, .int .i64 f], .int .i64 n] w fun e w' => e = .returned (.bool true) ∧ Below w.heap.size w w' := by
  have he := eq_beam
  have H := hid h
  have HB : Hid (¬ BOk l a f ∨ (BOk l a f ∧ ¬ (0 ≤ n ∧ n ≤ 20000))) := hid (Or.inl h)
  clear h
  go_enter Try.func3, Try.ntmps3
  go_wp2_with (first
    | (go_at_call 5; refine (Bm.run_bad l a f n g _ HB.out).mono ?_; rintro e w1 ⟨rfl, hb1⟩; have B1 := hid (stp (stA (st0 w) _) hb1); have T1 := hid ((Bat.new w _ _ _ _).kept hb1); obtain ⟨tz1, t0, t1, t2, t3, tf⟩ := T1.out)
    | (go_at_call 6; refine (Bm.next_no l a f g _ H.out).mono ?_; rintro e w2 ⟨rfl, hb2⟩; have B2 := hid (stp (stA B1.out _) hb2); have T2 := hid ((T1.out.over _).kept hb2); have X2 := hid ((Bat.new w1 _ _ _ _).kept hb2); clear T1 t0 t1 t2 t3 tf; obtain ⟨tz2, t0, t1, t2, t3, tf⟩ := T2.out; obtain ⟨xz2, x0, x1, x2, x3, xf⟩ := X2.out)
    | (go_at_call 7; refine (Bm.beamed_any _).mono ?_; rintro e w3 ⟨rfl, hb3⟩; have B3 := hid (stp B2.out hb3); have T3 := hid (T2.out.kept hb3); have X3 := hid (X2.out.kept hb3); clear T2 X2 t0 t1 t2 t3 tf x0 x1 x2 x3 xf; obtain ⟨tz3, t0, t1, t2, t3, tf⟩ := T3.out)
    | (go_at_call 8; refine (Bm.check_no l a f g _ H.out).mono ?_; rintro e w4 ⟨rfl, hb4⟩; have B4 := hid (stp B3.out hb4); have T4 := hid (T3.out.kept hb4); have X4 := hid (X3.out.kept hb4); clear T3 X3 t0 t1 t2 t3 tf; obtain ⟨tz4, t0, t1, t2, t3, tf⟩ := T4.out; obtain ⟨xz4, x0, x1, x2, x3, xf⟩ := X4.out))
  go_ret
  exact ⟨rfl, B4.out⟩
set_option maxRecDepth 100000 in
set_option maxHeartbeats 1600000 in
theorem Bm.runs_no1 (l a f n : Int) (g : Bool) (w : World) (h : ¬ BOk l a f) (h0 : ¬ (l < 0)) (h1 : 9 < l) :
    Calls Try.prog 3 #[.agg #[.int .i64 l, .int .i64 a, .bool g, .int .i64 f], .int .i64 n] w fun e w' => e = .returned (.bool true) ∧ Below w.heap.size w w' := by
  have he := eq_beam
  have H := hid h
  have HB : Hid (¬ BOk l a f ∨ (BOk l a f ∧ ¬ (0 ≤ n ∧ n ≤ 20000))) := hid (Or.inl h)
  clear h
  go_enter Try.func3, Try.ntmps3
  go_wp2_with (first
    | (go_at_call 5; refine (Bm.run_bad l a f n g _ HB.out).mono ?_; rintro e w1 ⟨rfl, hb1⟩; have B1 := hid (stp (stA (st0 w) _) hb1); have T1 := hid ((Bat.new w _ _ _ _).kept hb1); obtain ⟨tz1, t0, t1, t2, t3, tf⟩ := T1.out)
    | (go_at_call 6; refine (Bm.next_no l a f g _ H.out).mono ?_; rintro e w2 ⟨rfl, hb2⟩; have B2 := hid (stp (stA B1.out _) hb2); have T2 := hid ((T1.out.over _).kept hb2); have X2 := hid ((Bat.new w1 _ _ _ _).kept hb2); clear T1 t0 t1 t2 t3 tf; obtain ⟨tz2, t0, t1, t2, t3, tf⟩ := T2.out; obtain ⟨xz2, x0, x1, x2, x3, xf⟩ := X2.out)
    | (go_at_call 7; refine (Bm.beamed_any _).mono ?_; rintro e w3 ⟨rfl, hb3⟩; have B3 := hid (stp B2.out hb3); have T3 := hid (T2.out.kept hb3); have X3 := hid (X2.out.kept hb3); clear T2 X2 t0 t1 t2 t3 tf x0 x1 x2 x3 xf; obtain ⟨tz3, t0, t1, t2, t3, tf⟩ := T3.out)
    | (go_at_call 8; refine (Bm.check_no l a f g _ H.out).mono ?_; rintro e w4 ⟨rfl, hb4⟩; have B4 := hid (stp B3.out hb4); have T4 := hid (T3.out.kept hb4); have X4 := hid (X3.out.kept hb4); clear T3 X3 t0 t1 t2 t3 tf; obtain ⟨tz4, t0, t1, t2, t3, tf⟩ := T4.out; obtain ⟨xz4, x0, x1, x2, x3, xf⟩ := X4.out))
  go_ret
  exact ⟨rfl, B4.out⟩
set_option maxRecDepth 100000 in
set_option maxHeartbeats 1600000 in
theorem Bm.runs_no2 (l a f n : Int) (g : Bool) (w : World) (h : ¬ BOk l a f) (h0 : ¬ (l < 0)) (h1 : ¬ (9 < l)) (h2 : a < 0) :
    Calls Try.prog 3 #[.agg #[.int .i64 l, .int .i64 a, .bool g, .int .i64 f], .int .i64 n] w fun e w' => e = .returned (.bool true) ∧ Below w.heap.size w w' := by
  have he := eq_beam
  have H := hid h
  have HB : Hid (¬ BOk l a f ∨ (BOk l a f ∧ ¬ (0 ≤ n ∧ n ≤ 20000))) := hid (Or.inl h)
  clear h
  go_enter Try.func3, Try.ntmps3
  go_wp2_with (first
    | (go_at_call 5; refine (Bm.run_bad l a f n g _ HB.out).mono ?_; rintro e w1 ⟨rfl, hb1⟩; have B1 := hid (stp (stA (st0 w) _) hb1); have T1 := hid ((Bat.new w _ _ _ _).kept hb1); obtain ⟨tz1, t0, t1, t2, t3, tf⟩ := T1.out)
    | (go_at_call 6; refine (Bm.next_no l a f g _ H.out).mono ?_; rintro e w2 ⟨rfl, hb2⟩; have B2 := hid (stp (stA B1.out _) hb2); have T2 := hid ((T1.out.over _).kept hb2); have X2 := hid ((Bat.new w1 _ _ _ _).kept hb2); clear T1 t0 t1 t2 t3 tf; obtain ⟨tz2, t0, t1, t2, t3, tf⟩ := T2.out; obtain ⟨xz2, x0, x1, x2, x3, xf⟩ := X2.out)
    | (go_at_call 7; refine (Bm.beamed_any _).mono ?_; rintro e w3 ⟨rfl, hb3⟩; have B3 := hid (stp B2.out hb3); have T3 := hid (T2.out.kept hb3); have X3 := hid (X2.out.kept hb3); clear T2 X2 t0 t1 t2 t3 tf x0 x1 x2 x3 xf; obtain ⟨tz3, t0, t1, t2, t3, tf⟩ := T3.out)
    | (go_at_call 8; refine (Bm.check_no l a f g _ H.out).mono ?_; rintro e w4 ⟨rfl, hb4⟩; have B4 := hid (stp B3.out hb4); have T4 := hid (T3.out.kept hb4); have X4 := hid (X3.out.kept hb4); clear T3 X3 t0 t1 t2 t3 tf; obtain ⟨tz4, t0, t1, t2, t3, tf⟩ := T4.out; obtain ⟨xz4, x0, x1, x2, x3, xf⟩ := X4.out))
  go_ret
  exact ⟨rfl, B4.out⟩
set_option maxRecDepth 100000 in
set_option maxHeartbeats 1600000 in
theorem Bm.runs_no3 (l a f n : Int) (g : Bool) (w : World) (h : ¬ BOk l a f) (h0 : ¬ (l < 0)) (h1 : ¬ (9 < l)) (h2 : ¬ (a < 0)) (h3 : 63 < a) :
    Calls Try.prog 3 #[.agg #[.int .i64 l, .int .i64 a, .bool g, .int .i64 f], .int .i64 n] w fun e w' => e = .returned (.bool true) ∧ Below w.heap.size w w' := by
  have he := eq_beam
  have H := hid h
  have HB : Hid (¬ BOk l a f ∨ (BOk l a f ∧ ¬ (0 ≤ n ∧ n ≤ 20000))) := hid (Or.inl h)
  clear h
  go_enter Try.func3, Try.ntmps3
  go_wp2_with (first
    | (go_at_call 5; refine (Bm.run_bad l a f n g _ HB.out).mono ?_; rintro e w1 ⟨rfl, hb1⟩; have B1 := hid (stp (stA (st0 w) _) hb1); have T1 := hid ((Bat.new w _ _ _ _).kept hb1); obtain ⟨tz1, t0, t1, t2, t3, tf⟩ := T1.out)
    | (go_at_call 6; refine (Bm.next_no l a f g _ H.out).mono ?_; rintro e w2 ⟨rfl, hb2⟩; have B2 := hid (stp (stA B1.out _) hb2); have T2 := hid ((T1.out.over _).kept hb2); have X2 := hid ((Bat.new w1 _ _ _ _).kept hb2); clear T1 t0 t1 t2 t3 tf; obtain ⟨tz2, t0, t1, t2, t3, tf⟩ := T2.out; obtain ⟨xz2, x0, x1, x2, x3, xf⟩ := X2.out)
    | (go_at_call 7; refine (Bm.beamed_any _).mono ?_; rintro e w3 ⟨rfl, hb3⟩; have B3 := hid (stp B2.out hb3); have T3 := hid (T2.out.kept hb3); have X3 := hid (X2.out.kept hb3); clear T2 X2 t0 t1 t2 t3 tf x0 x1 x2 x3 xf; obtain ⟨tz3, t0, t1, t2, t3, tf⟩ := T3.out)
    | (go_at_call 8; refine (Bm.check_no l a f g _ H.out).mono ?_; rintro e w4 ⟨rfl, hb4⟩; have B4 := hid (stp B3.out hb4); have T4 := hid (T3.out.kept hb4); have X4 := hid (X3.out.kept hb4); clear T3 X3 t0 t1 t2 t3 tf; obtain ⟨tz4, t0, t1, t2, t3, tf⟩ := T4.out; obtain ⟨xz4, x0, x1, x2, x3, xf⟩ := X4.out))
  go_ret
  exact ⟨rfl, B4.out⟩
set_option maxRecDepth 100000 in
set_option maxHeartbeats 1600000 in
theorem Bm.runs_no4 (l a f n : Int) (g : Bool) (w : World) (h : ¬ BOk l a f) (h0 : ¬ (l < 0)) (h1 : ¬ (9 < l)) (h2 : ¬ (a < 0)) (h3 : ¬ (63 < a)) (h4 : f < 0) :
    Calls Try.prog 3 #[.agg #[.int .i64 l, .int .i64 a, .bool g, .int .i64 f], .int .i64 n] w fun e w' => e = .returned (.bool true) ∧ Below w.heap.size w w' := by
  have he := eq_beam
  have H := hid h
  have HB : Hid (¬ BOk l a f ∨ (BOk l a f ∧ ¬ (0 ≤ n ∧ n ≤ 20000))) := hid (Or.inl h)
  clear h
  go_enter Try.func3, Try.ntmps3
  go_wp2_with (first
    | (go_at_call 5; refine (Bm.run_bad l a f n g _ HB.out).mono ?_; rintro e w1 ⟨rfl, hb1⟩; have B1 := hid (stp (stA (st0 w) _) hb1); have T1 := hid ((Bat.new w _ _ _ _).kept hb1); obtain ⟨tz1, t0, t1, t2, t3, tf⟩ := T1.out)
    | (go_at_call 6; refine (Bm.next_no l a f g _ H.out).mono ?_; rintro e w2 ⟨rfl, hb2⟩; have B2 := hid (stp (stA B1.out _) hb2); have T2 := hid ((T1.out.over _).kept hb2); have X2 := hid ((Bat.new w1 _ _ _ _).kept hb2); clear T1 t0 t1 t2 t3 tf; obtain ⟨tz2, t0, t1, t2, t3, tf⟩ := T2.out; obtain ⟨xz2, x0, x1, x2, x3, xf⟩ := X2.out)
    | (go_at_call 7; refine (Bm.beamed_any _).mono ?_; rintro e w3 ⟨rfl, hb3⟩; have B3 := hid (stp B2.out hb3); have T3 := hid (T2.out.kept hb3); have X3 := hid (X2.out.kept hb3); clear T2 X2 t0 t1 t2 t3 tf x0 x1 x2 x3 xf; obtain ⟨tz3, t0, t1, t2, t3, tf⟩ := T3.out)
    | (go_at_call 8; refine (Bm.check_no l a f g _ H.out).mono ?_; rintro e w4 ⟨rfl, hb4⟩; have B4 := hid (stp B3.out hb4); have T4 := hid (T3.out.kept hb4); have X4 := hid (X3.out.kept hb4); clear T3 X3 t0 t1 t2 t3 tf; obtain ⟨tz4, t0, t1, t2, t3, tf⟩ := T4.out; obtain ⟨xz4, x0, x1, x2, x3, xf⟩ := X4.out))
  go_ret
  exact ⟨rfl, B4.out⟩
set_option maxRecDepth 100000 in
set_option maxHeartbeats 1600000 in
theorem Bm.runs_no5 (l a f n : Int) (g : Bool) (w : World) (h : ¬ BOk l a f) (h0 : ¬ (l < 0)) (h1 : ¬ (9 < l)) (h2 : ¬ (a < 0)) (h3 : ¬ (63 < a)) (h4 : ¬ (f < 0)) (h5 : 20000 < f) :
    Calls Try.prog 3 #[.agg #[.int .i64 l, .int .i64 a, .bool g, .int .i64 f], .int .i64 n] w fun e w' => e = .returned (.bool true) ∧ Below w.heap.size w w' := by
  have he := eq_beam
  have H := hid h
  have HB : Hid (¬ BOk l a f ∨ (BOk l a f ∧ ¬ (0 ≤ n ∧ n ≤ 20000))) := hid (Or.inl h)
  clear h
  go_enter Try.func3, Try.ntmps3
  go_wp2_with (first
    | (go_at_call 5; refine (Bm.run_bad l a f n g _ HB.out).mono ?_; rintro e w1 ⟨rfl, hb1⟩; have B1 := hid (stp (stA (st0 w) _) hb1); have T1 := hid ((Bat.new w _ _ _ _).kept hb1); obtain ⟨tz1, t0, t1, t2, t3, tf⟩ := T1.out)
    | (go_at_call 6; refine (Bm.next_no l a f g _ H.out).mono ?_; rintro e w2 ⟨rfl, hb2⟩; have B2 := hid (stp (stA B1.out _) hb2); have T2 := hid ((T1.out.over _).kept hb2); have X2 := hid ((Bat.new w1 _ _ _ _).kept hb2); clear T1 t0 t1 t2 t3 tf; obtain ⟨tz2, t0, t1, t2, t3, tf⟩ := T2.out; obtain ⟨xz2, x0, x1, x2, x3, xf⟩ := X2.out)
    | (go_at_call 7; refine (Bm.beamed_any _).mono ?_; rintro e w3 ⟨rfl, hb3⟩; have B3 := hid (stp B2.out hb3); have T3 := hid (T2.out.kept hb3); have X3 := hid (X2.out.kept hb3); clear T2 X2 t0 t1 t2 t3 tf x0 x1 x2 x3 xf; obtain ⟨tz3, t0, t1, t2, t3, tf⟩ := T3.out)
    | (go_at_call 8; refine (Bm.check_no l a f g _ H.out).mono ?_; rintro e w4 ⟨rfl, hb4⟩; have B4 := hid (stp B3.out hb4); have T4 := hid (T3.out.kept hb4); have X4 := hid (X3.out.kept hb4); clear T3 X3 t0 t1 t2 t3 tf; obtain ⟨tz4, t0, t1, t2, t3, tf⟩ := T4.out; obtain ⟨xz4, x0, x1, x2, x3, xf⟩ := X4.out))
  go_ret
  exact ⟨rfl, B4.out⟩
set_option maxRecDepth 100000 in
set_option maxHeartbeats 1600000 in
theorem Bm.runs_n0 (l a f n : Int) (g : Bool) (w : World) (h : BOk l a f) (hn : n < 0) :
    Calls Try.prog 3 #[.agg #[.int .i64 l, .int .i64 a, .bool g, .int .i64 f], .int .i64 n] w fun e w' => e = .returned (.bool true) ∧ Below w.heap.size w w' := by
  have he := eq_beam
  have H := hid h
  have HB : Hid (¬ BOk l a f ∨ (BOk l a f ∧ ¬ (0 ≤ n ∧ n ≤ 20000))) := hid (Or.inr ⟨h, by omega⟩)
  obtain ⟨l0, l1, a0, a1, f0, f1⟩ := h
  have l0' : ¬ (l < 0) := by omega
  have l1' : ¬ (9 < l) := by omega
  have a0' : ¬ (a < 0) := by omega
  have a1' : ¬ (63 < a) := by omega
  have f0' : ¬ (f < 0) := by omega
  have f1' : ¬ (20000 < f) := by omega
  have em : Int.tmod (64 - a) 64 = (64 - a) % 64 := Int.tmod_eq_emod_of_nonneg (by omega)
  clear l0 l1 a0 a1 f0 f1
  go_enter Try.func3, Try.ntmps3
  go_wp2_with (first
    | (go_at_call 5; refine (Bm.run_bad l a f n g _ HB.out).mono ?_; rintro e w1 ⟨rfl, hb1⟩; have B1 := hid (stp (stA (st0 w) _) hb1); have T1 := hid ((Bat.new w _ _ _ _).kept hb1); obtain ⟨tz1, t0, t1, t2, t3, tf⟩ := T1.out)
    | (go_at_call 6; refine (Bm.next_yes l a f g _ H.out).mono ?_; rintro e w2 ⟨rfl, hb2⟩; have B2 := hid (stp (stA B1.out _) hb2); have T2 := hid ((T1.out.over _).kept hb2); have X2 := hid ((Bat.new w1 _ _ _ _).kept hb2); clear T1 t0 t1 t2 t3 tf; obtain ⟨tz2, t0, t1, t2, t3, tf⟩ := T2.out; obtain ⟨xz2, x0, x1, x2, x3, xf⟩ := X2.out)
    | (go_at_call 7; refine (Bm.beamed_any _).mono ?_; rintro e w3 ⟨rfl, hb3⟩; have B3 := hid (stp B2.out hb3); have T3 := hid (T2.out.kept hb3); have X3 := hid (X2.out.kept hb3); clear T2 X2 t0 t1 t2 t3 tf x0 x1 x2 x3 xf; obtain ⟨tz3, t0, t1, t2, t3, tf⟩ := T3.out)
    | (go_at_call 8; refine (Bm.check_yes l a f g _ H.out).mono ?_; rintro e w4 ⟨rfl, hb4⟩; have B4 := hid (stp B3.out hb4); have T4 := hid (T3.out.kept hb4); have X4 := hid (X3.out.kept hb4); clear T3 X3 t0 t1 t2 t3 tf; obtain ⟨tz4, t0, t1, t2, t3, tf⟩ := T4.out; obtain ⟨xz4, x0, x1, x2, x3, xf⟩ := X4.out))
  go_ret
  exact ⟨rfl, B4.out⟩
set_option maxRecDepth 100000 in
set_option maxHeartbeats 1600000 in
theorem Bm.runs_n1 (l a f n : Int) (g : Bool) (w : World) (h : BOk l a f) (n0 : ¬ (n < 0)) (hn : 20000 < n) :
    Calls Try.prog 3 #[.agg #[.int .i64 l, .int .i64 a, .bool g, .int .i64 f], .int .i64 n] w fun e w' => e = .returned (.bool true) ∧ Below w.heap.size w w' := by
  have he := eq_beam
  have H := hid h
  have HB : Hid (¬ BOk l a f ∨ (BOk l a f ∧ ¬ (0 ≤ n ∧ n ≤ 20000))) := hid (Or.inr ⟨h, by omega⟩)
  obtain ⟨l0, l1, a0, a1, f0, f1⟩ := h
  have l0' : ¬ (l < 0) := by omega
  have l1' : ¬ (9 < l) := by omega
  have a0' : ¬ (a < 0) := by omega
  have a1' : ¬ (63 < a) := by omega
  have f0' : ¬ (f < 0) := by omega
  have f1' : ¬ (20000 < f) := by omega
  have em : Int.tmod (64 - a) 64 = (64 - a) % 64 := Int.tmod_eq_emod_of_nonneg (by omega)
  clear l0 l1 a0 a1 f0 f1
  go_enter Try.func3, Try.ntmps3
  go_wp2_with (first
    | (go_at_call 5; refine (Bm.run_bad l a f n g _ HB.out).mono ?_; rintro e w1 ⟨rfl, hb1⟩; have B1 := hid (stp (stA (st0 w) _) hb1); have T1 := hid ((Bat.new w _ _ _ _).kept hb1); obtain ⟨tz1, t0, t1, t2, t3, tf⟩ := T1.out)
    | (go_at_call 6; refine (Bm.next_yes l a f g _ H.out).mono ?_; rintro e w2 ⟨rfl, hb2⟩; have B2 := hid (stp (stA B1.out _) hb2); have T2 := hid ((T1.out.over _).kept hb2); have X2 := hid ((Bat.new w1 _ _ _ _).kept hb2); clear T1 t0 t1 t2 t3 tf; obtain ⟨tz2, t0, t1, t2, t3, tf⟩ := T2.out; obtain ⟨xz2, x0, x1, x2, x3, xf⟩ := X2.out)
    | (go_at_call 7; refine (Bm.beamed_any _).mono ?_; rintro e w3 ⟨rfl, hb3⟩; have B3 := hid (stp B2.out hb3); have T3 := hid (T2.out.kept hb3); have X3 := hid (X2.out.kept hb3); clear T2 X2 t0 t1 t2 t3 tf x0 x1 x2 x3 xf; obtain ⟨tz3, t0, t1, t2, t3, tf⟩ := T3.out)
    | (go_at_call 8; refine (Bm.check_yes l a f g _ H.out).mono ?_; rintro e w4 ⟨rfl, hb4⟩; have B4 := hid (stp B3.out hb4); have T4 := hid (T3.out.kept hb4); have X4 := hid (X3.out.kept hb4); clear T3 X3 t0 t1 t2 t3 tf; obtain ⟨tz4, t0, t1, t2, t3, tf⟩ := T4.out; obtain ⟨xz4, x0, x1, x2, x3, xf⟩ := X4.out))
  go_ret
  exact ⟨rfl, B4.out⟩
theorem Bm.runs_bad (l a f n : Int) (g : Bool) (w : World) (h : ¬ (BOk l a f ∧ 0 ≤ n ∧ n ≤ 20000)) :
    Calls Try.prog 3 #[.agg #[.int .i64 l, .int .i64 a, .bool g, .int .i64 f], .int .i64 n] w fun e w' => e = .returned (.bool true) ∧ Below w.heap.size w w' := by
  by_cases hB : BOk l a f
  · by_cases h0 : n < 0
    · exact Bm.runs_n0 l a f n g w hB h0
    · exact Bm.runs_n1 l a f n g w hB h0 (by
        by_cases h1 : 20000 < n
        · exact h1
        · exact absurd ⟨hB, by omega, by omega⟩ h)
  · by_cases h0 : l < 0
    · exact Bm.runs_no0 l a f n g w hB h0
    by_cases h1 : 9 < l
    · exact Bm.runs_no1 l a f n g w hB h0 h1
    by_cases h2 : a < 0
    · exact Bm.runs_no2 l a f n g w hB h0 h1 h2
    by_cases h3 : 63 < a
    · exact Bm.runs_no3 l a f n g w hB h0 h1 h2 h3
    by_cases h4 : f < 0
    · exact Bm.runs_no4 l a f n g w hB h0 h1 h2 h3 h4
    by_cases h5 : 20000 < f
    · exact Bm.runs_no5 l a f n g w hB h0 h1 h2 h3 h4 h5
    · exact absurd ⟨by omega, by omega, by omega, by omega, by omega, by omega⟩ hB
end Go.Proofs.Yteanddobckpcpaa
