/-
  The Go text of the law BeamRuns returns true.
-/
import Derived.Test.YteanddobckpcpaaBemD
namespace Go.Proofs.Yteanddobckpcpaa
open Go.ChangeShapes Go.WideShapes Go.ChangeAt Go.RowKit
set_option linter.unusedVariables false

/-- What holds between two of the reference's ticks: the beam's box, and the answer's. -/
structure BRunsW (w : World) (bx : Nat) (l a f n : Int) (g : Bool) (k : Nat) (W : World) : Prop where
  low : Below w.heap.size w W
  t : Bat W w.heap.size (bmL l a k) (bmA l a k) (bmG l a g k) (bmF l a f k)
  x : Bat W bx (bmL l a n) (bmA l a n) (bmG l a g n) (bmF l a f n)
  ne : w.heap.size < bx
theorem BRunsW.kept {w W w1 : World} {bx : Nat} {l a f n : Int} {g : Bool} {k : Nat} (h : BRunsW w bx l a f n g k W) (hb : Below W.heap.size W w1) : BRunsW w bx l a f n g k w1 :=
  ⟨stp h.low hb, h.t.kept hb, h.x.kept hb, h.ne⟩
theorem BRunsW.next {w W w1 : World} {bx : Nat} {l a f n : Int} {g : Bool} {k : Nat} (hl : 0 ≤ l ∧ l ≤ 9) (ha : 0 ≤ a ∧ a ≤ 63) (h : BRunsW w bx l a f n g k W) (hb : Below W.heap.size W w1) :
    BRunsW w bx l a f n g (k + 1) ((((w1.setCell ⟨w.heap.size, 0, none⟩ (.int .i64 (tL (bmL l a k) (bmA l a k)))).setCell ⟨w.heap.size, 1, none⟩ (.int .i64 (tA (bmA l a k)))).setCell ⟨w.heap.size, 2, none⟩ (.bool (tG (bmL l a k) (bmA l a k) (bmG l a g k)))).setCell ⟨w.heap.size, 3, none⟩ (.int .i64 (tF (bmL l a k) (bmA l a k) (bmF l a f k)))) := by
  obtain ⟨s1, s2, s3, s4⟩ := bm_step l a f k g hl ha (by omega)
  rw [s1, s2, s3, s4]
  have ht := h.t.kept hb
  exact ⟨ht.below (stp h.low hb) (Nat.le_refl _) _ _ _ _, ht.puts _ _ _ _, (h.x.kept hb).far4 (Nat.ne_of_lt h.ne) _ _ _ _, h.ne⟩
theorem bmF_bd (l a f n : Int) (h : BOk l a f) (hn : 0 ≤ n ∧ n ≤ 20000) : 0 ≤ bmF l a f n ∧ bmF l a f n ≤ 1000000 := by
  obtain ⟨l0, l1, a0, a1, f0, f1⟩ := h
  unfold bmF; omega
set_option maxRecDepth 100000 in
set_option maxHeartbeats 3200000 in
theorem Bm.runs_ok (l a f n : Int) (g : Bool) (w : World) (h : BOk l a f) (hn : 0 ≤ n ∧ n ≤ 20000) :
    Calls Try.prog 3 #[.agg #[.int .i64 l, .int .i64 a, .bool g, .int .i64 f], .int .i64 n] w fun e w' => e = .returned (.bool true) ∧ Below w.heap.size w w' := by
  have he := eq_beam
  have H := hid h
  have HN := hid hn
  obtain ⟨N, rfl⟩ := Int.eq_ofNat_of_zero_le hn.1
  have hn0 : ¬ ((N : Int) < 0) := by omega
  have hn2 : ¬ ((20000 : Int) < N) := by omega
  obtain ⟨l0, l1, a0, a1, f0, f1⟩ := h
  have l0' : ¬ (l < 0) := by omega
  have l1' : ¬ (9 < l) := by omega
  have a0' : ¬ (a < 0) := by omega
  have a1' : ¬ (63 < a) := by omega
  have f0' : ¬ (f < 0) := by omega
  have f1' : ¬ (20000 < f) := by omega
  have em : Int.tmod (64 - a) 64 = (64 - a) % 64 := Int.tmod_eq_emod_of_nonneg (by omega)
  clear l0 l1 a0 a1 f0 f1 hn
  go_enter Try.func3, Try.ntmps3
  go_wp2_with (first
    | (go_at_call 5; refine (Bm.run_any l a f N g _ H.out HN.out).mono ?_; rintro e w1 ⟨rfl, hb1⟩; have B1 := hid (stp (stA (st0 w) _) hb1); have T1 := hid ((Bat.new w _ _ _ _).kept hb1); obtain ⟨tz1, t0, t1, t2, t3, tf⟩ := T1.out)
    | (go_at_call 6; refine (Bm.next_yes l a f g _ H.out).mono ?_; rintro e w2 ⟨rfl, hb2⟩; have B2 := hid (stp (stA B1.out _) hb2); have T2 := hid ((T1.out.over _).kept hb2); have X2 := hid ((Bat.new w1 _ _ _ _).kept hb2); clear T1 t0 t1 t2 t3 tf; obtain ⟨tz2, t0, t1, t2, t3, tf⟩ := T2.out; obtain ⟨xz2, x0, x1, x2, x3, xf⟩ := X2.out)
    | (go_at_call 7; refine (Bm.beamed_any _).mono ?_; rintro e w3 ⟨rfl, hb3⟩; have B3 := hid (stp B2.out hb3); have T3 := hid (T2.out.kept hb3); have X3 := hid (X2.out.kept hb3); clear T2 X2 t0 t1 t2 t3 tf x0 x1 x2 x3 xf; obtain ⟨tz3, t0, t1, t2, t3, tf⟩ := T3.out)
    | (go_at_call 8; refine (Bm.check_yes l a f g _ H.out).mono ?_; rintro e w4 ⟨rfl, hb4⟩; have B4 := hid (stp B3.out hb4); have T4 := hid (T3.out.kept hb4); have X4 := hid (X3.out.kept hb4); clear T3 X3 t0 t1 t2 t3 tf; obtain ⟨tz4, t0, t1, t2, t3, tf⟩ := T4.out))
  have HR4 : Hid (BRunsW w w1.heap.size l a f N g 0 w4) := by
    have hz := bm_zero l a f g ⟨H.out.l0, H.out.l1⟩ ⟨H.out.a0, H.out.a1⟩
    refine ⟨B4.out, ?_, X4.out, tz1⟩
    rw [show ((0 : Nat) : Int) = 0 from rfl, hz.1, hz.2.1, hz.2.2.1, hz.2.2.2]
    exact T4.out
  generalize hbx : w1.heap.size = bx at *
  clear T4 X4 B1 B2 B3 B4 t0 t1 t2 t3 tf tz1 tz2 tz3 tz4 xz2 hb1 hb2 hb3 hb4
  go_loopw [100] (fun i wr => ∃ k : Nat, k ≤ N ∧ i = .int .i64 k ∧ BRunsW w bx l a f N g k wr) (fun i _ => N - (intOf i).toNat)
  case atStart => exact ⟨0, Nat.zero_le _, rfl, HR4.out⟩
  case round =>
    clear HR4
    obtain ⟨k, hk, rfl, hA⟩ := hrel
    have HA := hid hA
    have hy := hid (bm_bd l a k ⟨H.out.l0, H.out.l1⟩ ⟨H.out.a0, H.out.a1⟩ (by omega))
    have hfb := hid (bmF_bd l a f k H.out (by have := HN.out; omega))
    obtain ⟨tz, t0, t1, t2, t3, tf⟩ := hA.t
    by_cases h8 : k < N
    · have h8' : (k : Int) < N := by omega
      clear hA
      go_wp2_with (go_at_call 9; refine (Bm.rtick_any _ _ _ _ _ hy.out.1 hy.out.2 hfb.out).mono ?_; rintro e w9 ⟨rfl, hb9⟩; obtain ⟨k9, f9⟩ := bcell hb9; have z9 := Nat.lt_of_lt_of_le tz hb9.size)
      go_roundw
      case rel => exact ⟨k + 1, h8, by go_num, HA.out.next ⟨H.out.l0, H.out.l1⟩ ⟨H.out.a0, H.out.a1⟩ hb9⟩
      case measure => simp [intOf]; omega
    · obtain rfl : k = N := by omega
      obtain ⟨xz, x0, x1, x2, x3, xf⟩ := hA.x
      clear hA
      go_wp2
      go_ret
      exact ⟨rfl, HA.out.low⟩
end Go.Proofs.Yteanddobckpcpaa
