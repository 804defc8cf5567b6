/-
  The Go text of the law TimerParts returns true.
-/
import Derived.Test.YtdbigihmggpklaaTimE
namespace Go.Proofs.Ytdbigihmggpklaa
open Go.ChangeShapes Go.WideShapes Go.ChangeAt Go.RowKit
set_option linter.unusedVariables false

set_option maxRecDepth 100000 in
set_option maxHeartbeats 1600000 in
theorem parts_bad (r c a b : Int) (on g : Bool) (w : World) (hn : a < 0 ∨ (0 ≤ a ∧ b < 0) ∨ (0 ≤ a ∧ 0 ≤ b ∧ 20000 < a) ∨ (0 ≤ a ∧ 0 ≤ b ∧ a ≤ 20000 ∧ 20000 - a < b)) :
    Calls Try.prog 4 #[.agg #[.int .u16 r, .int .u16 c, .bool on, .bool g], .int .i64 a, .int .i64 b] w fun e w' => e = .returned (.bool true) ∧ Below w.heap.size w w' := by
  rcases hn with h | ⟨h1, h⟩ | ⟨h1, h2, h⟩ | ⟨h1, h2, h3, h⟩
  all_goals
    go_enter Try.func4, Try.ntmps4
    go_wp2_with (go_at_call 7; refine (timed_any _).mono ?_; rintro e w3 ⟨rfl, hb3⟩)
    go_ret
    exact ⟨rfl, stp (stA (st0 w) _) hb3⟩
set_option maxRecDepth 100000 in
set_option maxHeartbeats 1600000 in
theorem parts_off (r c a b : Int) (g : Bool) (w : World) (hr : 0 ≤ r ∧ r ≤ 65535) (hc : 0 ≤ c ∧ c ≤ 65535) (ha : 0 ≤ a) (hb : 0 ≤ b) (hab : a + b ≤ 20000) :
    Calls Try.prog 4 #[.agg #[.int .u16 r, .int .u16 c, .bool false, .bool g], .int .i64 a, .int .i64 b] w fun e w' => e = .returned (.bool true) ∧ Below w.heap.size w w' := by
  have hne := neq_timer
  have ha2 : a ≤ 20000 := by omega
  have hb2 : b ≤ 20000 - a := by omega
  have hb20 : b ≤ 20000 := by omega
  have hab0 : 0 ≤ a + b := by omega
  obtain ⟨q1, q2⟩ := rnC_add r c false g a b hr hc ha hb
  have hy := rn_bd r c false a hr hc ha
  go_enter Try.func4, Try.ntmps4
  go_wp2_with (first
    | (have zz := B4; clear zz; go_at_call 11; refine (next_any _ _ false _ _ hc).mono ?_; rintro e w5 ⟨rfl, hb5⟩; have B5 := hid (stp (B4.out.setCell (Nat.le_refl _) _) hb5))
    | (have zz := B2; clear zz; go_at_call 6; refine (run_any _ _ (a + b) _ _ _ hr hc ⟨hab0, hab⟩).mono ?_; rintro e w3 ⟨rfl, hb3⟩; have B3 := hid (stp (stA B2.out _) hb3); have T3 := hid ((T2.out.over _).kept hb3); have X3 := hid ((X2.out.over _).kept hb3); have Y3 := hid ((Tat.new w2 _ _ _ _).kept hb3); clear T2 X2 tc1 tc2 tc3 tc4 xc1 xc2 xc3 xc4)
    | (have zz := B1; clear zz; go_at_call 6; refine (run_any _ _ b _ _ _ hr hy ⟨hb, hb20⟩).mono ?_; rw [q1, q2]; rintro e w2 ⟨rfl, hb2⟩; have B2 := hid (stp (stA B1.out _) hb2); have T2 := hid ((T1.out.over _).kept hb2); have X2 := hid ((Tat.new w1 _ _ _ _).kept hb2); clear T1 tc1 tc2 tc3 tc4; obtain ⟨tz, tc1, tc2, tc3, tc4, _⟩ := T2.out; obtain ⟨xz, xc1, xc2, xc3, xc4, _⟩ := X2.out; have zxy : w1.heap.size ≠ w2.heap.size := Nat.ne_of_lt xz)
    | (go_at_call 6; refine (run_any _ _ a _ _ _ hr hc ⟨ha, ha2⟩).mono ?_; rintro e w1 ⟨rfl, hb1⟩; have B1 := hid (stp (stA (st0 w) _) hb1); have T1 := hid ((Tat.new w _ _ _ _).kept hb1); obtain ⟨tz, tc1, tc2, tc3, tc4, _⟩ := T1.out; have ztx : w.heap.size ≠ w1.heap.size := Nat.ne_of_lt tz)
    | (go_at_call 7; refine (timed_any _).mono ?_; rintro e w4 ⟨rfl, hb4⟩; have B4 := hid (stp (stA B3.out _) hb4); have T4 := hid ((T3.out.over _).kept hb4); have X4 := hid ((X3.out.over _).kept hb4); have Y4 := hid ((Y3.out.over _).kept hb4); have Z4 := hid ((Tat.new w3 _ _ _ _).kept hb4); clear T3 X3 Y3; obtain ⟨tz4, tc1, tc2, tc3, tc4, tf⟩ := T4.out; obtain ⟨xz4, xc1, xc2, xc3, xc4, xf⟩ := X4.out; obtain ⟨yz4, yc1, yc2, yc3, yc4, yf⟩ := Y4.out; obtain ⟨zz4, zc1, zc2, zc3, zc4, _⟩ := Z4.out))
  go_ret
  exact ⟨rfl, B5.out⟩
set_option maxRecDepth 100000 in
set_option maxHeartbeats 1600000 in
theorem parts_far (r c a b : Int) (g : Bool) (w : World) (hr : 0 ≤ r ∧ r ≤ 65535) (hc : 0 ≤ c ∧ c ≤ 65535) (ha : 0 ≤ a) (hb : 0 ≤ b) (hab : a + b ≤ 20000) (hf : 20000 < c + 1) :
    Calls Try.prog 4 #[.agg #[.int .u16 r, .int .u16 c, .bool true, .bool g], .int .i64 a, .int .i64 b] w fun e w' => e = .returned (.bool true) ∧ Below w.heap.size w w' := by
  have hne := neq_timer
  have ha2 : a ≤ 20000 := by omega
  have hb2 : b ≤ 20000 - a := by omega
  have hb20 : b ≤ 20000 := by omega
  have hab0 : 0 ≤ a + b := by omega
  have h1 : ¬ (c + 1 < 1) := by omega
  have h2 : 0 ≤ c + 1 := by omega
  obtain ⟨q1, q2⟩ := rnC_add r c true g a b hr hc ha hb
  have hy := rn_bd r c true a hr hc ha
  go_enter Try.func4, Try.ntmps4
  go_wp2_with (first
    | (have zz := B4; clear zz; go_at_call 11; refine (next_on _ _ _ _ hc).mono ?_; rintro e w5 ⟨rfl, hb5⟩; have B5 := hid (stp (B4.out.setCell (Nat.le_refl _) _) hb5))
    | (have zz := B2; clear zz; go_at_call 6; refine (run_any _ _ (a + b) _ _ _ hr hc ⟨hab0, hab⟩).mono ?_; rintro e w3 ⟨rfl, hb3⟩; have B3 := hid (stp (stA B2.out _) hb3); have T3 := hid ((T2.out.over _).kept hb3); have X3 := hid ((X2.out.over _).kept hb3); have Y3 := hid ((Tat.new w2 _ _ _ _).kept hb3); clear T2 X2 tc1 tc2 tc3 tc4 xc1 xc2 xc3 xc4)
    | (have zz := B1; clear zz; go_at_call 6; refine (run_any _ _ b _ _ _ hr hy ⟨hb, hb20⟩).mono ?_; rw [q1, q2]; rintro e w2 ⟨rfl, hb2⟩; have B2 := hid (stp (stA B1.out _) hb2); have T2 := hid ((T1.out.over _).kept hb2); have X2 := hid ((Tat.new w1 _ _ _ _).kept hb2); clear T1 tc1 tc2 tc3 tc4; obtain ⟨tz, tc1, tc2, tc3, tc4, _⟩ := T2.out; obtain ⟨xz, xc1, xc2, xc3, xc4, _⟩ := X2.out; have zxy : w1.heap.size ≠ w2.heap.size := Nat.ne_of_lt xz)
    | (go_at_call 6; refine (run_any _ _ a _ _ _ hr hc ⟨ha, ha2⟩).mono ?_; rintro e w1 ⟨rfl, hb1⟩; have B1 := hid (stp (stA (st0 w) _) hb1); have T1 := hid ((Tat.new w _ _ _ _).kept hb1); obtain ⟨tz, tc1, tc2, tc3, tc4, _⟩ := T1.out; have ztx : w.heap.size ≠ w1.heap.size := Nat.ne_of_lt tz)
    | (go_at_call 7; refine (timed_any _).mono ?_; rintro e w4 ⟨rfl, hb4⟩; have B4 := hid (stp (stA B3.out _) hb4); have T4 := hid ((T3.out.over _).kept hb4); have X4 := hid ((X3.out.over _).kept hb4); have Y4 := hid ((Y3.out.over _).kept hb4); have Z4 := hid ((Tat.new w3 _ _ _ _).kept hb4); clear T3 X3 Y3; obtain ⟨tz4, tc1, tc2, tc3, tc4, tf⟩ := T4.out; obtain ⟨xz4, xc1, xc2, xc3, xc4, xf⟩ := X4.out; obtain ⟨yz4, yc1, yc2, yc3, yc4, yf⟩ := Y4.out; obtain ⟨zz4, zc1, zc2, zc3, zc4, _⟩ := Z4.out))
  go_ret
  exact ⟨ret_b (by first | rfl | (simp; done) | (simp; omega)), B5.out⟩
end Go.Proofs.Ytdbigihmggpklaa
