/-
  The Go text of the law TimerParts returns true, where the timer rings soon.
-/
import Derived.Test.YtdbigihmggpklaaTimE
namespace Go.Proofs.Ytdbigihmggpklaa
open Go.ChangeShapes Go.WideShapes Go.ChangeAt Go.RowKit
set_option linter.unusedVariables false

set_option maxRecDepth 100000 in
set_option maxHeartbeats 3200000 in
theorem parts_near (r c a b : Int) (g : Bool) (w : World) (hr : 0 ≤ r ∧ r ≤ 65535) (hc : 0 ≤ c ∧ c ≤ 65535) (ha : 0 ≤ a) (hb : 0 ≤ b) (hab : a + b ≤ 20000) (hf : c + 1 ≤ 20000) :
    Calls Try.prog 4 #[.agg #[.int .u16 r, .int .u16 c, .bool true, .bool g], .int .i64 a, .int .i64 b] w fun e w' => e = .returned (.bool true) ∧ Below w.heap.size w w' := by
  have hne := neq_timer
  have ha2 : a ≤ 20000 := by omega
  have hb2 : b ≤ 20000 - a := by omega
  have hb20 : b ≤ 20000 := by omega
  have hab0 : 0 ≤ a + b := by omega
  have h1 : ¬ (c + 1 < 1) := by omega
  have h2 : ¬ (20000 < c + 1) := by omega
  have h3 : c + 1 - 1 = c := by omega
  have hc2 : 0 ≤ c ∧ c ≤ 20000 := by omega
  have hc3 : 0 ≤ c + 1 ∧ c + 1 ≤ 20000 := by omega
  obtain ⟨l1, l2⟩ := rn_low r c c false (by omega)
  obtain ⟨u1, u2⟩ := rn_high r c (c + 1) false (by omega)
  have u3 : r - (c + 1 - (c + 1)) % (r + 1) = r := by rw [Int.sub_self]; simp
  have l3 : c - c = 0 := by omega
  rw [u3] at u1
  rw [l3] at l1
  clear u3 l3
  obtain ⟨q1, q2⟩ := rnC_add r c true g a b hr hc ha hb
  have hy := rn_bd r c true a hr hc ha
  go_enter Try.func4, Try.ntmps4
  go_wp2_with (first
    | (have zz := B4; clear zz; go_at_call 11; refine (next_on _ _ _ _ hc).mono ?_; rintro e w5 ⟨rfl, hb5⟩; have B5 := hid (stp (B4.out.setCell (Nat.le_refl _) _) hb5); have T5 := hid ((T4.out.ring false).kept hb5); have X5 := hid ((X4.out.far ztx _).kept hb5); have Y5 := hid ((Y4.out.far zty _).kept hb5); clear X4 Y4 T4 tc1 tc2 tc3 tc4 xc1 xc2 xc3 xc4 yc1 yc2 yc3 yc4 tf xf yf; obtain ⟨tz5, tc1, tc2, tc3, tc4, tf⟩ := T5.out; obtain ⟨xz5, xc1, xc2, xc3, xc4, xf⟩ := X5.out; obtain ⟨yz5, yc1, yc2, yc3, yc4, yf⟩ := Y5.out)
    | (have zz := B6; clear zz; go_at_call 6; refine (run_any _ _ (c + 1) _ _ _ hr hc hc3).mono ?_; rw [u1, u2]; rintro e w7 ⟨rfl, hb7⟩; have B7 := hid (stp (X6.out.below B6.out (Nat.le_of_lt tz1) _ _ _ _) hb7); have X7 := hid ((X6.out.puts r 0 true false).kept hb7); have Y7 := hid ((Y6.out.far4 zxy r 0 true false).kept hb7); clear X6 Y6 T6 tc1 tc2 tc3 tc4 xc1 xc2 xc3 xc4 yc1 yc2 yc3 yc4 tf xf yf; obtain ⟨xz7, xc1, xc2, xc3, xc4, xf⟩ := X7.out; obtain ⟨yz7, yc1, yc2, yc3, yc4, yf⟩ := Y7.out)
    | (have zz := B5; clear zz; go_at_call 6; refine (run_any _ _ c _ _ _ hr hc hc2).mono ?_; rw [l1, l2]; rintro e w6 ⟨rfl, hb6⟩; have B6 := hid (stp B5.out hb6); have T6 := hid (T5.out.kept hb6); have X6 := hid (X5.out.kept hb6); have Y6 := hid (Y5.out.kept hb6); clear X5 Y5 T5 tc1 tc2 tc3 tc4 xc1 xc2 xc3 xc4 yc1 yc2 yc3 yc4 tf xf yf; obtain ⟨tz6, tc1, tc2, tc3, tc4, tf⟩ := T6.out; obtain ⟨xz6, xc1, xc2, xc3, xc4, xf⟩ := X6.out; obtain ⟨yz6, yc1, yc2, yc3, yc4, yf⟩ := Y6.out)
    | (have zz := B2; have z5 : (∃ x : Nat, x = 0) := ⟨0, rfl⟩; clear zz z5; go_at_call 6; refine (run_any _ _ (a + b) _ _ _ hr hc ⟨hab0, hab⟩).mono ?_; rintro e w3 ⟨rfl, hb3⟩; have B3 := hid (stp (stA B2.out _) hb3); have T3 := hid ((T2.out.over _).kept hb3); have X3 := hid ((X2.out.over _).kept hb3); have Y3 := hid ((Tat.new w2 _ _ _ _).kept hb3); clear T2 X2 tc1 tc2 tc3 tc4 xc1 xc2 xc3 xc4)
    | (have zz := B1; clear zz; go_at_call 6; refine (run_any _ _ b _ _ _ hr hy ⟨hb, hb20⟩).mono ?_; rw [q1, q2]; rintro e w2 ⟨rfl, hb2⟩; have B2 := hid (stp (stA B1.out _) hb2); have T2 := hid ((T1.out.over _).kept hb2); have X2 := hid ((Tat.new w1 _ _ _ _).kept hb2); clear T1 tc1 tc2 tc3 tc4; obtain ⟨tz, tc1, tc2, tc3, tc4, _⟩ := T2.out; obtain ⟨xz, xc1, xc2, xc3, xc4, _⟩ := X2.out; have zxy : w1.heap.size ≠ w2.heap.size := Nat.ne_of_lt xz; have zty : w.heap.size ≠ w2.heap.size := Nat.ne_of_lt tz; have zyx := Ne.symm zxy; have zyt := Ne.symm zty)
    | (go_at_call 6; refine (run_any _ _ a _ _ _ hr hc ⟨ha, ha2⟩).mono ?_; rintro e w1 ⟨rfl, hb1⟩; have B1 := hid (stp (stA (st0 w) _) hb1); have T1 := hid ((Tat.new w _ _ _ _).kept hb1); obtain ⟨tz1, tc1, tc2, tc3, tc4, _⟩ := T1.out; have ztx : w.heap.size ≠ w1.heap.size := Nat.ne_of_lt tz1; have zxt := Ne.symm ztx)
    | (go_at_call 7; refine (timed_any _).mono ?_; rintro e w4 ⟨rfl, hb4⟩; have B4 := hid (stp (stA B3.out _) hb4); have T4 := hid ((T3.out.over _).kept hb4); have X4 := hid ((X3.out.over _).kept hb4); have Y4 := hid ((Y3.out.over _).kept hb4); have Z4 := hid ((Tat.new w3 _ _ _ _).kept hb4); clear T3 X3 Y3; obtain ⟨tz4, tc1, tc2, tc3, tc4, tf⟩ := T4.out; obtain ⟨xz4, xc1, xc2, xc3, xc4, xf⟩ := X4.out; obtain ⟨yz4, yc1, yc2, yc3, yc4, yf⟩ := Y4.out; obtain ⟨zz4, zc1, zc2, zc3, zc4, _⟩ := Z4.out))
  go_ret
  exact ⟨ret_b rfl, Y7.out.below B7.out (Nat.le_of_lt tz) _ _ _ _⟩
end Go.Proofs.Ytdbigihmggpklaa
