/-
  The Go text of the law TimerRings returns true.
-/
import Derived.Test.YtdbigihmggpklaaTimD
namespace Go.Proofs.Ytdbigihmggpklaa
open Go.ChangeShapes Go.WideShapes Go.ChangeAt Go.RowKit
set_option linter.unusedVariables false

set_option maxRecDepth 100000 in
set_option maxHeartbeats 1600000 in
theorem rings_bad (r c n : Int) (on g : Bool) (w : World) (hn : n < 0 ∨ 20000 < n) :
    Calls Try.prog 5 #[.agg #[.int .u16 r, .int .u16 c, .bool on, .bool g], .int .i64 n] w fun e w' => e = .returned (.bool true) ∧ Below w.heap.size w w' := by
  have HN := hid hn
  clear hn
  go_enter Try.func5, Try.ntmps5
  go_wp2_with (first
    | (go_at_call 6; refine (run_bad _ _ _ _ _ _ HN.out).mono ?_; rintro e w1 ⟨rfl, hb1⟩; have B1 := hid (stp (stA (st0 w) _) hb1))
    | (have zz := B2; clear zz; go_at_call 7; refine (timed_any _).mono ?_; rintro e w3 ⟨rfl, hb3⟩)
    | (go_at_call 7; refine (timed_any _).mono ?_; rintro e w2 ⟨rfl, hb2⟩; have B2 := hid (stp (stA B1.out _) hb2)))
  go_ret
  exact ⟨rfl, stp B2.out hb3⟩
set_option maxRecDepth 100000 in
set_option maxHeartbeats 1600000 in
theorem rings_ok (r c n : Int) (on g : Bool) (w : World) (hr : 0 ≤ r ∧ r ≤ 65535) (hc : 0 ≤ c ∧ c ≤ 65535) (hn : 0 ≤ n ∧ n ≤ 20000) :
    Calls Try.prog 5 #[.agg #[.int .u16 r, .int .u16 c, .bool on, .bool g], .int .i64 n] w fun e w' => e = .returned (.bool true) ∧ Below w.heap.size w w' := by
  have he := eq_timer
  cases on
  · have e1 : rnC r c false n = c := rfl
    have e2 : rnG c false false n = false := rfl
    go_enter Try.func5, Try.ntmps5
    go_wp2_with (first
      | (go_at_call 6; refine (run_any _ _ _ false false _ hr hc hn).mono ?_; rw [e1, e2]; rintro e w1 ⟨rfl, hb1⟩; obtain ⟨k1, f1⟩ := bcell hb1; have z1 : w.heap.size < w1.heap.size := Nat.lt_of_lt_of_le (by simp) hb1.size; have B1 := hid (stp (stA (st0 w) _) hb1))
      | (go_at_call 7; refine (timed_any _).mono ?_; rintro e w2 ⟨rfl, hb2⟩; obtain ⟨k2, f2⟩ := bcell hb2; have z2 : w1.heap.size < w2.heap.size := Nat.lt_of_lt_of_le (by simp) hb2.size; have z20 := Nat.lt_trans z1 z2; have B2 := hid (stp (stA B1.out _) hb2))
      | (go_at_call 11; refine (next_any _ _ false _ _ hc).mono ?_; rintro e w3 ⟨rfl, hb3⟩; obtain ⟨k3, f3⟩ := bcell hb3; have z30 := Nat.lt_of_lt_of_le z20 hb3.size; have z3 := Nat.lt_of_lt_of_le z2 hb3.size; have B3 := hid (stp B2.out hb3)))
    go_ret
    exact ⟨ret_b (by first | rfl | (simp; done) | (simp; omega)), B3.out⟩
  · by_cases h : n < c + 1
    · obtain ⟨e1, e2⟩ := rn_low r c n false h
      have h1 : (0 : Int) < c + 1 := by omega
      have h2 : ¬ (c + 1 ≤ n) := by omega
      go_enter Try.func5, Try.ntmps5
      go_wp2_with (first
        | (go_at_call 6; refine (run_any _ _ _ true false _ hr hc hn).mono ?_; rw [e1, e2]; rintro e w1 ⟨rfl, hb1⟩; obtain ⟨k1, f1⟩ := bcell hb1; have z1 : w.heap.size < w1.heap.size := Nat.lt_of_lt_of_le (by simp) hb1.size; have B1 := hid (stp (stA (st0 w) _) hb1))
        | (go_at_call 7; refine (timed_any _).mono ?_; rintro e w2 ⟨rfl, hb2⟩; obtain ⟨k2, f2⟩ := bcell hb2; have z2 : w1.heap.size < w2.heap.size := Nat.lt_of_lt_of_le (by simp) hb2.size; have z20 := Nat.lt_trans z1 z2; have B2 := hid (stp (stA B1.out _) hb2))
        | (go_at_call 11; refine (next_on _ _ _ _ hc).mono ?_; rintro e w3 ⟨rfl, hb3⟩; obtain ⟨k3, f3⟩ := bcell hb3; have z30 := Nat.lt_of_lt_of_le z20 hb3.size; have z3 := Nat.lt_of_lt_of_le z2 hb3.size; have B3 := hid (stp B2.out hb3)))
      go_ret
      exact ⟨ret_b (by first | rfl | (simp; done) | (simp; omega)), B3.out⟩
    · obtain ⟨e1, e2⟩ := rn_high r c n false h
      have h1 : (0 : Int) < c + 1 := by omega
      have h2 : c + 1 ≤ n := by omega
      generalize r - (n - (c + 1)) % (r + 1) = y at e1
      go_enter Try.func5, Try.ntmps5
      go_wp2_with (first
        | (go_at_call 6; refine (run_any _ _ _ true false _ hr hc hn).mono ?_; rw [e1, e2]; rintro e w1 ⟨rfl, hb1⟩; obtain ⟨k1, f1⟩ := bcell hb1; have z1 : w.heap.size < w1.heap.size := Nat.lt_of_lt_of_le (by simp) hb1.size; have B1 := hid (stp (stA (st0 w) _) hb1))
        | (go_at_call 7; refine (timed_any _).mono ?_; rintro e w2 ⟨rfl, hb2⟩; obtain ⟨k2, f2⟩ := bcell hb2; have z2 : w1.heap.size < w2.heap.size := Nat.lt_of_lt_of_le (by simp) hb2.size; have z20 := Nat.lt_trans z1 z2; have B2 := hid (stp (stA B1.out _) hb2))
        | (go_at_call 11; refine (next_on _ _ _ _ hc).mono ?_; rintro e w3 ⟨rfl, hb3⟩; obtain ⟨k3, f3⟩ := bcell hb3; have z30 := Nat.lt_of_lt_of_le z20 hb3.size; have z3 := Nat.lt_of_lt_of_le z2 hb3.size; have B3 := hid (stp B2.out hb3)))
      go_ret
      exact ⟨ret_b (by first | rfl | (simp; done) | (simp; omega)), B3.out⟩
end Go.Proofs.Ytdbigihmggpklaa
