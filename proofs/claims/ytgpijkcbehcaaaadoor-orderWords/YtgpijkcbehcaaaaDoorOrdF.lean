/-
  What slices.Equal answers of the same words, what '==' answers of the same orders, and that the law's closed fact on one order holds; nothing old is written.
-/
import Derived.Test.YtgpijkcbehcaaaaDoorOrdE3
import Derived.Deep.QuietTactic
import Derived.BigQuiet
import Derived.Laws.StructEq
namespace Go.Proofs.YtgpijkcbehcaaaaDoor
open Go.ChangeShapes Go.WideShapes Go.ChangeAt Go.RowKit
set_option linter.unusedVariables false

theorem equal_same (g g' n c c' : Nat) (l : List Int) (w : World) (hn : l.length = n) (hb : n ≤ 2) (h : wordsAt w g l) (h' : wordsAt w g' l) (hc : n ≤ c) (hc' : n ≤ c') :
    Calls Tryd.prog 15 #[.slice (some ⟨g, 0, none⟩) n c, .slice (some ⟨g', 0, none⟩) n c'] w fun e w' => e = .returned (.bool true) ∧ ∃ q, w' = w.drewN q := by
  have H := hid h
  have H' := hid h'
  clear h h'
  go_enter Tryd.func15, Tryd.ntmps15
  go_wp2
  go_loopw [13] (fun i wr => ∃ j q : Nat, j ≤ n ∧ i = .int .i64 j ∧ wr = w.drewN q) (fun i _ => n - (intOf i).toNat)
  case atStart => exact ⟨0, 0, by omega, rfl, rfl⟩
  case round =>
    obtain ⟨j, q, hj, rfl, rfl⟩ := hrel
    by_cases hlt : j < n
    · have c1 := H.out j (by omega)
      have c2 := H'.out j (by omega)
      go_wp2
      go_quiet (fail)
      go_wp2
      go_roundw
      case rel => exact ⟨j + 1, _, by omega, by go_num, rfl⟩
      case measure => simp [intOf]; omega
    · go_wp2
      go_ret
      exact ⟨rfl, q, rfl⟩
theorem eq_order (a b c d e : Int) (w : World) : (binOp .eql 34 (.agg #[.int .i64 a, .int .i64 b, .int .i64 c, .int .i64 d, .int .i64 e]) (.agg #[.int .i64 a, .int .i64 b, .int .i64 c, .int .i64 d, .int .i64 e])).run Tryd.prog w = .ok (.bool true) w := by
  have u3 := Tryd.underlying3
  have a3 := Tryd.isAgg3
  have z3 := Tryd.sizeOf3
  have hS : Tryd.prog.underlying 34 = some (.struct (Tryd.prog.fieldsOf 34)) := by kernel_rfl
  have hp : Tryd.prog.stoodInHeld 34 = false := by kernel_rfl
  rw [run_eql_struct, show (10000 : Nat) = 9999 + 1 from rfl, run_equalIn_agg w 9999 34 _ _ hS hp]
  simp only [Program.fieldsOf, Tryd.underlying34]
  go_simp
theorem words_fact (w : World) (hs : shapesAt w) : Calls Tryd.prog 9 #[.agg #[.int .i64 15, .int .i64 1, .int .i64 0, .int .i64 (-1), .int .i64 0]] w fun e w' =>
    ∃ g, e = .returned (.tuple #[.slice (some ⟨g, 0, none⟩) 1 1, .int .i64 0]) ∧ wordsAt w' g [31007] ∧ g < w'.heap.size ∧ Below w.heap.size w w' := by
  have e : O.words 15 1 0 (-1) 0 = [31007] := by decide +kernel
  have h := words_yes 15 1 0 (-1) 0 (by decide) (by decide +kernel) w hs
  rw [e] at h
  exact h.mono fun e w' ⟨g, he, hw, _, hl, hb⟩ => ⟨g, he, hw, hl, hb⟩
theorem read_fact (w : World) (hs : shapesAt w) : Calls Tryd.prog 21 #[.int .u16 31007, .int .u16 0] w fun e w' =>
    e = .returned (.tuple #[.agg #[.int .i64 15, .int .i64 1, .int .i64 0, .int .i64 (-1), .int .i64 0], .int .i64 1]) ∧ Below w.heap.size w w' := by
  have h := read_any 31007 0 (by omega) (by omega) w hs
  have e1 : O.rOp 31007 = 15 := by decide +kernel
  have e2 : O.rD 31007 = 1 := by decide +kernel
  have e3 : O.rS 31007 = 0 := by decide +kernel
  have e4 : O.rN 31007 = -1 := by decide +kernel
  have e5 : O.rW 31007 0 = 0 := by decide +kernel
  have e6 : O.rLen 31007 = 1 := by decide +kernel
  unfold orderV at h
  rw [e1, e2, e3, e4, e5, e6] at h
  exact h
theorem wordsAt.kept {w w' : World} {g : Nat} {l : List Int} (h : wordsAt w g l) (hb : Below w.heap.size w w') (hg : g < w.heap.size) : wordsAt w' g l := fun i hi => (hb.cell hg).trans (h i hi)
theorem wordsAt_new (w : World) (x : Int) : wordsAt (w.alloc (.cells #[.int .u16 x] 45)) w.heap.size [x] := fun i hi => by
  obtain rfl : i = 0 := by simpa using hi
  exact cell_new _ _ _ _ rfl
set_option maxRecDepth 100000 in
theorem orders_any (w : World) (hs : shapesAt w) : Calls Tryd.prog 7 #[] w fun e w' => e = .returned (.bool true) ∧ Below w.heap.size w w' := by
  have HS := hid hs
  have eqo := eq_order
  clear hs
  go_enter Tryd.func7, Tryd.ntmps7
  go_wp2_with (first
    | (go_at_call 9; refine (words_fact _ HS.out).mono ?_; rintro e w1 ⟨g, rfl, hw1, hg1, hb1⟩)
    | (go_at_call 21; refine (read_fact _ (HS.out.kept hb1)).mono ?_; rintro e w2 ⟨rfl, hb2⟩; have hg2 := Nat.lt_of_lt_of_le hg1 hb2.size)
    | (go_at_call 15; refine (equal_same g _ 1 1 1 [31007] _ rfl (by omega) (((hw1.kept hb2 hg1).kept (stA (st0 _) _) hg2).kept (stA (st0 _) _) (by simp; omega)) (by first | exact wordsAt_new _ _ | (have := wordsAt_new (w2.alloc (.cells #[.int .i64 15, .int .i64 1, .int .i64 0, .int .i64 (-1), .int .i64 0] 34)) 31007; simpa using this)) (by omega) (by omega)).mono ?_; rintro e w' ⟨rfl, q, rfl⟩))
  go_ret
  exact ⟨rfl, below_draws (stA (stA (stp hb1 hb2) _) _) _⟩
end Go.Proofs.YtgpijkcbehcaaaaDoor
