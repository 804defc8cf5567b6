/-
  Package timer: Run.
-/
import Derived.Test.YtdbigihmggpklaaTimB
namespace Go.Proofs.Ytdbigihmggpklaa
open Go.ChangeShapes Go.WideShapes Go.ChangeAt Go.RowKit
set_option linter.unusedVariables false

theorem box4a {w : World} {r c : Int} {on g : Bool} {o : Obj} :
    ((w.alloc (.cells #[.int .u16 r, .int .u16 c, .bool on, .bool g] 24)).alloc o).cell? ⟨w.heap.size, 0, none⟩ = some (.int .u16 r) ∧ ((w.alloc (.cells #[.int .u16 r, .int .u16 c, .bool on, .bool g] 24)).alloc o).cell? ⟨w.heap.size, 1, none⟩ = some (.int .u16 c) ∧ ((w.alloc (.cells #[.int .u16 r, .int .u16 c, .bool on, .bool g] 24)).alloc o).cell? ⟨w.heap.size, 2, none⟩ = some (.bool on) ∧ ((w.alloc (.cells #[.int .u16 r, .int .u16 c, .bool on, .bool g] 24)).alloc o).cell? ⟨w.heap.size, 3, none⟩ = some (.bool g) := box4 (st0 _)
theorem keep4 {W w1 : World} {b : Nat} {r c : Int} {on g : Bool} (h : W.cell? ⟨b, 0, none⟩ = some (.int .u16 r) ∧ W.cell? ⟨b, 1, none⟩ = some (.int .u16 c) ∧ W.cell? ⟨b, 2, none⟩ = some (.bool on) ∧ W.cell? ⟨b, 3, none⟩ = some (.bool g)) (hb : Below W.heap.size W w1) :
    w1.cell? ⟨b, 0, none⟩ = some (.int .u16 r) ∧ w1.cell? ⟨b, 1, none⟩ = some (.int .u16 c) ∧ w1.cell? ⟨b, 2, none⟩ = some (.bool on) ∧ w1.cell? ⟨b, 3, none⟩ = some (.bool g) := by
  have hz := World.block_lt_of_cell? W _ h.1
  exact ⟨(hb.cell (p := ⟨b, 0, none⟩) hz).trans h.1, (hb.cell (p := ⟨b, 1, none⟩) hz).trans h.2.1, (hb.cell (p := ⟨b, 2, none⟩) hz).trans h.2.2.1, (hb.cell (p := ⟨b, 3, none⟩) hz).trans h.2.2.2⟩
set_option maxHeartbeats 1600000 in
theorem run_any (r c n : Int) (on g : Bool) (w : World) (hr : 0 ≤ r ∧ r ≤ 65535) (hc : 0 ≤ c ∧ c ≤ 65535) (hn : 0 ≤ n ∧ n ≤ 20000) :
    Calls Try.prog 6 #[.agg #[.int .u16 r, .int .u16 c, .bool on, .bool g], .int .i64 n] w fun e w' => e = .returned (.tuple #[.agg #[.int .u16 r, .int .u16 (rnC r c on n), .bool on, .bool (rnG c on g n)], .int .i64 0]) ∧ Below w.heap.size w w' := by
  cases on
  · go_enter Try.func6, Try.ntmps6
    go_wp2
    go_region_held3 (fun w' => w'.cell? ⟨w.heap.size, 0, none⟩ = some (.int .u16 r) ∧ w'.cell? ⟨w.heap.size, 1, none⟩ = some (.int .u16 c) ∧ w'.cell? ⟨w.heap.size, 2, none⟩ = some (.bool false) ∧ w'.cell? ⟨w.heap.size, 3, none⟩ = some (.bool g))
      (first
        | with_reducible exact keep4 (by assumption) (by assumption)
        | (go_keep; done))
      (first
      | (go_at_call 13; refine (ticks_any _ _).mono ?_; rintro e w0 ⟨rfl, rfl⟩)
      | (go_at_call 12; refine (when_off _ _ _ _ _).mono ?_; rintro e w1 ⟨rfl, hb1⟩; obtain ⟨k1, f1⟩ := bcell hb1; have z1 : w.heap.size + 1 < w1.heap.size := Nat.lt_of_lt_of_le (by simp) hb1.size))
    go_wp2
    have hX := resT (stp (stA (st0 ((w.alloc (.cells #[.int .u16 r, .int .u16 c, .bool false, .bool g] 24)).alloc (.cells #[.int .u16 0, .int .u16 0, .bool false, .bool false] 24))) _).drew hb1)
    have hF := fin4 r c false g hX.1 hX.2
    refine Pl.cutB (fun Y => Below w.heap.size w Y ∧ Y.rangeAt (w.heap.size + 1) 0 [.int .u16 r, .int .u16 c, .bool false, .bool g]) hF ?_
    rintro Y ⟨hY, hR⟩
    have hl := load_timer Y _ _ _ _ _ hR
    refine bodyPost_ret (v := .tuple #[.agg #[.int .u16 r, .int .u16 c, .bool false, .bool g], .int .i64 0]) ?_ rfl ⟨rfl, hY⟩
    simp only [results, Try.results6]
    simp
    show (Result.andThen (Sem.run Try.prog (loadVar 24 ⟨w.heap.size + 1, 0, none⟩) Y) _) = _
    rw [hl]
    rfl
  · go_enter Try.func6, Try.ntmps6
    go_wp2
    go_region_held3 (fun w' => w'.cell? ⟨w.heap.size, 0, none⟩ = some (.int .u16 r) ∧ w'.cell? ⟨w.heap.size, 1, none⟩ = some (.int .u16 c) ∧ w'.cell? ⟨w.heap.size, 2, none⟩ = some (.bool true) ∧ w'.cell? ⟨w.heap.size, 3, none⟩ = some (.bool g))
      (first
        | with_reducible exact keep4 (by assumption) (by assumption)
        | (go_keep; done))
      (first
      | (go_at_call 13; refine (ticks_any _ _).mono ?_; rintro e w0 ⟨rfl, rfl⟩)
      | (go_at_call 12; refine (when_ticks _ _ _ _ _ _ hr hc hn (Pl.new _ _ _ _ (by simp)) (by simp)).mono ?_; rintro e w1 ⟨rfl, hb1⟩; obtain ⟨k1, f1⟩ := bcell hb1; have z1 : w.heap.size + 1 < w1.heap.size := Nat.lt_of_lt_of_le (by simp) hb1.size))
    go_wp2
    have hX := resT (stp (stA (st0 ((w.alloc (.cells #[.int .u16 r, .int .u16 c, .bool true, .bool g] 24)).alloc (.cells #[.int .u16 0, .int .u16 0, .bool false, .bool false] 24))) _).drew hb1)
    have hF := fin4 r (rnC r c true n) true (rnG c true g n) hX.1 hX.2
    refine Pl.cutB (fun Y => Below w.heap.size w Y ∧ Y.rangeAt (w.heap.size + 1) 0 [.int .u16 r, .int .u16 (rnC r c true n), .bool true, .bool (rnG c true g n)]) hF ?_
    rintro Y ⟨hY, hR⟩
    have hl := load_timer Y _ _ _ _ _ hR
    refine bodyPost_ret (v := .tuple #[.agg #[.int .u16 r, .int .u16 (rnC r c true n), .bool true, .bool (rnG c true g n)], .int .i64 0]) ?_ rfl ⟨rfl, hY⟩
    simp only [results, Try.results6]
    simp
    show (Result.andThen (Sem.run Try.prog (loadVar 24 ⟨w.heap.size + 1, 0, none⟩) Y) _) = _
    rw [hl]
    rfl
theorem run_bad (r c n : Int) (on g : Bool) (w : World) (hn : n < 0 ∨ 20000 < n) :
    Calls Try.prog 6 #[.agg #[.int .u16 r, .int .u16 c, .bool on, .bool g], .int .i64 n] w fun e w' => e = .returned (.tuple #[.agg #[.int .u16 0, .int .u16 0, .bool false, .bool false], .int .i64 3]) ∧ Below w.heap.size w w' := by
  rcases hn with h | h
  all_goals
    go_enter Try.func6, Try.ntmps6
    go_wp2
    refine bodyPost_ret (v := .tuple #[.agg #[.int .u16 0, .int .u16 0, .bool false, .bool false], .int .i64 3]) (by simp [results, Try.results6, go_sem]) rfl ⟨rfl, ?_⟩
    exact (stA (stA (st0 _) _) _)
end Go.Proofs.Ytdbigihmggpklaa
