/-
  Package timer: whenOn with each of the three changes; Set, Tick, Run.
-/
import Derived.Test.YthooknikfachnaaTimA
namespace Go.Proofs.Ythooknikfachnaa
open Go.ChangeShapes Go.WideShapes Go.ChangeAt Go.RowKit
theorem set1_any (r c : Int) (on g : Bool) (w : World) :
    Calls Try.prog 93 #[.agg #[.int .u16 r, .int .u16 c, .bool on, .bool g]] w fun e w' => e = .returned (.agg #[.int .u16 r, .int .u16 r, .bool on, .bool g]) ∧ Below w.heap.size w w' := by
  go_enter Try.func93, Try.ntmps93
  go_wp2
  refine bodyPost_ret (v := .agg _) (by simp [results, Try.results93, go_sem]; try rfl) rfl ⟨rfl, ?_⟩
  exact (stA (stA (st0 _) _) _)
theorem rn_low (r c n : Int) (g : Bool) (h : n < c + 1) : rnC r c true n = c - n ∧ rnG c true g n = g := by unfold rnC rnG; simp [h]
theorem rn_high (r c n : Int) (g : Bool) (h : ¬ n < c + 1) : rnC r c true n = r - (n - (c + 1)) % (r + 1) ∧ rnG c true g n = true := by unfold rnC rnG; simp [h]
/-- A timer's box, ahead of a call and the result's box: it is as it was behind it. -/
theorem box4 {w w1 : World} {r c : Int} {on g : Bool} {o : Obj} (hb1 : Below ((w.alloc (.cells #[.int .u16 r, .int .u16 c, .bool on, .bool g] 31)).alloc o).heap.size ((w.alloc (.cells #[.int .u16 r, .int .u16 c, .bool on, .bool g] 31)).alloc o) w1) :
    w1.cell? ⟨w.heap.size, 0, none⟩ = some (.int .u16 r) ∧ w1.cell? ⟨w.heap.size, 1, none⟩ = some (.int .u16 c) ∧ w1.cell? ⟨w.heap.size, 2, none⟩ = some (.bool on) ∧ w1.cell? ⟨w.heap.size, 3, none⟩ = some (.bool g) := by
  have h : ∀ j, w1.cell? ⟨w.heap.size, j, none⟩ = #[Value.int .u16 r, .int .u16 c, .bool on, .bool g][j]? := fun j => by
    rw [hb1.cell (p := ⟨w.heap.size, j, none⟩) (by simp; omega)]
    exact (World.cell?_alloc_lt _ _ ⟨w.heap.size, j, none⟩ (by simp)).trans (Pl.new _ _ _ _ rfl)
  exact ⟨h 0, h 1, h 2, h 3⟩
theorem box4r {w w1 : World} {o : Obj} (hb1 : Below ((w.alloc o).alloc (.cells #[.int .u16 0, .int .u16 0, .bool false, .bool false] 31)).heap.size ((w.alloc o).alloc (.cells #[.int .u16 0, .int .u16 0, .bool false, .bool false] 31)) w1) :
    w1.cell? ⟨w.heap.size + 1, 0, none⟩ = some (.int .u16 0) ∧ w1.cell? ⟨w.heap.size + 1, 1, none⟩ = some (.int .u16 0) ∧ w1.cell? ⟨w.heap.size + 1, 2, none⟩ = some (.bool false) ∧ w1.cell? ⟨w.heap.size + 1, 3, none⟩ = some (.bool false) := by
  have h : ∀ j, w1.cell? ⟨w.heap.size + 1, j, none⟩ = #[Value.int .u16 0, .int .u16 0, .bool false, .bool false][j]? := fun j => by
    rw [hb1.cell (p := ⟨w.heap.size + 1, j, none⟩) (by simp)]
    exact Pl.new _ _ _ _ (by simp)
  exact ⟨h 0, h 1, h 2, h 3⟩
theorem resT {w w1 : World} {o : Obj} (hb1 : Below ((w.alloc o).alloc (.cells #[.int .u16 0, .int .u16 0, .bool false, .bool false] 31)).heap.size ((w.alloc o).alloc (.cells #[.int .u16 0, .int .u16 0, .bool false, .bool false] 31)) w1) :
    w1.there (w.heap.size + 1) 0 4 ∧ Below w.heap.size w w1 := by
  refine ⟨Pl.there_old (Pl.there_new (w.alloc o) #[.int .u16 0, .int .u16 0, .bool false, .bool false] 31 4 (w.heap.size + 1) (by simp) rfl) hb1 (by simp), stp (stA (stA (st0 w) _) _) hb1⟩
theorem fin4 {w U : World} (r c : Int) (on g : Bool) (ht : U.there (w.heap.size + 1) 0 4) (hB : Below w.heap.size w U) :
    Below w.heap.size w ((((U.setCell ⟨w.heap.size + 1, 0, none⟩ (.int .u16 r)).setCell ⟨w.heap.size + 1, 1, none⟩ (.int .u16 c)).setCell ⟨w.heap.size + 1, 2, none⟩ (.bool on)).setCell ⟨w.heap.size + 1, 3, none⟩ (.bool g)) ∧
      ((((U.setCell ⟨w.heap.size + 1, 0, none⟩ (.int .u16 r)).setCell ⟨w.heap.size + 1, 1, none⟩ (.int .u16 c)).setCell ⟨w.heap.size + 1, 2, none⟩ (.bool on)).setCell ⟨w.heap.size + 1, 3, none⟩ (.bool g)).rangeAt (w.heap.size + 1) 0 [.int .u16 r, .int .u16 c, .bool on, .bool g] := by
  have h := World.rangeAt_setCells_same U (w.heap.size + 1) 0 [.int .u16 r, .int .u16 c, .bool on, .bool g] ht
  have h2 := Pl.below (Nat.le_succ w.heap.size) [.int .u16 r, .int .u16 c, .bool on, .bool g] 0 U hB
  simp only [World.setCells, Nat.zero_add, Nat.reduceAdd] at h h2
  exact ⟨h2, h⟩
theorem range_drew {U : World} {b o : Nat} {L : List Value} (h : U.rangeAt b o L) : U.drew.rangeAt b o L := h
theorem keepT {W : World} {b0 b o : Nat} {r n : Int} {v : Value} (h : W.cell? ⟨b0, 0, none⟩ = some (.int .u16 r) ∧ W.cell? ⟨b, 0, none⟩ = some (.int .i64 n)) (hne : b ≠ b0) (ho : o ≠ 0) :
    (W.setCell ⟨b0, o, none⟩ v).cell? ⟨b0, 0, none⟩ = some (.int .u16 r) ∧ (W.setCell ⟨b0, o, none⟩ v).cell? ⟨b, 0, none⟩ = some (.int .i64 n) := by
  refine ⟨(World.cell?_setCell_other _ _ _ _ ?_).trans h.1, (World.cell?_setCell_other _ _ _ _ ?_).trans h.2⟩
  · intro e; exact ho (congrArg Addr.off e)
  · intro e; exact hne (congrArg Addr.block e).symm
/-! ### whenOn -/
theorem when_off (r c : Int) (g : Bool) (f : Value) (w : World) :
    Calls Try.prog 92 #[.agg #[.int .u16 r, .int .u16 c, .bool false, .bool g], f] w fun e w' => e = .returned (.agg #[.int .u16 r, .int .u16 c, .bool false, .bool g]) ∧ Below w.heap.size w w' := by
  go_enter Try.func92, Try.ntmps92
  go_wp2
  refine bodyPost_ret (v := .agg _) (by simp [results, Try.results92, go_sem]) rfl ⟨rfl, ?_⟩
  exact (stA (stA (st0 _) _) _)
theorem when_set (r c : Int) (g : Bool) (w : World) :
    Calls Try.prog 92 #[.agg #[.int .u16 r, .int .u16 c, .bool true, .bool g], .func (.func 93) #[] #[]] w fun e w' => e = .returned (.agg #[.int .u16 r, .int .u16 r, .bool true, .bool g]) ∧ Below w.heap.size w w' := by
  go_enter Try.func92, Try.ntmps92
  go_wp2_with (go_at_call 93; refine (set1_any _ _ _ _ _).mono ?_; rintro e w1 ⟨rfl, hb1⟩; obtain ⟨k1, f1⟩ := bcell hb1; have z1 : w.heap.size + 1 < w1.heap.size := Nat.lt_of_lt_of_le (by simp) hb1.size)
  have hF := fin4 r r true g (resT hb1).1 (resT hb1).2
  refine Pl.cutB (fun Y => Below w.heap.size w Y ∧ Y.rangeAt (w.heap.size + 1) 0 [.int .u16 r, .int .u16 r, .bool true, .bool g]) hF ?_
  rintro Y ⟨hY, hR⟩
  exact bodyPost_ret (v := .agg _) (by simp only [results, Try.results92]; simp; exact Pl.res (load_timer _ _ _ _ _ _ hR)) rfl ⟨rfl, hY⟩
theorem set_any (r c : Int) (o0 on g : Bool) (w : World) :
    Calls Try.prog 88 #[.agg #[.int .u16 r, .int .u16 c, .bool o0, .bool g], .bool on] w fun e w' => e = .returned (.agg #[.int .u16 r, .int .u16 (sel on r c), .bool on, .bool g]) ∧ Below w.heap.size w w' := by
  cases on
  · go_enter Try.func88, Try.ntmps88
    go_wp2_with (go_at_call 92; refine (when_off _ _ _ _ _).mono ?_; rintro e w1 ⟨rfl, hb1⟩; obtain ⟨k1, f1⟩ := bcell hb1; have z1 : w.heap.size + 1 < w1.heap.size := Nat.lt_of_lt_of_le (by simp) hb1.size)
    have hF := fin4 r c false g (resT hb1).1 (resT hb1).2
    refine Pl.cutB (fun Y => Below w.heap.size w Y ∧ Y.rangeAt (w.heap.size + 1) 0 [.int .u16 r, .int .u16 c, .bool false, .bool g]) hF ?_
    rintro Y ⟨hY, hR⟩
    exact bodyPost_ret (v := .agg _) (by simp only [results, Try.results88]; simp; exact Pl.res (load_timer _ _ _ _ _ _ hR)) rfl ⟨rfl, hY⟩
  · go_enter Try.func88, Try.ntmps88
    go_wp2_with (go_at_call 92; refine (when_set _ _ _ _).mono ?_; rintro e w1 ⟨rfl, hb1⟩; obtain ⟨k1, f1⟩ := bcell hb1; have z1 : w.heap.size + 1 < w1.heap.size := Nat.lt_of_lt_of_le (by simp) hb1.size)
    have hF := fin4 r r true g (resT hb1).1 (resT hb1).2
    refine Pl.cutB (fun Y => Below w.heap.size w Y ∧ Y.rangeAt (w.heap.size + 1) 0 [.int .u16 r, .int .u16 r, .bool true, .bool g]) hF ?_
    rintro Y ⟨hY, hR⟩
    exact bodyPost_ret (v := .agg _) (by simp only [results, Try.results88]; simp; exact Pl.res (load_timer _ _ _ _ _ _ hR)) rfl ⟨rfl, hY⟩
end Go.Proofs.Ythooknikfachnaa
