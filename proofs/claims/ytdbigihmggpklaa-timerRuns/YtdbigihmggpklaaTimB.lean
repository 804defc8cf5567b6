/-
  Package timer: whenOn with each of the three changes; Set, Tick, Run.
-/
import Derived.Test.YtdbigihmggpklaaTimA
namespace Go.Proofs.Ytdbigihmggpklaa
open Go.ChangeShapes Go.WideShapes Go.ChangeAt Go.RowKit
set_option linter.unusedVariables false

theorem tick1_any (r c : Int) (g : Bool) (w : World) (hc : 0 ≤ c ∧ c ≤ 65535) :
    Calls Try.prog 14 #[.agg #[.int .u16 r, .int .u16 c, .bool true, .bool g]] w fun e w' => e = .returned (.agg #[.int .u16 r, .int .u16 (tkC r c true), .bool true, .bool (tkG c true g)]) ∧ Below w.heap.size w w' := by
  by_cases h : c = 0
  · subst h
    go_enter Try.func14, Try.ntmps14
    go_wp2
    refine bodyPost_ret (v := .agg _) (by simp [results, Try.results14, go_sem, tkC, tkG]) rfl ⟨rfl, ?_⟩
    exact (stA (stA (st0 _) _) _)
  · have hb : (c == 0) = false := by simpa using h
    have H := hid h
    clear h
    go_enter Try.func14, Try.ntmps14
    go_wp2
    have e : tkC r c true = c - 1 := by unfold tkC; simp [H.out]
    have e0 := H.out
    have e3 : IntKind.u16.wrap (c - 1) = c - 1 := by rw [IntKind.wrap_u16]; omega
    have e2 : tkG c true g = g := by unfold tkG; simp [H.out]
    rw [e, e2]
    refine bodyPost_ret (v := .agg _) (by simp [results, Try.results14, go_sem, e3]) rfl ⟨rfl, ?_⟩
    exact (stA (stA (st0 _) _) _)
theorem set1_any (r c : Int) (on g : Bool) (w : World) :
    Calls Try.prog 15 #[.agg #[.int .u16 r, .int .u16 c, .bool on, .bool g]] w fun e w' => e = .returned (.agg #[.int .u16 r, .int .u16 r, .bool on, .bool g]) ∧ Below w.heap.size w w' := by
  go_enter Try.func15, Try.ntmps15
  go_wp2
  refine bodyPost_ret (v := .agg _) (by simp [results, Try.results15, go_sem]; try rfl) rfl ⟨rfl, ?_⟩
  exact (stA (stA (st0 _) _) _)
theorem ticks_any (n : Int) (w : World) :
    Calls Try.prog 13 #[.int .i64 n] w fun e w' => e = .returned (.func (.func 16) #[] #[.pointer (some ⟨w.heap.size, 0, none⟩)]) ∧ w' = w.alloc (.cells #[.int .i64 n] 3) := by
  go_enter Try.func13, Try.ntmps13
  go_wp2
  go_ret
  exact ⟨rfl, rfl⟩
theorem next_on (r c : Int) (g : Bool) (w : World) (hc : 0 ≤ c ∧ c ≤ 65535) :
    Calls Try.prog 11 #[.agg #[.int .u16 r, .int .u16 c, .bool true, .bool g]] w fun e w' => e = .returned (.int .i64 (c + 1)) ∧ Below w.heap.size w w' := next_any r c true g w hc
theorem rn_low (r c n : Int) (g : Bool) (h : n < c + 1) : rnC r c true n = c - n ∧ rnG c true g n = g := by unfold rnC rnG; simp [h]
theorem rn_high (r c n : Int) (g : Bool) (h : ¬ n < c + 1) : rnC r c true n = r - (n - (c + 1)) % (r + 1) ∧ rnG c true g n = true := by unfold rnC rnG; simp [h]
/-- A timer's box, ahead of a call and the result's box: it is as it was behind it. -/
theorem box4 {w w1 : World} {r c : Int} {on g : Bool} {o : Obj} (hb1 : Below ((w.alloc (.cells #[.int .u16 r, .int .u16 c, .bool on, .bool g] 24)).alloc o).heap.size ((w.alloc (.cells #[.int .u16 r, .int .u16 c, .bool on, .bool g] 24)).alloc o) w1) :
    w1.cell? ⟨w.heap.size, 0, none⟩ = some (.int .u16 r) ∧ w1.cell? ⟨w.heap.size, 1, none⟩ = some (.int .u16 c) ∧ w1.cell? ⟨w.heap.size, 2, none⟩ = some (.bool on) ∧ w1.cell? ⟨w.heap.size, 3, none⟩ = some (.bool g) := by
  have h : ∀ j, w1.cell? ⟨w.heap.size, j, none⟩ = #[Value.int .u16 r, .int .u16 c, .bool on, .bool g][j]? := fun j => by
    rw [hb1.cell (p := ⟨w.heap.size, j, none⟩) (by simp; omega)]
    exact (World.cell?_alloc_lt _ _ ⟨w.heap.size, j, none⟩ (by simp)).trans (Pl.new _ _ _ _ rfl)
  exact ⟨h 0, h 1, h 2, h 3⟩
theorem box4r {w w1 : World} {o : Obj} (hb1 : Below ((w.alloc o).alloc (.cells #[.int .u16 0, .int .u16 0, .bool false, .bool false] 24)).heap.size ((w.alloc o).alloc (.cells #[.int .u16 0, .int .u16 0, .bool false, .bool false] 24)) w1) :
    w1.cell? ⟨w.heap.size + 1, 0, none⟩ = some (.int .u16 0) ∧ w1.cell? ⟨w.heap.size + 1, 1, none⟩ = some (.int .u16 0) ∧ w1.cell? ⟨w.heap.size + 1, 2, none⟩ = some (.bool false) ∧ w1.cell? ⟨w.heap.size + 1, 3, none⟩ = some (.bool false) := by
  have h : ∀ j, w1.cell? ⟨w.heap.size + 1, j, none⟩ = #[Value.int .u16 0, .int .u16 0, .bool false, .bool false][j]? := fun j => by
    rw [hb1.cell (p := ⟨w.heap.size + 1, j, none⟩) (by simp)]
    exact Pl.new _ _ _ _ (by simp)
  exact ⟨h 0, h 1, h 2, h 3⟩
theorem resT {w w1 : World} {o : Obj} (hb1 : Below ((w.alloc o).alloc (.cells #[.int .u16 0, .int .u16 0, .bool false, .bool false] 24)).heap.size ((w.alloc o).alloc (.cells #[.int .u16 0, .int .u16 0, .bool false, .bool false] 24)) w1) :
    w1.there (w.heap.size + 1) 0 4 ∧ Below w.heap.size w w1 := by
  refine ⟨Pl.there_old (Pl.there_new (w.alloc o) #[.int .u16 0, .int .u16 0, .bool false, .bool false] 24 4 (w.heap.size + 1) (by simp) rfl) hb1 (by simp), stp (stA (stA (st0 w) _) _) hb1⟩
theorem fin4 {w U : World} (r c : Int) (on g : Bool) (ht : U.there (w.heap.size + 1) 0 4) (hB : Below w.heap.size w U) :
    Below w.heap.size w ((((U.setCell ⟨w.heap.size + 1, 0, none⟩ (.int .u16 r)).setCell ⟨w.heap.size + 1, 1, none⟩ (.int .u16 c)).setCell ⟨w.heap.size + 1, 2, none⟩ (.bool on)).setCell ⟨w.heap.size + 1, 3, none⟩ (.bool g)) ∧
      ((((U.setCell ⟨w.heap.size + 1, 0, none⟩ (.int .u16 r)).setCell ⟨w.heap.size + 1, 1, none⟩ (.int .u16 c)).setCell ⟨w.heap.size + 1, 2, none⟩ (.bool on)).setCell ⟨w.heap.size + 1, 3, none⟩ (.bool g)).rangeAt (w.heap.size + 1) 0 [.int .u16 r, .int .u16 c, .bool on, .bool g] := by
  have h := World.rangeAt_setCells_same U (w.heap.size + 1) 0 [.int .u16 r, .int .u16 c, .bool on, .bool g] ht
  have h2 := Pl.below (Nat.le_succ w.heap.size) [.int .u16 r, .int .u16 c, .bool on, .bool g] 0 U hB
  simp only [World.setCells, Nat.zero_add, Nat.reduceAdd] at h h2
  exact ⟨h2, h⟩
theorem range_drew {U : World} {b o : Nat} {L : List Value} (h : U.rangeAt b o L) : U.drew.rangeAt b o L := h
theorem keepT {W : World} {b0 b o : Nat} {r n : Int} {v : Value} (h : W.cell? ⟨b0, 0, none⟩ = some (.int .u16 r) ∧ W.cell? ⟨b, 0, none⟩ = some (.int .i64 n)) (hne : b ≠ b0) (ho : o ≠ 0) :
    (W.setCell ⟨b0, o, none⟩ v).cell? ⟨b0, 0, none⟩ = some (.int .u16 r) ∧ (W.setCell ⟨b0, o, none⟩ v).cell? ⟨b, 0, none⟩ = some (.int .i64 n) := by
  refine ⟨(World.cell?_setCell_other _ _ _ _ ?_).trans h.1, (World.cell?_setCell_other _ _ _ _ ?_).trans h.2⟩
  · intro e; exact ho (congrArg Addr.off e)
  · intro e; exact hne (congrArg Addr.block e).symm
set_option maxHeartbeats 1600000 in
theorem ticks1_any (r c n : Int) (g : Bool) (b : Nat) (w : World) (hr : 0 ≤ r ∧ r ≤ 65535) (hc : 0 ≤ c ∧ c ≤ 65535) (hn : 0 ≤ n ∧ n ≤ 20000) (hb : w.cell? ⟨b, 0, none⟩ = some (.int .i64 n)) (hlt : b < w.heap.size) :
    Calls Try.prog 16 #[.agg #[.int .u16 r, .int .u16 c, .bool true, .bool g], .pointer (some ⟨b, 0, none⟩)] w fun e w' => e = .returned (.agg #[.int .u16 r, .int .u16 (rnC r c true n), .bool true, .bool (rnG c true g n)]) ∧ Below w.heap.size w w' := by
  have hne : b ≠ w.heap.size := Nat.ne_of_lt hlt
  have hne1 : b ≠ w.heap.size + 1 := by omega
  by_cases h : n < c + 1
  · obtain ⟨e1, e2⟩ := rn_low r c n g h
    rw [e1, e2]
    go_enter Try.func16, Try.ntmps16
    go_wp2_with (go_at_call 11; refine (next_on _ _ _ _ hc).mono ?_; rintro e w1 ⟨rfl, hb1⟩; obtain ⟨k1, f1⟩ := bcell hb1; have z1 : w.heap.size + 1 < w1.heap.size := Nat.lt_of_lt_of_le (by simp) hb1.size; have z10 := Nat.lt_of_succ_lt z1; have z0 : b < w1.heap.size := Nat.lt_of_lt_of_le hlt (Nat.le_of_lt (Nat.lt_of_succ_lt z1)); obtain ⟨y0, y1, y2, y3⟩ := box4 hb1; obtain ⟨x0, x1, x2, x3⟩ := box4r hb1; have c1 := ((stp (stA (stA (st0 w) _) _) hb1).cell (p := ⟨b, 0, none⟩) hlt).trans hb)
    obtain ⟨hT, hB⟩ := resT hb1
    have hF := fin4 (U := w1.setCell ⟨w.heap.size, 1, none⟩ (.int .u16 (c - n))) r (c - n) true g (World.there_setCells hT w.heap.size 1 [.int .u16 (c - n)]) (hB.setCell (Nat.le_refl _) _)
    refine Pl.cutB (fun Y => Below w.heap.size w Y ∧ Y.rangeAt (w.heap.size + 1) 0 [.int .u16 r, .int .u16 (c - n), .bool true, .bool g]) hF ?_
    rintro Y ⟨hY, hR⟩
    exact bodyPost_ret (v := .agg _) (by simp only [results, Try.results16]; simp; exact load_timer _ _ _ _ _ _ hR) rfl ⟨rfl, hY⟩
  · obtain ⟨e1, e2⟩ := rn_high r c n g h
    rw [e1, e2]
    go_enter Try.func16, Try.ntmps16
    go_wp2_with (go_at_call 11; refine (next_on _ _ _ _ hc).mono ?_; rintro e w1 ⟨rfl, hb1⟩; obtain ⟨k1, f1⟩ := bcell hb1; have z1 : w.heap.size + 1 < w1.heap.size := Nat.lt_of_lt_of_le (by simp) hb1.size; have z10 := Nat.lt_of_succ_lt z1; have z0 : b < w1.heap.size := Nat.lt_of_lt_of_le hlt (Nat.le_of_lt (Nat.lt_of_succ_lt z1)); obtain ⟨y0, y1, y2, y3⟩ := box4 hb1; obtain ⟨x0, x1, x2, x3⟩ := box4r hb1; have c1 := ((stp (stA (stA (st0 w) _) _) hb1).cell (p := ⟨b, 0, none⟩) hlt).trans hb)
    have m1 := Int.emod_nonneg (n - (c + 1)) (show r + 1 ≠ 0 by omega)
    have m2 := Int.emod_lt_of_pos (n - (c + 1)) (show 0 < r + 1 by omega)
    have q1 : IntKind.i64.wrap (n - (c + 1)) = n - (c + 1) := by simp [IntKind.wrap, IntKind.bits, IntKind.signed]; omega
    have q2 : IntKind.i64.wrap ((n - (c + 1)).tmod (r + 1)) = (n - (c + 1)) % (r + 1) := by rw [Int.tmod_eq_emod_of_nonneg (by omega)]; simp [IntKind.wrap, IntKind.bits, IntKind.signed]; omega
    have q3 : IntKind.u16.wrap ((n - (c + 1)) % (r + 1)) = (n - (c + 1)) % (r + 1) := by rw [IntKind.wrap_u16]; omega
    have q4 : IntKind.u16.wrap (r - (n - (c + 1)) % (r + 1)) = r - (n - (c + 1)) % (r + 1) := by rw [IntKind.wrap_u16]; omega
    have q5 : r + 1 ≠ 0 := by omega
    have hne2 : ¬ (w.heap.size = b) := fun e => hne e.symm
    clear k1 hb
    go_region_held3 (fun w' => w'.cell? ⟨w.heap.size, 0, none⟩ = some (.int .u16 r) ∧ w'.cell? ⟨b, 0, none⟩ = some (.int .i64 n))
      (first
        | exact keepT ⟨y0, c1⟩ hne (by decide)
        | exact keepT (keepT ⟨y0, c1⟩ hne (by decide)) hne (by decide)
        | (go_keep; done))
      (fail)
    go_wp2
    obtain ⟨hT, hB⟩ := resT hb1
    have hF := fin4 (U := (w1.setCell ⟨w.heap.size, 1, none⟩ (.int .u16 (r - (n - (c + 1)) % (r + 1)))).setCell ⟨w.heap.size, 3, none⟩ (.bool true)) r (r - (n - (c + 1)) % (r + 1)) true true (World.there_setCells (World.there_setCells hT w.heap.size 1 [.int .u16 (r - (n - (c + 1)) % (r + 1))]) w.heap.size 3 [.bool true]) ((hB.setCell (Nat.le_refl _) _).setCell (Nat.le_refl _) _)
    refine Pl.cutB (fun Y => Below w.heap.size w Y ∧ Y.rangeAt (w.heap.size + 1) 0 [.int .u16 r, .int .u16 (r - (n - (c + 1)) % (r + 1)), .bool true, .bool true]) ⟨hF.1.drew, range_drew hF.2⟩ ?_
    rintro Y ⟨hY, hR⟩
    exact bodyPost_ret (v := .agg _) (by simp only [results, Try.results16]; simp; exact load_timer _ _ _ _ _ _ hR) rfl ⟨rfl, hY⟩
/-! ### whenOn -/
theorem when_off (r c : Int) (g : Bool) (f : Value) (w : World) :
    Calls Try.prog 12 #[.agg #[.int .u16 r, .int .u16 c, .bool false, .bool g], f] w fun e w' => e = .returned (.agg #[.int .u16 r, .int .u16 c, .bool false, .bool g]) ∧ Below w.heap.size w w' := by
  go_enter Try.func12, Try.ntmps12
  go_wp2
  refine bodyPost_ret (v := .agg _) (by simp [results, Try.results12, go_sem]) rfl ⟨rfl, ?_⟩
  exact (stA (stA (st0 _) _) _)
theorem when_tick (r c : Int) (g : Bool) (w : World) (hc : 0 ≤ c ∧ c ≤ 65535) :
    Calls Try.prog 12 #[.agg #[.int .u16 r, .int .u16 c, .bool true, .bool g], .func (.func 14) #[] #[]] w fun e w' => e = .returned (.agg #[.int .u16 r, .int .u16 (tkC r c true), .bool true, .bool (tkG c true g)]) ∧ Below w.heap.size w w' := by
  go_enter Try.func12, Try.ntmps12
  go_wp2_with (go_at_call 14; refine (tick1_any _ _ _ _ hc).mono ?_; rintro e w1 ⟨rfl, hb1⟩; obtain ⟨k1, f1⟩ := bcell hb1; have z1 : w.heap.size + 1 < w1.heap.size := Nat.lt_of_lt_of_le (by simp) hb1.size)
  have hF := fin4 r (tkC r c true) true (tkG c true g) (resT hb1).1 (resT hb1).2
  refine Pl.cutB (fun Y => Below w.heap.size w Y ∧ Y.rangeAt (w.heap.size + 1) 0 [.int .u16 r, .int .u16 (tkC r c true), .bool true, .bool (tkG c true g)]) hF ?_
  rintro Y ⟨hY, hR⟩
  exact bodyPost_ret (v := .agg _) (by simp only [results, Try.results12]; simp; exact load_timer _ _ _ _ _ _ hR) rfl ⟨rfl, hY⟩
theorem when_set (r c : Int) (g : Bool) (w : World) :
    Calls Try.prog 12 #[.agg #[.int .u16 r, .int .u16 c, .bool true, .bool g], .func (.func 15) #[] #[]] w fun e w' => e = .returned (.agg #[.int .u16 r, .int .u16 r, .bool true, .bool g]) ∧ Below w.heap.size w w' := by
  go_enter Try.func12, Try.ntmps12
  go_wp2_with (go_at_call 15; refine (set1_any _ _ _ _ _).mono ?_; rintro e w1 ⟨rfl, hb1⟩; obtain ⟨k1, f1⟩ := bcell hb1; have z1 : w.heap.size + 1 < w1.heap.size := Nat.lt_of_lt_of_le (by simp) hb1.size)
  have hF := fin4 r r true g (resT hb1).1 (resT hb1).2
  refine Pl.cutB (fun Y => Below w.heap.size w Y ∧ Y.rangeAt (w.heap.size + 1) 0 [.int .u16 r, .int .u16 r, .bool true, .bool g]) hF ?_
  rintro Y ⟨hY, hR⟩
  exact bodyPost_ret (v := .agg _) (by simp only [results, Try.results12]; simp; exact load_timer _ _ _ _ _ _ hR) rfl ⟨rfl, hY⟩
theorem when_ticks (r c n : Int) (g : Bool) (b : Nat) (w : World) (hr : 0 ≤ r ∧ r ≤ 65535) (hc : 0 ≤ c ∧ c ≤ 65535) (hn : 0 ≤ n ∧ n ≤ 20000) (hb : w.cell? ⟨b, 0, none⟩ = some (.int .i64 n)) (hlt : b < w.heap.size) :
    Calls Try.prog 12 #[.agg #[.int .u16 r, .int .u16 c, .bool true, .bool g], .func (.func 16) #[] #[.pointer (some ⟨b, 0, none⟩)]] w fun e w' => e = .returned (.agg #[.int .u16 r, .int .u16 (rnC r c true n), .bool true, .bool (rnG c true g n)]) ∧ Below w.heap.size w w' := by
  have hc2 := fun o1 o2 => ((stA (stA (st0 w) o1) o2).cell (p := ⟨b, 0, none⟩) hlt).trans hb
  go_enter Try.func12, Try.ntmps12
  go_wp2_with (go_at_call 16; refine (ticks1_any _ _ _ _ _ _ hr hc hn (hc2 _ _) (by simp; omega)).mono ?_; rintro e w1 ⟨rfl, hb1⟩; obtain ⟨k1, f1⟩ := bcell hb1; have z1 : w.heap.size + 1 < w1.heap.size := Nat.lt_of_lt_of_le (by simp) hb1.size)
  have hF := fin4 r (rnC r c true n) true (rnG c true g n) (resT hb1).1 (resT hb1).2
  refine Pl.cutB (fun Y => Below w.heap.size w Y ∧ Y.rangeAt (w.heap.size + 1) 0 [.int .u16 r, .int .u16 (rnC r c true n), .bool true, .bool (rnG c true g n)]) hF ?_
  rintro Y ⟨hY, hR⟩
  exact bodyPost_ret (v := .agg _) (by simp only [results, Try.results12]; simp; exact load_timer _ _ _ _ _ _ hR) rfl ⟨rfl, hY⟩
/-! ### Set, Tick, Run -/
theorem tick_any (r c : Int) (on g : Bool) (w : World) (hc : 0 ≤ c ∧ c ≤ 65535) :
    Calls Try.prog 8 #[.agg #[.int .u16 r, .int .u16 c, .bool on, .bool g]] w fun e w' => e = .returned (.agg #[.int .u16 r, .int .u16 (tkC r c on), .bool on, .bool (tkG c on g)]) ∧ Below w.heap.size w w' := by
  cases on
  · go_enter Try.func8, Try.ntmps8
    go_wp2_with (go_at_call 12; refine (when_off _ _ _ _ _).mono ?_; rintro e w1 ⟨rfl, hb1⟩; obtain ⟨k1, f1⟩ := bcell hb1; have z1 : w.heap.size + 1 < w1.heap.size := Nat.lt_of_lt_of_le (by simp) hb1.size)
    have hF := fin4 r c false g (resT hb1).1 (resT hb1).2
    refine Pl.cutB (fun Y => Below w.heap.size w Y ∧ Y.rangeAt (w.heap.size + 1) 0 [.int .u16 r, .int .u16 c, .bool false, .bool g]) hF ?_
    rintro Y ⟨hY, hR⟩
    exact bodyPost_ret (v := .agg _) (by simp only [results, Try.results8]; simp; exact load_timer _ _ _ _ _ _ hR) rfl ⟨rfl, hY⟩
  · go_enter Try.func8, Try.ntmps8
    go_wp2_with (go_at_call 12; refine (when_tick _ _ _ _ hc).mono ?_; rintro e w1 ⟨rfl, hb1⟩; obtain ⟨k1, f1⟩ := bcell hb1; have z1 : w.heap.size + 1 < w1.heap.size := Nat.lt_of_lt_of_le (by simp) hb1.size)
    have hF := fin4 r (tkC r c true) true (tkG c true g) (resT hb1).1 (resT hb1).2
    refine Pl.cutB (fun Y => Below w.heap.size w Y ∧ Y.rangeAt (w.heap.size + 1) 0 [.int .u16 r, .int .u16 (tkC r c true), .bool true, .bool (tkG c true g)]) hF ?_
    rintro Y ⟨hY, hR⟩
    exact bodyPost_ret (v := .agg _) (by simp only [results, Try.results8]; simp; exact load_timer _ _ _ _ _ _ hR) rfl ⟨rfl, hY⟩
theorem set_any (r c : Int) (o0 on g : Bool) (w : World) :
    Calls Try.prog 10 #[.agg #[.int .u16 r, .int .u16 c, .bool o0, .bool g], .bool on] w fun e w' => e = .returned (.agg #[.int .u16 r, .int .u16 (sel on r c), .bool on, .bool g]) ∧ Below w.heap.size w w' := by
  cases on
  · go_enter Try.func10, Try.ntmps10
    go_wp2_with (go_at_call 12; refine (when_off _ _ _ _ _).mono ?_; rintro e w1 ⟨rfl, hb1⟩; obtain ⟨k1, f1⟩ := bcell hb1; have z1 : w.heap.size + 1 < w1.heap.size := Nat.lt_of_lt_of_le (by simp) hb1.size)
    have hF := fin4 r c false g (resT hb1).1 (resT hb1).2
    refine Pl.cutB (fun Y => Below w.heap.size w Y ∧ Y.rangeAt (w.heap.size + 1) 0 [.int .u16 r, .int .u16 c, .bool false, .bool g]) hF ?_
    rintro Y ⟨hY, hR⟩
    exact bodyPost_ret (v := .agg _) (by simp only [results, Try.results10]; simp; exact load_timer _ _ _ _ _ _ hR) rfl ⟨rfl, hY⟩
  · go_enter Try.func10, Try.ntmps10
    go_wp2_with (go_at_call 12; refine (when_set _ _ _ _).mono ?_; rintro e w1 ⟨rfl, hb1⟩; obtain ⟨k1, f1⟩ := bcell hb1; have z1 : w.heap.size + 1 < w1.heap.size := Nat.lt_of_lt_of_le (by simp) hb1.size)
    have hF := fin4 r r true g (resT hb1).1 (resT hb1).2
    refine Pl.cutB (fun Y => Below w.heap.size w Y ∧ Y.rangeAt (w.heap.size + 1) 0 [.int .u16 r, .int .u16 r, .bool true, .bool g]) hF ?_
    rintro Y ⟨hY, hR⟩
    exact bodyPost_ret (v := .agg _) (by simp only [results, Try.results10]; simp; exact load_timer _ _ _ _ _ _ hR) rfl ⟨rfl, hY⟩
end Go.Proofs.Ytdbigihmggpklaa
