/-
  Package beam: what Run, Next, Check answer, as plain numbers; nothing old is written.
-/
import Derived.Test.YteanddobckpcpaaPlain
import Derived.Laws.EntriesVeiled
namespace Go.Proofs.Yteanddobckpcpaa
open Go.ChangeShapes Go.WideShapes Go.ChangeAt Go.RowKit
set_option linter.unusedVariables false

/-! ### plain numbers -/
def bmL (l a n : Int) : Int := (l * 64 + a + n) % 640 / 64
def bmA (l a n : Int) : Int := (l * 64 + a + n) % 64
def bmG (l a : Int) (g : Bool) (n : Int) : Bool := g || decide ((l * 64 + a + 128) / 640 < (l * 64 + a + n + 128) / 640)
def bmF (l a f n : Int) : Int := f + (l * 64 + a + n) / 640
/-- A beam that may be. -/
structure BOk (l a f : Int) : Prop where
  l0 : 0 ≤ l
  l1 : l ≤ 9
  a0 : 0 ≤ a
  a1 : a ≤ 63
  f0 : 0 ≤ f
  f1 : f ≤ 20000
def bok (l a f : Int) : Bool := decide (0 ≤ l ∧ l ≤ 9 ∧ 0 ≤ a ∧ a ≤ 63 ∧ 0 ≤ f ∧ f ≤ 20000)
theorem bok_iff (l a f : Int) : bok l a f = true ↔ BOk l a f := by
  unfold bok
  rw [decide_eq_true_eq]
  exact ⟨fun ⟨h1, h2, h3, h4, h5, h6⟩ => ⟨h1, h2, h3, h4, h5, h6⟩, fun ⟨h1, h2, h3, h4, h5, h6⟩ => ⟨h1, h2, h3, h4, h5, h6⟩⟩
def tL (l a : Int) : Int := if a = 63 then (if l = 9 then 0 else l + 1) else l
def tA (a : Int) : Int := if a = 63 then 0 else a + 1
def tG (l a : Int) (g : Bool) : Bool := if a = 63 ∧ l = 7 then true else g
def tF (l a f : Int) : Int := if a = 63 ∧ l = 9 then f + 1 else f
theorem bm_zero (l a f : Int) (g : Bool) (hl : 0 ≤ l ∧ l ≤ 9) (ha : 0 ≤ a ∧ a ≤ 63) : bmL l a 0 = l ∧ bmA l a 0 = a ∧ bmG l a g 0 = g ∧ bmF l a f 0 = f := by
  unfold bmL bmA bmG bmF
  refine ⟨by omega, by omega, ?_, by omega⟩
  rw [Int.add_zero, decide_eq_false (Int.lt_irrefl _), Bool.or_false]
theorem bm_bd (l a n : Int) (hl : 0 ≤ l ∧ l ≤ 9) (ha : 0 ≤ a ∧ a ≤ 63) (hn : 0 ≤ n) : (0 ≤ bmL l a n ∧ bmL l a n ≤ 9) ∧ (0 ≤ bmA l a n ∧ bmA l a n ≤ 63) := by
  unfold bmL bmA
  omega
theorem bm_pos (l a n : Int) (hl : 0 ≤ l ∧ l ≤ 9) (ha : 0 ≤ a ∧ a ≤ 63) (hn : 0 ≤ n) : bmL l a n * 64 + bmA l a n = (l * 64 + a + n) % 640 := by
  unfold bmL bmA
  omega
theorem or_dec (g : Bool) (p q r : Prop) [Decidable p] [Decidable q] [Decidable r] (h : (p ∨ q) ↔ r) : ((g || decide p) || decide q) = (g || decide r) := by
  rw [Bool.or_assoc]
  congr 1
  rw [← Bool.decide_or]
  exact decide_eq_decide.2 h
theorem bm_add (l a f n m : Int) (g : Bool) (hl : 0 ≤ l ∧ l ≤ 9) (ha : 0 ≤ a ∧ a ≤ 63) (hn : 0 ≤ n) (hm : 0 ≤ m) :
    bmL (bmL l a n) (bmA l a n) m = bmL l a (n + m) ∧ bmA (bmL l a n) (bmA l a n) m = bmA l a (n + m) ∧ bmG (bmL l a n) (bmA l a n) (bmG l a g n) m = bmG l a g (n + m) ∧ bmF (bmL l a n) (bmA l a n) (bmF l a f n) m = bmF l a f (n + m) := by
  have hp := bm_pos l a n hl ha hn
  have hA : bmA l a n = (l * 64 + a + n) % 640 % 64 := by unfold bmA; omega
  refine ⟨?_, ?_, ?_, ?_⟩
  · unfold bmL at hp ⊢
    rw [hp]; omega
  · unfold bmA bmL at hp ⊢
    rw [hp]; omega
  · unfold bmG
    rw [hp]
    exact or_dec g _ _ _ (by omega)
  · unfold bmF
    rw [hp]; omega
theorem bm_one (l a f : Int) (g : Bool) (hl : 0 ≤ l ∧ l ≤ 9) (ha : 0 ≤ a ∧ a ≤ 63) : bmL l a 1 = tL l a ∧ bmA l a 1 = tA a ∧ bmG l a g 1 = tG l a g ∧ bmF l a f 1 = tF l a f := by
  unfold bmL bmA bmG bmF tL tA tG tF
  refine ⟨by split <;> (try split) <;> omega, by split <;> omega, ?_, by split <;> omega⟩
  split
  · rw [decide_eq_true (by omega), Bool.or_true]
  · rw [decide_eq_false (by omega), Bool.or_false]
theorem bm_step (l a f n : Int) (g : Bool) (hl : 0 ≤ l ∧ l ≤ 9) (ha : 0 ≤ a ∧ a ≤ 63) (hn : 0 ≤ n) :
    tL (bmL l a n) (bmA l a n) = bmL l a (n + 1) ∧ tA (bmA l a n) = bmA l a (n + 1) ∧ tG (bmL l a n) (bmA l a n) (bmG l a g n) = bmG l a g (n + 1) ∧ tF (bmL l a n) (bmA l a n) (bmF l a f n) = bmF l a f (n + 1) := by
  obtain ⟨b1, b2⟩ := bm_bd l a n hl ha hn
  obtain ⟨s1, s2, s3, s4⟩ := bm_add l a f n 1 g hl ha hn (by omega)
  obtain ⟨o1, o2, o3, o4⟩ := bm_one (bmL l a n) (bmA l a n) (bmF l a f n) (bmG l a g n) b1 b2
  exact ⟨o1.symm.trans s1, o2.symm.trans s2, o3.symm.trans s3, o4.symm.trans s4⟩
/-! ### the package -/
theorem info_beam : (Try.prog.info? 23).map (·.size) = some 4 := by kernel_rfl
theorem load_beam (W : World) (q : Nat) (l a f : Int) (g : Bool) (h : W.rangeAt q 0 [.int .i64 l, .int .i64 a, .bool g, .int .i64 f]) : (loadVar 23 ⟨q, 0, none⟩).run Try.prog W = .ok (.agg #[.int .i64 l, .int .i64 a, .bool g, .int .i64 f]) W :=
  run_loadVar_mid W q 0 23 _ _ h Try.underlying23 rfl info_beam
def wthn (n m : Int) : Bool := decide (0 ≤ n) && decide (n ≤ m)
theorem wthn_yes {n m : Int} (h0 : 0 ≤ n) (h1 : n ≤ m) : wthn n m = true := by unfold wthn; simp [h0, h1]
theorem wthn_no {n m : Int} (h : ¬ (0 ≤ n ∧ n ≤ m)) : wthn n m = false := by unfold wthn; rw [← Bool.decide_and]; exact decide_eq_false h
theorem Bm.within_any (n m : Int) (w : World) :
    Calls Try.prog 10 #[.int .i64 n, .int .i64 m] w fun e w' => e = .returned (.bool (wthn n m)) ∧ w = w' := by
  unfold wthn
  by_cases h : 0 ≤ n
  · go_enter Try.func10, Try.ntmps10
    go_wp2
    go_ret
    exact ⟨ret_b (by simp [h]), rfl⟩
  · go_enter Try.func10, Try.ntmps10
    go_wp2
    go_ret
    exact ⟨ret_b (by simp; omega), rfl⟩
theorem Bm.each_any (own : Int) (w : World) :
    Calls Try.prog 11 #[.int .i64 own] w fun e w' => e = .returned (.func (.func 12) #[] #[.pointer (some ⟨w.heap.size, 0, none⟩)]) ∧ w' = w.alloc (.cells #[.int .i64 own] 3) := by
  go_enter Try.func11, Try.ntmps11
  go_wp2
  go_ret
  exact ⟨rfl, rfl⟩
theorem Bm.often_any (own c : Int) (b : Nat) (w : World) (ho : 0 ≤ own ∧ own ≤ 640) (hc : 0 ≤ c ∧ c ≤ 30000) (h : w.cell? ⟨b, 0, none⟩ = some (.int .i64 own)) (hb : b < w.heap.size) :
    Calls Try.prog 12 #[.int .i64 c, .pointer (some ⟨b, 0, none⟩)] w fun e w' => e = .returned (.int .i64 ((c + 640 - own) / 640)) ∧ w = w' := by
  have e1 : Int.tdiv (c + 640 - own) 640 = (c + 640 - own) / 640 := Int.tdiv_eq_ediv_of_nonneg (by omega)
  go_enter Try.func12, Try.ntmps12
  go_wp2
  go_ret
  exact ⟨by first | rfl | (congr 2; omega), rfl⟩
theorem Bm.check_yes (l a f : Int) (g : Bool) (w : World) (h : BOk l a f) :
    Calls Try.prog 8 #[.agg #[.int .i64 l, .int .i64 a, .bool g, .int .i64 f]] w fun e w' => e = .returned (.int .i64 0) ∧ Below w.heap.size w w' := by
  have h1 := wthn_yes h.l0 h.l1
  have h2 := wthn_yes h.a0 h.a1
  have h3 := wthn_yes h.f0 h.f1
  clear h
  go_enter Try.func8, Try.ntmps8
  go_wp2_with (go_at_call 10; refine (Bm.within_any _ _ _).mono ?_; rintro e w0 ⟨rfl, rfl⟩)
  go_ret
  exact ⟨rfl, stA (st0 _) _⟩
theorem Bm.check_no (l a f : Int) (g : Bool) (w : World) (h : ¬ BOk l a f) :
    Calls Try.prog 8 #[.agg #[.int .i64 l, .int .i64 a, .bool g, .int .i64 f]] w fun e w' => e = .returned (.int .i64 3) ∧ Below w.heap.size w w' := by
  by_cases hl : 0 ≤ l ∧ l ≤ 9
  · have h1 := wthn_yes hl.1 hl.2
    by_cases ha : 0 ≤ a ∧ a ≤ 63
    · have h2 := wthn_yes ha.1 ha.2
      have h3 := wthn_no (n := f) (m := 20000) fun hf => h ⟨hl.1, hl.2, ha.1, ha.2, hf.1, hf.2⟩
      clear h hl ha
      go_enter Try.func8, Try.ntmps8
      go_wp2_with (go_at_call 10; refine (Bm.within_any _ _ _).mono ?_; rintro e w0 ⟨rfl, rfl⟩)
      go_ret
      exact ⟨rfl, stA (st0 _) _⟩
    · have h2 := wthn_no ha
      clear h hl ha
      go_enter Try.func8, Try.ntmps8
      go_wp2_with (go_at_call 10; refine (Bm.within_any _ _ _).mono ?_; rintro e w0 ⟨rfl, rfl⟩)
      go_ret
      exact ⟨rfl, stA (st0 _) _⟩
  · have h1 := wthn_no hl
    clear h hl
    go_enter Try.func8, Try.ntmps8
    go_wp2_with (go_at_call 10; refine (Bm.within_any _ _ _).mono ?_; rintro e w0 ⟨rfl, rfl⟩)
    go_ret
    exact ⟨rfl, stA (st0 _) _⟩
theorem Bm.next_yes (l a f : Int) (g : Bool) (w : World) (h : BOk l a f) :
    Calls Try.prog 6 #[.agg #[.int .i64 l, .int .i64 a, .bool g, .int .i64 f]] w fun e w' => e = .returned (.tuple #[.int .i64 ((64 - a) % 64), .int .i64 0]) ∧ Below w.heap.size w w' := by
  have H := hid h
  have a0 := h.a0
  have a1 := h.a1
  have e1 : Int.tmod (64 - a) 64 = (64 - a) % 64 := Int.tmod_eq_emod_of_nonneg (by omega)
  clear h
  go_enter Try.func6, Try.ntmps6
  go_wp2_with (go_at_call 8; refine (Bm.check_yes _ _ _ _ _ H.out).mono ?_; rintro e w1 ⟨rfl, hb1⟩; obtain ⟨k1, f1⟩ := bcell hb1; have z1 : w.heap.size < w1.heap.size := Nat.lt_of_lt_of_le (by simp) hb1.size)
  go_ret2
  exact ⟨by rw [show (64 - a) % 64 = -a % 64 by omega]; rfl, stp (stA (st0 w) _) hb1⟩
theorem Bm.next_no (l a f : Int) (g : Bool) (w : World) (h : ¬ BOk l a f) :
    Calls Try.prog 6 #[.agg #[.int .i64 l, .int .i64 a, .bool g, .int .i64 f]] w fun e w' => e = .returned (.tuple #[.int .i64 0, .int .i64 3]) ∧ Below w.heap.size w w' := by
  have H := hid h
  clear h
  go_enter Try.func6, Try.ntmps6
  go_wp2_with (go_at_call 8; refine (Bm.check_no l a f g _ H.out).mono ?_; rintro e w1 ⟨rfl, hb1⟩; obtain ⟨k1, f1⟩ := bcell hb1; have z1 : w.heap.size < w1.heap.size := Nat.lt_of_lt_of_le (by simp) hb1.size)
  go_ret2
  exact ⟨rfl, stp (stA (st0 w) _) hb1⟩
theorem Bm.rtick_any (l a f : Int) (g : Bool) (w : World) (hl : 0 ≤ l ∧ l ≤ 9) (ha : 0 ≤ a ∧ a ≤ 63) (hf : 0 ≤ f ∧ f ≤ 1000000) :
    Calls Try.prog 9 #[.agg #[.int .i64 l, .int .i64 a, .bool g, .int .i64 f]] w fun e w' => e = .returned (.agg #[.int .i64 (tL l a), .int .i64 (tA a), .bool (tG l a g), .int .i64 (tF l a f)]) ∧ Below w.heap.size w w' := by
  by_cases h : a = 63
  · subst h
    by_cases h9 : l = 9
    · subst h9
      go_enter Try.func9, Try.ntmps9
      go_wp2
      refine bodyPost_ret (v := .agg _) (by simp [results, Try.results9, go_sem, tL, tA, tG, tF]) rfl ⟨rfl, ?_⟩
      exact (stA (stA (st0 _) _) _)
    · by_cases h7 : l = 7
      · subst h7
        go_enter Try.func9, Try.ntmps9
        go_wp2
        refine bodyPost_ret (v := .agg _) (by simp [results, Try.results9, go_sem, tL, tA, tG, tF]) rfl ⟨rfl, ?_⟩
        exact (stA (stA (st0 _) _) _)
      · have q1 : (l + 1 == 8) = false := by simp; omega
        have q2 : (l + 1 == 10) = false := by simp; omega
        have q3 : tL l 63 = l + 1 := by simp [tL, h9]
        have q4 : tG l 63 g = g := by simp [tG, h7]
        have q5 : tF l 63 f = f := by simp [tF, h9]
        have HQ := hid (And.intro q3 (And.intro q4 q5))
        clear q3 q4 q5 h9 h7
        go_enter Try.func9, Try.ntmps9
        go_wp2
        rw [HQ.out.1, HQ.out.2.1, HQ.out.2.2]
        refine bodyPost_ret (v := .agg _) (by simp [results, Try.results9, go_sem, tA]) rfl ⟨rfl, ?_⟩
        exact (stA (stA (st0 _) _) _)
  · have q1 : (a + 1 == 64) = false := by simp; omega
    have HQ : Hid (tL l a = l ∧ tA a = a + 1 ∧ tG l a g = g ∧ tF l a f = f) := hid (by simp [tL, tA, tG, tF, h])
    clear h
    go_enter Try.func9, Try.ntmps9
    go_wp2
    rw [HQ.out.1, HQ.out.2.1, HQ.out.2.2.1, HQ.out.2.2.2]
    refine bodyPost_ret (v := .agg _) (by simp [results, Try.results9, go_sem]) rfl ⟨rfl, ?_⟩
    exact (stA (stA (st0 _) _) _)
end Go.Proofs.Yteanddobckpcpaa
