/-
  Package beam: what Run, Next, Check answer, as plain numbers; nothing old is written.
-/
import Derived.Test.YthooknikfachnaaPlain
import Derived.Laws.EntriesVeiled
namespace Go.Proofs.Ythooknikfachnaa
open Go.ChangeShapes Go.WideShapes Go.ChangeAt Go.RowKit
set_option linter.unusedVariables false
set_option maxRecDepth 100000

/-! ### plain numbers -/
def bmL (l a n : Int) : Int := (l * 64 + a + n) % 640 / 64
def bmA (l a n : Int) : Int := (l * 64 + a + n) % 64
def bmG (l a : Int) (g : Bool) (n : Int) : Bool := g || decide ((l * 64 + a + 128) / 640 < (l * 64 + a + n + 128) / 640)
def bmF (l a f n : Int) : Int := f + (l * 64 + a + n) / 640
/-- A beam that may be. -/
structure BOk (l a f : Int) : Prop where
  l0 : 0 ≤ l
  l1 : l ≤ 9
  a0 : 0 ≤ a
  a1 : a ≤ 63
  f0 : 0 ≤ f
  f1 : f ≤ 20000
def bok (l a f : Int) : Bool := decide (0 ≤ l ∧ l ≤ 9 ∧ 0 ≤ a ∧ a ≤ 63 ∧ 0 ≤ f ∧ f ≤ 20000)
theorem bok_iff (l a f : Int) : bok l a f = true ↔ BOk l a f := by
  unfold bok
  rw [decide_eq_true_eq]
  exact ⟨fun ⟨h1, h2, h3, h4, h5, h6⟩ => ⟨h1, h2, h3, h4, h5, h6⟩, fun ⟨h1, h2, h3, h4, h5, h6⟩ => ⟨h1, h2, h3, h4, h5, h6⟩⟩
def tL (l a : Int) : Int := if a = 63 then (if l = 9 then 0 else l + 1) else l
def tA (a : Int) : Int := if a = 63 then 0 else a + 1
def tG (l a : Int) (g : Bool) : Bool := if a = 63 ∧ l = 7 then true else g
def tF (l a f : Int) : Int := if a = 63 ∧ l = 9 then f + 1 else f
theorem bm_zero (l a f : Int) (g : Bool) (hl : 0 ≤ l ∧ l ≤ 9) (ha : 0 ≤ a ∧ a ≤ 63) : bmL l a 0 = l ∧ bmA l a 0 = a ∧ bmG l a g 0 = g ∧ bmF l a f 0 = f := by
  unfold bmL bmA bmG bmF
  refine ⟨by omega, by omega, ?_, by omega⟩
  rw [Int.add_zero, decide_eq_false (Int.lt_irrefl _), Bool.or_false]
theorem bm_bd (l a n : Int) (hl : 0 ≤ l ∧ l ≤ 9) (ha : 0 ≤ a ∧ a ≤ 63) (hn : 0 ≤ n) : (0 ≤ bmL l a n ∧ bmL l a n ≤ 9) ∧ (0 ≤ bmA l a n ∧ bmA l a n ≤ 63) := by
  unfold bmL bmA
  omega
theorem bm_pos (l a n : Int) (hl : 0 ≤ l ∧ l ≤ 9) (ha : 0 ≤ a ∧ a ≤ 63) (hn : 0 ≤ n) : bmL l a n * 64 + bmA l a n = (l * 64 + a + n) % 640 := by
  unfold bmL bmA
  omega
theorem or_dec (g : Bool) (p q r : Prop) [Decidable p] [Decidable q] [Decidable r] (h : (p ∨ q) ↔ r) : ((g || decide p) || decide q) = (g || decide r) := by
  rw [Bool.or_assoc]
  congr 1
  rw [← Bool.decide_or]
  exact decide_eq_decide.2 h
theorem bm_add (l a f n m : Int) (g : Bool) (hl : 0 ≤ l ∧ l ≤ 9) (ha : 0 ≤ a ∧ a ≤ 63) (hn : 0 ≤ n) (hm : 0 ≤ m) :
    bmL (bmL l a n) (bmA l a n) m = bmL l a (n + m) ∧ bmA (bmL l a n) (bmA l a n) m = bmA l a (n + m) ∧ bmG (bmL l a n) (bmA l a n) (bmG l a g n) m = bmG l a g (n + m) ∧ bmF (bmL l a n) (bmA l a n) (bmF l a f n) m = bmF l a f (n + m) := by
  have hp := bm_pos l a n hl ha hn
  have hA : bmA l a n = (l * 64 + a + n) % 640 % 64 := by unfold bmA; omega
  refine ⟨?_, ?_, ?_, ?_⟩
  · unfold bmL at hp ⊢
    rw [hp]; omega
  · unfold bmA bmL at hp ⊢
    rw [hp]; omega
  · unfold bmG
    rw [hp]
    exact or_dec g _ _ _ (by omega)
  · unfold bmF
    rw [hp]; omega
theorem bm_one (l a f : Int) (g : Bool) (hl : 0 ≤ l ∧ l ≤ 9) (ha : 0 ≤ a ∧ a ≤ 63) : bmL l a 1 = tL l a ∧ bmA l a 1 = tA a ∧ bmG l a g 1 = tG l a g ∧ bmF l a f 1 = tF l a f := by
  unfold bmL bmA bmG bmF tL tA tG tF
  refine ⟨by split <;> (try split) <;> omega, by split <;> omega, ?_, by split <;> omega⟩
  split
  · rw [decide_eq_true (by omega), Bool.or_true]
  · rw [decide_eq_false (by omega), Bool.or_false]
theorem bm_step (l a f n : Int) (g : Bool) (hl : 0 ≤ l ∧ l ≤ 9) (ha : 0 ≤ a ∧ a ≤ 63) (hn : 0 ≤ n) :
    tL (bmL l a n) (bmA l a n) = bmL l a (n + 1) ∧ tA (bmA l a n) = bmA l a (n + 1) ∧ tG (bmL l a n) (bmA l a n) (bmG l a g n) = bmG l a g (n + 1) ∧ tF (bmL l a n) (bmA l a n) (bmF l a f n) = bmF l a f (n + 1) := by
  obtain ⟨b1, b2⟩ := bm_bd l a n hl ha hn
  obtain ⟨s1, s2, s3, s4⟩ := bm_add l a f n 1 g hl ha hn (by omega)
  obtain ⟨o1, o2, o3, o4⟩ := bm_one (bmL l a n) (bmA l a n) (bmF l a f n) (bmG l a g n) b1 b2
  exact ⟨o1.symm.trans s1, o2.symm.trans s2, o3.symm.trans s3, o4.symm.trans s4⟩
/-! ### the package -/
theorem info_beam : (Try.prog.info? 38).map (·.size) = some 4 := by kernel_rfl
theorem load_beam (W : World) (q : Nat) (l a f : Int) (g : Bool) (h : W.rangeAt q 0 [.int .i64 l, .int .i64 a, .bool g, .int .i64 f]) : (loadVar 38 ⟨q, 0, none⟩).run Try.prog W = .ok (.agg #[.int .i64 l, .int .i64 a, .bool g, .int .i64 f]) W :=
  run_loadVar_mid W q 0 38 _ _ h Try.underlying38 rfl info_beam
def wthn (n m : Int) : Bool := decide (0 ≤ n) && decide (n ≤ m)
theorem wthn_yes {n m : Int} (h0 : 0 ≤ n) (h1 : n ≤ m) : wthn n m = true := by unfold wthn; simp [h0, h1]
theorem wthn_no {n m : Int} (h : ¬ (0 ≤ n ∧ n ≤ m)) : wthn n m = false := by unfold wthn; rw [← Bool.decide_and]; exact decide_eq_false h
theorem Bm.within_any (n m : Int) (w : World) :
    Calls Try.prog 52 #[.int .i64 n, .int .i64 m] w fun e w' => e = .returned (.bool (wthn n m)) ∧ w = w' := by
  unfold wthn
  by_cases h : 0 ≤ n
  · go_enter Try.func52, Try.ntmps52
    go_wp2
    go_ret
    exact ⟨ret_b (by simp [h]), rfl⟩
  · go_enter Try.func52, Try.ntmps52
    go_wp2
    go_ret
    exact ⟨ret_b (by simp; omega), rfl⟩
theorem Bm.check_yes (l a f : Int) (g : Bool) (w : World) (h : BOk l a f) :
    Calls Try.prog 26 #[.agg #[.int .i64 l, .int .i64 a, .bool g, .int .i64 f]] w fun e w' => e = .returned (.int .i64 0) ∧ Below w.heap.size w w' := by
  have h1 := wthn_yes h.l0 h.l1
  have h2 := wthn_yes h.a0 h.a1
  have h3 := wthn_yes h.f0 h.f1
  clear h
  go_enter Try.func26, Try.ntmps26
  go_wp2_with (go_at_call 52; refine (Bm.within_any _ _ _).mono ?_; rintro e w0 ⟨rfl, rfl⟩)
  go_ret
  exact ⟨rfl, stA (st0 _) _⟩
theorem Bm.check_no (l a f : Int) (g : Bool) (w : World) (h : ¬ BOk l a f) :
    Calls Try.prog 26 #[.agg #[.int .i64 l, .int .i64 a, .bool g, .int .i64 f]] w fun e w' => e = .returned (.int .i64 3) ∧ Below w.heap.size w w' := by
  by_cases hl : 0 ≤ l ∧ l ≤ 9
  · have h1 := wthn_yes hl.1 hl.2
    by_cases ha : 0 ≤ a ∧ a ≤ 63
    · have h2 := wthn_yes ha.1 ha.2
      have h3 := wthn_no (n := f) (m := 20000) fun hf => h ⟨hl.1, hl.2, ha.1, ha.2, hf.1, hf.2⟩
      clear h hl ha
      go_enter Try.func26, Try.ntmps26
      go_wp2_with (go_at_call 52; refine (Bm.within_any _ _ _).mono ?_; rintro e w0 ⟨rfl, rfl⟩)
      go_ret
      exact ⟨rfl, stA (st0 _) _⟩
    · have h2 := wthn_no ha
      clear h hl ha
      go_enter Try.func26, Try.ntmps26
      go_wp2_with (go_at_call 52; refine (Bm.within_any _ _ _).mono ?_; rintro e w0 ⟨rfl, rfl⟩)
      go_ret
      exact ⟨rfl, stA (st0 _) _⟩
  · have h1 := wthn_no hl
    clear h hl
    go_enter Try.func26, Try.ntmps26
    go_wp2_with (go_at_call 52; refine (Bm.within_any _ _ _).mono ?_; rintro e w0 ⟨rfl, rfl⟩)
    go_ret
    exact ⟨rfl, stA (st0 _) _⟩
end Go.Proofs.Ythooknikfachnaa
