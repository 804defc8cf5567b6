/-
  Package picture: a tile's row; a sprite, and its dots on a line.
-/
import Derived.Test.YtcdemkafbphdbaaPicA
namespace Go.Proofs.Ytcdemkafbphdbaa
open Go.ChangeShapes Go.WideShapes Go.ChangeAt Go.RowKit
set_option linter.unusedVariables false

theorem and3 (b : Nat) (h : b < 256) : bits .and .u8 (b : Int) 3 = ((b % 4 : Nat) : Int) := by
  rw [show (3 : Int) = ((3 : Nat) : Int) from rfl, u8_and_nat _ _ (by omega) (by omega), show (3 : Nat) = 2 ^ 2 - 1 from rfl, Nat.and_two_pow_sub_one_eq_mod]
theorem four (b : Nat) (h : b < 256) : (b : Int) / 64 = ((b / 4 ^ 3 % 4 : Nat) : Int) ∧ bits .and .u8 ((b : Int) / 16) 3 = ((b / 4 ^ 2 % 4 : Nat) : Int) ∧ bits .and .u8 ((b : Int) / 4) 3 = ((b / 4 ^ 1 % 4 : Nat) : Int) ∧ bits .and .u8 (b : Int) 3 = ((b / 4 ^ 0 % 4 : Nat) : Int) := by
  refine ⟨?_, ?_, ?_, ?_⟩
  · have : b / 4 ^ 3 % 4 = b / 64 := by omega
    rw [this]; omega
  · rw [show (b : Int) / 16 = ((b / 4 ^ 2 : Nat) : Int) by omega]; exact and3 _ (by omega)
  · rw [show (b : Int) / 4 = ((b / 4 ^ 1 : Nat) : Int) by omega]; exact and3 _ (by omega)
  · rw [show b / 4 ^ 0 = b by omega]; exact and3 _ h
theorem agg4 {a b c d a' b' c' d' : Int} (h1 : a = a') (h2 : b = b') (h3 : c = c') (h4 : d = d') : Value.agg #[.int .u8 a, .int .u8 b, .int .u8 c, .int .u8 d] = .agg #[.int .u8 a', .int .u8 b', .int .u8 c', .int .u8 d'] := by rw [h1, h2, h3, h4]
set_option maxRecDepth 100000 in
theorem rowOf_any (m : List UInt8) (v : Value) (g o c : Nat) (t y : Nat) (w : World) (h : Mm w m v g o c) (ht : t < 256) (hy : y < 4) :
    Calls Try.prog 25 #[v, .int .u8 t, .int .i64 y] w fun e w' => e = .returned (.agg #[.int .u8 (td m t 0 y), .int .u8 (td m t 1 y), .int .u8 (td m t 2 y), .int .u8 (td m t 3 y)]) ∧ Below w.heap.size w w' := by
  obtain ⟨rfl, hl, hz, hc⟩ := h
  have h1 := hc (16 + 4 * (t % 16) + y) (by omega)
  clear hc
  go_enter Try.func25, Try.ntmps25
  go_wp2
  obtain ⟨e1, e2, e3, e4⟩ := four (gb m (16 + 4 * (t % 16) + y)) (gb_lt ..)
  refine bodyPost_ret (v := .agg _) (by simp [results, Try.results25, go_sem]) rfl ⟨ret_v (agg4 e1 e2 e3 e4), ?_⟩
  exact stA (st0 w) _
theorem turned_any (a b c d : Int) (w : World) :
    Calls Try.prog 26 #[.agg #[.int .u8 a, .int .u8 b, .int .u8 c, .int .u8 d]] w fun e w' => e = .returned (.agg #[.int .u8 d, .int .u8 c, .int .u8 b, .int .u8 a]) ∧ Below w.heap.size w w' := by
  go_enter Try.func26, Try.ntmps26
  go_wp2
  refine bodyPost_ret (v := .agg _) (by simp [results, Try.results26, go_sem]) rfl ⟨rfl, ?_⟩
  exact stA (stA (st0 w) _) _
theorem liesOn_any (l cl t : Int) (b1 b2 b3 : Bool) (y : Int) (w : World) (hl : 0 ≤ l ∧ l ≤ 255) :
    Calls Try.prog 24 #[.agg #[.int .i64 l, .int .i64 cl, .int .u8 t, .bool b1, .bool b2, .bool b3], .int .i64 y] w fun e w' => e = .returned (.bool (decide (l ≤ y ∧ y < l + 4))) ∧ Below w.heap.size w w' := by
  have hd : decide (l ≤ y ∧ y < l + 4) = (decide (l ≤ y) && decide (y < l + 4)) := by simp
  rw [hd]
  clear hd
  by_cases h1 : l ≤ y
  · go_enter Try.func24, Try.ntmps24
    go_wp2
    go_ret
    exact ⟨by simp [h1], stA (st0 w) _⟩
  · go_enter Try.func24, Try.ntmps24
    go_wp2
    go_ret
    exact ⟨by simp; omega, stA (st0 w) _⟩
theorem bit0 (b : Nat) (h : b < 256) : (bits .and .u8 (b : Int) 1 != 0) = decide (b % 2 = 1) := by
  rw [show (1 : Int) = ((1 : Nat) : Int) from rfl, u8_and_nat _ _ (by omega) (by omega), show b &&& 1 = b % 2 from Nat.and_two_pow_sub_one_eq_mod b 1]
  rcases Nat.mod_two_eq_zero_or_one b with e | e <;> rw [e] <;> rfl
theorem bit1 (b : Nat) (h : b < 256) : (bits .and .u8 (b : Int) 2 != 0) = decide (b / 2 % 2 = 1) := by
  rw [show (2 : Int) = ((2 : Nat) : Int) from rfl, u8_and_nat _ _ (by omega) (by omega), show b &&& 2 = if b.testBit 1 then 2 ^ 1 else 0 from M.and_pow b 1, Nat.testBit_eq_decide_div_mod_eq]
  by_cases e : b / 2 ^ 1 % 2 = 1 <;> simp [e]
theorem bit7 (b : Nat) (h : b < 256) : (bits .and .u8 (b : Int) 128 != 0) = decide (128 ≤ b) := by
  rw [show (128 : Int) = ((128 : Nat) : Int) from rfl, u8_and_nat _ _ (by omega) (by omega), show b &&& 128 = if b.testBit 7 then 2 ^ 7 else 0 from M.and_pow b 7, Nat.testBit_eq_decide_div_mod_eq]
  by_cases e : b / 2 ^ 7 % 2 = 1
  · have : 128 ≤ b := by omega
    simp [e, this]
  · have : ¬ 128 ≤ b := by omega
    simp [e, this]
theorem i64_gb (m : List UInt8) (i : Nat) : IntKind.i64.wrap (gb m i : Int) = gb m i := by
  have := gb_lt m i
  rw [IntKind.wrap_i64]; omega
theorem setC_size (b : Nat) : ∀ (vs : List Value) (o : Nat) (w : World), (w.setCells b o vs).heap.size = w.heap.size
  | [], o, w => rfl
  | v :: vs, o, w => (setC_size b vs (o + 1) _).trans (by simp)
theorem rng_over {W : World} {b : Nat} {L : List Value} (h : W.rangeAt b 0 L) (hb : b < W.heap.size) (o : Obj) : (W.alloc o).rangeAt b 0 L := fun j v hj => ((stA (st0 W) o).cell (p := ⟨b, 0 + j, none⟩) hb).trans (h j v hj)
theorem load_row (w : World) (b : Nat) (x0 x1 x2 x3 : Value) (h : w.rangeAt b 0 [x0, x1, x2, x3]) : (loadVar 52 ⟨b, 0, none⟩).run Try.prog w = .ok (.agg #[x0, x1, x2, x3]) w :=
  run_loadVar_mid w b 0 52 [x0, x1, x2, x3] _ h Try.underlying52 rfl (by kernel_rfl)
/-- A sprite's cells. -/
def scS (m : List UInt8) (k : Nat) : List Value := [.int .i64 (lnS m k), .int .i64 (clS m k), .int .u8 (tiS m k), .bool (decide (hwS m k % 2 = 1)), .bool (decide (hwS m k / 2 % 2 = 1)), .bool (decide (128 ≤ hwS m k))]
set_option maxRecDepth 100000 in
theorem spriteOf_any (m : List UInt8) (v : Value) (g o c : Nat) (k : Nat) (w : World) (h : Mm w m v g o c) (hk : k < 8) :
    Calls Try.prog 22 #[v, .int .i64 k] w fun e w' => e = .returned (.agg #[.int .i64 (lnS m k), .int .i64 (clS m k), .int .u8 (tiS m k), .bool (decide (hwS m k % 2 = 1)), .bool (decide (hwS m k / 2 % 2 = 1)), .bool (decide (128 ≤ hwS m k))]) ∧ Below w.heap.size w w' := by
  obtain ⟨rfl, hl, hz, hc⟩ := h
  have h0 := hc (128 + 4 * k) (by omega)
  have h1 := hc (128 + 4 * k + 1) (by omega)
  have h2 := hc (128 + 4 * k + 2) (by omega)
  have h3 := hc (128 + 4 * k + 3) (by omega)
  clear hc
  have a0 : (0 : Int) ≤ 128 + 4 * (k : Int) := by omega
  have a1 : (0 : Int) ≤ 128 + 4 * (k : Int) + 1 := by omega
  have a2 : (0 : Int) ≤ 128 + 4 * (k : Int) + 2 := by omega
  have b0 : 128 + 4 * (k : Int) < 256 := by omega
  have b1 : 128 + 4 * (k : Int) + 1 < 256 := by omega
  have b2 : 128 + 4 * (k : Int) + 2 < 256 := by omega
  have t0 : (128 + 4 * (k : Int)).toNat = 128 + 4 * k := by omega
  have t1 : (128 + 4 * (k : Int) + 1).toNat = 128 + 4 * k + 1 := by omega
  have t2 : (128 + 4 * (k : Int) + 2).toNat = 128 + 4 * k + 2 := by omega
  have g0 := i64_gb m (128 + 4 * k)
  have g1 := i64_gb m (128 + 4 * k + 1)
  have w1 : IntKind.i64.wrap (128 + 4 * (k : Int) + 1) = 128 + 4 * (k : Int) + 1 := by rw [IntKind.wrap_i64]; omega
  have w2 : IntKind.i64.wrap (128 + 4 * (k : Int) + 2) = 128 + 4 * (k : Int) + 2 := by rw [IntKind.wrap_i64]; omega
  go_enter Try.func22, Try.ntmps22
  go_wp2
  go_region_held3 (fun w' => w'.cell? ⟨g, o + (128 + 4 * k), none⟩ = some (.int .u8 (gb m (128 + 4 * k))) ∧ w'.cell? ⟨g, o + (128 + 4 * k + 1), none⟩ = some (.int .u8 (gb m (128 + 4 * k + 1))) ∧ w'.cell? ⟨g, o + (128 + 4 * k + 2), none⟩ = some (.int .u8 (gb m (128 + 4 * k + 2))))
    ((go_keep; done))
    (fail)
  all_goals
    go_wp2
    refine bodyPost_ret (v := .agg _) (by simp [results, Try.results22, go_sem] <;> rfl) rfl ⟨ret_v ?_, ?_⟩
    · rw [bit0 _ (gb_lt ..), bit1 _ (gb_lt ..), bit7 _ (gb_lt ..)]
      unfold lnS clS tiS hwS
      rw [show 129 + 4 * k = 128 + 4 * k + 1 by omega, show 130 + 4 * k = 128 + 4 * k + 2 by omega, show 131 + 4 * k = 128 + 4 * k + 3 by omega]
    · exact (stA (st0 w) _).drew
set_option maxRecDepth 100000 in
set_option maxHeartbeats 3200000 in
theorem dots_any (m : List UInt8) (v : Value) (g o c : Nat) (k y : Nat) (w : World) (h : Mm w m v g o c) (hon : onS m y k = true) (hy : y < 8) :
    Calls Try.prog 23 #[.agg #[.int .i64 (lnS m k), .int .i64 (clS m k), .int .u8 (tiS m k), .bool (decide (hwS m k % 2 = 1)), .bool (decide (hwS m k / 2 % 2 = 1)), .bool (decide (128 ≤ hwS m k))], v, .int .i64 y] w fun e w' => e = .returned (.agg #[.int .u8 (sdS m y k 0), .int .u8 (sdS m y k 1), .int .u8 (sdS m y k 2), .int .u8 (sdS m y k 3)]) ∧ Below w.heap.size w w' := by
  unfold onS at hon
  have hon := of_decide_eq_true hon
  have H := hid h
  have ht : tiS m k < 256 := gb_lt ..
  by_cases hr : hwS m k / 2 % 2 = 1
  · have hrw : rwS m y k = 3 - (y - lnS m k) := by unfold rwS; rw [if_pos hr]
    have hrw' : ((rwS m y k : Nat) : Int) = 3 - ((y : Int) - (lnS m k : Nat)) := by rw [hrw]; omega
    have hrl : rwS m y k < 4 := by rw [hrw]; omega
    rw [decide_eq_true hr]
    have HR := hid hrw'
    by_cases hcl : hwS m k % 2 = 1
    · have hsd : ∀ i, sdS m y k i = td m (tiS m k) (3 - i) (rwS m y k) := fun i => by unfold sdS; rw [if_pos hcl]
      rw [decide_eq_true hcl, hsd, hsd, hsd, hsd]
      clear h hr hcl hsd hrw hrw'
      go_enter Try.func23, Try.ntmps23
      go_wp2_with (first
        | (go_at_call 25; rw [← HR.out]; refine (rowOf_any m v g o c (tiS m k) (rwS m y k) _ (H.out.kept (stA (stA (st0 w) _) _)) ht hrl).mono ?_; rintro e w1 ⟨rfl, hb1⟩; obtain ⟨k1, f1⟩ := bcell hb1; have z1 : w.heap.size + 1 < w1.heap.size := Nat.lt_of_lt_of_le (by simp) hb1.size; have z0 := Nat.lt_of_succ_lt z1)
        | (go_at_call 26; refine (turned_any _ _ _ _ _).mono ?_; rintro e w2 ⟨rfl, hb2⟩; obtain ⟨k2, f2⟩ := bcell hb2; have z2 : w1.heap.size < w2.heap.size := Nat.lt_of_lt_of_le (by simp) hb2.size; have z3 := Nat.lt_trans z1 z2))
      have hF := Pl.fin [.int .u8 (td m (tiS m k) 3 (rwS m y k)), .int .u8 (td m (tiS m k) 2 (rwS m y k)), .int .u8 (td m (tiS m k) 1 (rwS m y k)), .int .u8 (td m (tiS m k) 0 (rwS m y k))] (Pl.there_new _ _ _ 4 (w.heap.size + 1) (by simp) rfl) (stA (stA (st0 w) _) _) (stp (stA hb1 _) hb2) (by simp) (by omega)
      exact bodyPost_ret (v := .agg _) (by simp only [results, Try.results23]; simp; exact load_row _ _ _ _ _ _ hF.2) rfl ⟨rfl, hF.1⟩
    · have hsd : ∀ i, sdS m y k i = td m (tiS m k) (i) (rwS m y k) := fun i => by unfold sdS; rw [if_neg hcl]
      rw [decide_eq_false hcl, hsd, hsd, hsd, hsd]
      clear h hr hcl hsd hrw hrw'
      go_enter Try.func23, Try.ntmps23
      go_wp2_with (first
        | (go_at_call 25; rw [← HR.out]; refine (rowOf_any m v g o c (tiS m k) (rwS m y k) _ (H.out.kept (stA (stA (st0 w) _) _)) ht hrl).mono ?_; rintro e w1 ⟨rfl, hb1⟩; obtain ⟨k1, f1⟩ := bcell hb1; have z1 : w.heap.size + 1 < w1.heap.size := Nat.lt_of_lt_of_le (by simp) hb1.size; have z0 := Nat.lt_of_succ_lt z1))
      have hF := Pl.fin [.int .u8 (td m (tiS m k) 0 (rwS m y k)), .int .u8 (td m (tiS m k) 1 (rwS m y k)), .int .u8 (td m (tiS m k) 2 (rwS m y k)), .int .u8 (td m (tiS m k) 3 (rwS m y k))] (Pl.there_new _ _ _ 4 (w.heap.size + 1) (by simp) rfl) (stA (stA (st0 w) _) _) hb1 (by simp) (by omega)
      refine Pl.cutB (fun W => Below w.heap.size w W ∧ W.rangeAt (w.heap.size + 1) 0 [.int .u8 (td m (tiS m k) 0 (rwS m y k)), .int .u8 (td m (tiS m k) 1 (rwS m y k)), .int .u8 (td m (tiS m k) 2 (rwS m y k)), .int .u8 (td m (tiS m k) 3 (rwS m y k))]) ⟨stA hF.1 _, rng_over hF.2 (by rw [setC_size]; exact z1) _⟩ ?_
      rintro W ⟨hlow, hr⟩
      exact bodyPost_ret (v := .agg _) (by simp only [results, Try.results23]; simp; exact load_row _ _ _ _ _ _ hr) rfl ⟨rfl, hlow⟩
  · have hrw : rwS m y k = y - lnS m k := by unfold rwS; rw [if_neg hr]
    have hrw' : ((rwS m y k : Nat) : Int) = (y : Int) - (lnS m k : Nat) := by rw [hrw]; omega
    have hrl : rwS m y k < 4 := by rw [hrw]; omega
    rw [decide_eq_false hr]
    have HR := hid hrw'
    by_cases hcl : hwS m k % 2 = 1
    · have hsd : ∀ i, sdS m y k i = td m (tiS m k) (3 - i) (rwS m y k) := fun i => by unfold sdS; rw [if_pos hcl]
      rw [decide_eq_true hcl, hsd, hsd, hsd, hsd]
      clear h hr hcl hsd hrw hrw'
      go_enter Try.func23, Try.ntmps23
      go_wp2_with (first
        | (go_at_call 25; rw [← HR.out]; refine (rowOf_any m v g o c (tiS m k) (rwS m y k) _ (H.out.kept (stA (stA (st0 w) _) _)) ht hrl).mono ?_; rintro e w1 ⟨rfl, hb1⟩; obtain ⟨k1, f1⟩ := bcell hb1; have z1 : w.heap.size + 1 < w1.heap.size := Nat.lt_of_lt_of_le (by simp) hb1.size; have z0 := Nat.lt_of_succ_lt z1)
        | (go_at_call 26; refine (turned_any _ _ _ _ _).mono ?_; rintro e w2 ⟨rfl, hb2⟩; obtain ⟨k2, f2⟩ := bcell hb2; have z2 : w1.heap.size < w2.heap.size := Nat.lt_of_lt_of_le (by simp) hb2.size; have z3 := Nat.lt_trans z1 z2))
      have hF := Pl.fin [.int .u8 (td m (tiS m k) 3 (rwS m y k)), .int .u8 (td m (tiS m k) 2 (rwS m y k)), .int .u8 (td m (tiS m k) 1 (rwS m y k)), .int .u8 (td m (tiS m k) 0 (rwS m y k))] (Pl.there_new _ _ _ 4 (w.heap.size + 1) (by simp) rfl) (stA (stA (st0 w) _) _) (stp (stA hb1 _) hb2) (by simp) (by omega)
      exact bodyPost_ret (v := .agg _) (by simp only [results, Try.results23]; simp; exact load_row _ _ _ _ _ _ hF.2) rfl ⟨rfl, hF.1⟩
    · have hsd : ∀ i, sdS m y k i = td m (tiS m k) (i) (rwS m y k) := fun i => by unfold sdS; rw [if_neg hcl]
      rw [decide_eq_false hcl, hsd, hsd, hsd, hsd]
      clear h hr hcl hsd hrw hrw'
      go_enter Try.func23, Try.ntmps23
      go_wp2_with (first
        | (go_at_call 25; rw [← HR.out]; refine (rowOf_any m v g o c (tiS m k) (rwS m y k) _ (H.out.kept (stA (stA (st0 w) _) _)) ht hrl).mono ?_; rintro e w1 ⟨rfl, hb1⟩; obtain ⟨k1, f1⟩ := bcell hb1; have z1 : w.heap.size + 1 < w1.heap.size := Nat.lt_of_lt_of_le (by simp) hb1.size; have z0 := Nat.lt_of_succ_lt z1))
      have hF := Pl.fin [.int .u8 (td m (tiS m k) 0 (rwS m y k)), .int .u8 (td m (tiS m k) 1 (rwS m y k)), .int .u8 (td m (tiS m k) 2 (rwS m y k)), .int .u8 (td m (tiS m k) 3 (rwS m y k))] (Pl.there_new _ _ _ 4 (w.heap.size + 1) (by simp) rfl) (stA (stA (st0 w) _) _) hb1 (by simp) (by omega)
      refine Pl.cutB (fun W => Below w.heap.size w W ∧ W.rangeAt (w.heap.size + 1) 0 [.int .u8 (td m (tiS m k) 0 (rwS m y k)), .int .u8 (td m (tiS m k) 1 (rwS m y k)), .int .u8 (td m (tiS m k) 2 (rwS m y k)), .int .u8 (td m (tiS m k) 3 (rwS m y k))]) ⟨stA hF.1 _, rng_over hF.2 (by rw [setC_size]; exact z1) _⟩ ?_
      rintro W ⟨hlow, hr⟩
      exact bodyPost_ret (v := .agg _) (by simp only [results, Try.results23]; simp; exact load_row _ _ _ _ _ _ hr) rfl ⟨rfl, hlow⟩
end Go.Proofs.Ytcdemkafbphdbaa
