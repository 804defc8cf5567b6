/-
  Package pad: what Press, Write, Read answer, as plain numbers; nothing old is written.
-/
import Derived.Test.YtkonmgjboojliaaPlain
namespace Go.Proofs.Ytkonmgjboojliaa
open Go.ChangeShapes Go.WideShapes Go.ChangeAt Go.RowKit
set_option linter.unusedVariables false

theorem or_one : ∀ s : Nat, s < 256 → bits .or .u8 (((s : Int) * 2) % 256) 1 = (((s : Int) * 2) % 256) + 1 := by decide +kernel
theorem or_one' (s : Int) (h : 0 ≤ s ∧ s ≤ 255) : bits .or .u8 (s * 2 % 256) 1 = s * 2 % 256 + 1 := by
  obtain ⟨k, rfl⟩ := Int.eq_ofNat_of_zero_le h.1
  exact or_one k (by omega)
theorem and_one : ∀ s : Nat, s < 256 → bits .and .u8 (s : Int) 1 = (s : Int) % 2 := by decide +kernel
theorem and_one' (s : Int) (h : 0 ≤ s ∧ s ≤ 255) : bits .and .u8 s 1 = s % 2 := by
  obtain ⟨k, rfl⟩ := Int.eq_ofNat_of_zero_le h.1
  exact and_one k (by omega)
def odd (x : Int) : Bool := x % 2 == 1
theorem info_pad : (Try.prog.info? 23).map (·.size) = some 3 := by kernel_rfl
theorem load_pad (W : World) (q : Nat) (d s : Int) (l : Bool) (h : W.rangeAt q 0 [.int .u8 d, .bool l, .int .u8 s]) : (loadVar 23 ⟨q, 0, none⟩).run Try.prog W = .ok (.agg #[.int .u8 d, .bool l, .int .u8 s]) W :=
  run_loadVar_mid W q 0 23 _ _ h Try.underlying23 rfl info_pad
theorem follow_any (d s : Int) (l : Bool) (w : World) :
    Calls Try.prog 13 #[.agg #[.int .u8 d, .bool l, .int .u8 s]] w fun e w' => e = .returned (.agg #[.int .u8 d, .bool l, .int .u8 (sel l d s)]) ∧ Below w.heap.size w w' := by
  cases l
  all_goals
    go_enter Try.func13, Try.ntmps13
    go_wp2
    refine bodyPost_ret (v := .agg _) (by simp [results, Try.results13, go_sem, sel]) rfl ⟨rfl, ?_⟩
    exact stA (stA (st0 _) _) _
theorem press_any (d s x : Int) (l : Bool) (w : World) :
    Calls Try.prog 11 #[.agg #[.int .u8 d, .bool l, .int .u8 s], .int .u8 x] w fun e w' => e = .returned (.agg #[.int .u8 x, .bool l, .int .u8 (sel l x s)]) ∧ Below w.heap.size w w' := by
  go_enter Try.func11, Try.ntmps11
  go_wp2_with (go_at_call 13; refine (follow_any _ _ _ _).mono ?_; rintro e w1 ⟨rfl, hb1⟩; obtain ⟨k1, f1⟩ := bcell hb1; have z1 : w.heap.size + 1 < w1.heap.size := Nat.lt_of_lt_of_le (by simp) hb1.size)
  have hF := Pl.fin [.int .u8 x, .bool l, .int .u8 (sel l x s)] (Pl.there_new _ _ _ 3 (w.heap.size + 1) (by simp) rfl) (stA (stA (st0 w) _) _) hb1 (by simp) (by omega)
  exact bodyPost_ret (v := .agg _) (by simp only [results, Try.results11]; simp; exact load_pad _ _ _ _ _ hF.2) rfl ⟨rfl, hF.1⟩
theorem write_any (d s x : Int) (l : Bool) (w : World) (hx : 0 ≤ x ∧ x ≤ 255) :
    Calls Try.prog 9 #[.agg #[.int .u8 d, .bool l, .int .u8 s], .int .u8 x] w fun e w' => e = .returned (.agg #[.int .u8 d, .bool (odd x), .int .u8 (sel (odd x) d s)]) ∧ Below w.heap.size w w' := by
  have ha : (bits .and .u8 x 1 == 1) = odd x := by rw [and_one' x hx]; rfl
  go_enter Try.func9, Try.ntmps9
  go_wp2_with (go_at_call 13; refine (follow_any _ _ _ _).mono ?_; rintro e w1 ⟨rfl, hb1⟩; obtain ⟨k1, f1⟩ := bcell hb1; have z1 : w.heap.size + 1 < w1.heap.size := Nat.lt_of_lt_of_le (by simp) hb1.size)
  have hF := Pl.fin [.int .u8 d, .bool (odd x), .int .u8 (sel (odd x) d s)] (Pl.there_new _ _ _ 3 (w.heap.size + 1) (by simp) rfl) (stA (stA (st0 w) _) _) hb1 (by simp) (by omega)
  exact bodyPost_ret (v := .agg _) (by simp only [results, Try.results9]; simp; exact load_pad _ _ _ _ _ hF.2) rfl ⟨rfl, hF.1⟩
theorem read_pad (d s : Int) (l : Bool) (w : World) (hd : 0 ≤ d ∧ d ≤ 255) (hs : 0 ≤ s ∧ s ≤ 255) :
    Calls Try.prog 5 #[.agg #[.int .u8 d, .bool l, .int .u8 s]] w fun e w' => e = .returned (.tuple #[.int .u8 (sel l d s / 128), .agg #[.int .u8 d, .bool l, .int .u8 (sel l s (s * 2 % 256 + 1))]]) ∧ Below w.heap.size w w' := by
  have ho := or_one' s hs
  cases l
  · go_enter Try.func5, Try.ntmps5
    go_wp2
    go_region_held3 (fun w' => w'.cell? ⟨w.heap.size, 0, none⟩ = some (.int .u8 d) ∧ w'.cell? ⟨w.heap.size, 1, none⟩ = some (.bool false) ∧ w'.cell? ⟨w.heap.size, 2, none⟩ = some (.int .u8 (s * 2 % 256 + 1)))
      ((go_keep; done))
      (fail)
    go_wp2
    refine bodyPost_ret (v := .tuple #[_, .agg _]) (by simp [results, Try.results5, go_sem, sel]) rfl ⟨rfl, ?_⟩
    exact (stA (stA (st0 _) _) _).drew
  · go_enter Try.func5, Try.ntmps5
    go_wp2
    go_region_held3 (fun w' => w'.cell? ⟨w.heap.size, 0, none⟩ = some (.int .u8 d) ∧ w'.cell? ⟨w.heap.size, 1, none⟩ = some (.bool true) ∧ w'.cell? ⟨w.heap.size, 2, none⟩ = some (.int .u8 s))
      ((go_keep; done))
      (fail)
    go_wp2
    refine bodyPost_ret (v := .tuple #[_, .agg _]) (by simp [results, Try.results5, go_sem, sel]) rfl ⟨rfl, ?_⟩
    exact (stA (stA (st0 _) _) _).drew
/-- What is shifted out behind so many Reads. -/
def shN (d : Int) (k : Nat) : Int := (d * 2 ^ k + (2 ^ k - 1)) % 256
def alN (d : Int) (k : Nat) : Int := d / 2 ^ (8 - k)
theorem setC_size (b : Nat) : ∀ (vs : List Value) (o : Nat) (w : World), (w.setCells b o vs).heap.size = w.heap.size
  | [], o, w => rfl
  | v :: vs, o, w => (setC_size b vs (o + 1) _).trans (by simp)
theorem sh_next : ∀ d : Nat, d < 256 → ∀ k : Nat, k < 8 → shN d k * 2 % 256 + 1 = shN d (k + 1) ∧ 0 ≤ shN d k ∧ shN d k ≤ 255 ∧ bits .or .u8 (alN d k * 2 % 256) (shN d k / 128) = alN d (k + 1) ∧ 0 ≤ alN d k ∧ alN d k ≤ 255 := by decide +kernel
theorem sh_end : ∀ d : Nat, d < 256 → shN d 0 = d ∧ shN d 8 = 255 ∧ alN d 0 = 0 ∧ alN d 8 = d := by decide +kernel
/-- Between two Reads of All: the pad at its box, and the result's box behind it. -/
structure AllW (w : World) (n : Nat) (k : Nat) (wr : World) : Prop where
  low : Below w.heap.size w wr
  c : wr.rangeAt w.heap.size 0 [.int .u8 n, .bool false, .int .u8 (shN n k)]
  f : ∀ o, wr.frozen? ⟨w.heap.size, o, none⟩ = false
  th : wr.there (w.heap.size + 1) 0 3
  lt : w.heap.size + 1 < wr.heap.size
theorem AllW.put {w w0 w1 : World} {n k : Nat} (hl : Below w.heap.size w w0) (hb : Below w0.heap.size w0 w1) (h0 : w0.there w.heap.size 0 3) (h1 : w0.there (w.heap.size + 1) 0 3) (hf : ∀ o, w0.frozen? ⟨w.heap.size, o, none⟩ = false) (hz : w.heap.size + 1 < w0.heap.size) :
    AllW w n k (w1.setCells w.heap.size 0 [.int .u8 n, .bool false, .int .u8 (shN n k)]) := by
  have hs := hb.size
  have h := Pl.fin [.int .u8 n, .bool false, .int .u8 (shN n k)] h0 hl hb (by omega) (Nat.le_refl _)
  have t1 := Pl.there_old h1 hb hz
  refine ⟨h.1, h.2, fun o => ?_, fun j hj => ?_, ?_⟩
  · rw [World.frozen?_setCells]
    exact (hb.frozen (p := ⟨w.heap.size, o, none⟩) (show w.heap.size < w0.heap.size by omega)).trans (hf o)
  · rw [World.frozen?_setCells, World.cell?_setCells_out _ _ _ _ _ (fun e => absurd e (by simp))]
    exact t1 j hj
  · have := (setC_size w.heap.size [.int .u8 n, .bool false, .int .u8 (shN n k)] 0 w1)
    omega
set_option maxHeartbeats 1600000 in
theorem all_any (d s : Int) (l : Bool) (w : World) (hd : 0 ≤ d ∧ d ≤ 255) (hs : 0 ≤ s ∧ s ≤ 255) :
    Calls Try.prog 6 #[.agg #[.int .u8 d, .bool l, .int .u8 s]] w fun e w' => e = .returned (.tuple #[.int .u8 d, .agg #[.int .u8 d, .bool false, .int .u8 255]]) ∧ Below w.heap.size w w' := by
  obtain ⟨n, rfl⟩ := Int.eq_ofNat_of_zero_le hd.1
  have hn : n < 256 := by omega
  have hbd := hd
  go_enter Try.func6, Try.ntmps6
  go_wp2_with (first
    | (have zz := z1; clear zz; go_at_call 9; refine (write_any _ _ 0 _ _ (by omega)).mono ?_; rintro e w2 ⟨rfl, hb2⟩; obtain ⟨k2, f2⟩ := bcell hb2; have z2 : w.heap.size + 1 < w2.heap.size := Nat.lt_of_lt_of_le z1 hb2.size; have z20 : w.heap.size < w2.heap.size := Nat.lt_of_succ_lt z2)
    | (go_at_call 9; refine (write_any _ _ 1 _ _ (by omega)).mono ?_; rintro e w1 ⟨rfl, hb1⟩; obtain ⟨k1, f1⟩ := bcell hb1; have z1 : w.heap.size + 1 < w1.heap.size := Nat.lt_of_lt_of_le (by simp) hb1.size; have z10 : w.heap.size < w1.heap.size := Nat.lt_of_succ_lt z1))
  go_loopw [4, 9] (fun x i wr => ∃ k : Nat, k ≤ 8 ∧ x = .int .u8 (alN n k) ∧ i = .int .i64 k ∧ AllW w n k wr) (fun _ i _ => 8 - (intOf i).toNat)
  case atStart =>
    refine ⟨0, by omega, ?_, rfl, ?_⟩
    · rw [(sh_end n hn).2.2.1]
    · have e : sel (odd 0) n (sel (odd 1) n s) = shN n 0 := by rw [(sh_end n hn).1]; rfl
      rw [e]
      have t0 := Pl.there_new w #[.int .u8 n, .bool l, .int .u8 s] 23 3 w.heap.size rfl rfl
      have t1 := Pl.there_new (w.alloc (.cells #[.int .u8 n, .bool l, .int .u8 s] 23)) #[.int .u8 0, .bool false, .int .u8 0] 23 3 (w.heap.size + 1) (by simp) rfl
      exact AllW.put (stp (stA (stA (st0 w) _) _) hb1) hb2 (Pl.there_old (World.there_alloc t0 _) hb1 (by simp; omega)) (Pl.there_old t1 hb1 (by simp)) (fun o => (f1 _ o (by simp; omega)).trans ((World.frozen?_of_block (heap_alloc_old _ _ (by simp))).trans (Lib.frozen_of_heap (heap_alloc_new w _) o))) z1
  case round =>
    obtain ⟨k, hk, rfl, rfl, hA⟩ := hrel
    by_cases h8 : k < 8
    · obtain ⟨e1, b0, b1, e2, b2, b3⟩ := sh_next n hn k h8
      have c0 := hA.c 0 _ rfl
      have c1 := hA.c 1 _ rfl
      have c2 := hA.c 2 _ rfl
      simp only [Nat.zero_add, Nat.add_zero] at c0 c1 c2
      have hf := hA.f
      have hz := Nat.lt_of_succ_lt hA.lt
      have HA := hid hA
      clear hA k1 f1 k2 f2
      go_wp2_with (go_at_call 5; refine (read_pad _ _ _ _ hbd ⟨b0, b1⟩).mono ?_; rintro e w3 ⟨rfl, hb3⟩; obtain ⟨k3, f3⟩ := bcell hb3; have z3 := Nat.lt_of_lt_of_le hz hb3.size)
      go_roundw
      case rel =>
        refine ⟨k + 1, by omega, by rw [← e2]; rfl, by go_num, ?_⟩
        exact AllW.put HA.out.low hb3 (fun j hj => by
          have hj' : j < [Value.int .u8 n, .bool false, .int .u8 (shN n k)].length := hj
          exact ⟨by rw [HA.out.c j _ (List.getElem?_eq_getElem hj')]; rfl, HA.out.f _⟩) HA.out.th HA.out.f HA.out.lt
      case measure => simp [intOf]; omega
    · obtain rfl : k = 8 := by omega
      obtain ⟨_, e1, _, e2⟩ := sh_end n hn
      rw [e2]
      have c0 := hA.c 0 _ rfl
      have c1 := hA.c 1 _ rfl
      have c2 := hA.c 2 _ rfl
      simp only [Nat.zero_add, Nat.add_zero, e1] at c0 c1 c2
      obtain ⟨y0, hy0⟩ := Option.isSome_iff_exists.1 (hA.th 0 (by omega)).1
      obtain ⟨y1, hy1⟩ := Option.isSome_iff_exists.1 (hA.th 1 (by omega)).1
      obtain ⟨y2, hy2⟩ := Option.isSome_iff_exists.1 (hA.th 2 (by omega)).1
      have g0 := (hA.th 0 (by omega)).2
      have g1 := (hA.th 1 (by omega)).2
      have g2 := (hA.th 2 (by omega)).2
      simp only [Nat.zero_add, Nat.add_zero] at hy0 hy1 hy2 g0 g1 g2
      have hz := hA.lt
      have hz0 := Nat.lt_of_succ_lt hA.lt
      have HA := hid hA
      clear hA k1 f1 k2 f2
      go_wp2
      go_region_held3 (fun w' => w'.cell? ⟨w.heap.size, 0, none⟩ = some (.int .u8 n) ∧ w'.cell? ⟨w.heap.size, 1, none⟩ = some (.bool false) ∧ w'.cell? ⟨w.heap.size, 2, none⟩ = some (.int .u8 255))
        ((go_keep; done))
        (fail)
      go_wp2
      have hF := World.rangeAt_setCells_same wr (w.heap.size + 1) 0 [.int .u8 n, .bool false, .int .u8 255] HA.out.th
      have hB := Pl.below (b := w.heap.size + 1) (Nat.le_succ _) [.int .u8 n, .bool false, .int .u8 255] 0 _ HA.out.low
      refine Pl.cutB (fun Y => Below w.heap.size w Y ∧ Y.rangeAt (w.heap.size + 1) 0 [.int .u8 n, .bool false, .int .u8 255]) ⟨hB.drew, hF⟩ ?_
      rintro Y ⟨hbY, hrY⟩
      have hl := load_pad Y _ _ _ _ hrY
      refine bodyPost_ret (v := .tuple #[.int .u8 n, .agg #[.int .u8 n, .bool false, .int .u8 255]]) ?_ rfl ⟨rfl, hbY⟩
      simp only [results, Try.results6]
      simp
      show (Result.andThen (Sem.run Try.prog (loadVar 23 ⟨w.heap.size + 1, 0, none⟩) Y) _) = _
      rw [hl]
      rfl
set_option maxRecDepth 100000 in
theorem eq_pad (d s : Int) (l : Bool) (w : World) : (binOp .eql 23 (.agg #[.int .u8 d, .bool l, .int .u8 s]) (.agg #[.int .u8 d, .bool l, .int .u8 s])).run Try.prog w = .ok (.bool true) w := by
  have u3 := Try.underlying5
  have a3 := Try.isAgg5
  have z3 := Try.sizeOf5
  have u4 := Try.underlying4
  have a4 := Try.isAgg4
  have z4 := Try.sizeOf4
  have hS : Try.prog.underlying 23 = some (.struct (Try.prog.fieldsOf 23)) := by kernel_rfl
  have hp : Try.prog.stoodInHeld 23 = false := by kernel_rfl
  rw [run_eql_struct, show (10000 : Nat) = 9999 + 1 from rfl, run_equalIn_agg w 9999 23 _ _ hS hp]
  simp only [Program.fieldsOf, Try.underlying23]
  go_simp
set_option maxRecDepth 100000 in
theorem neq_pad (d s : Int) (l : Bool) (w : World) : (binOp .neq 23 (.agg #[.int .u8 d, .bool l, .int .u8 s]) (.agg #[.int .u8 d, .bool l, .int .u8 s])).run Try.prog w = .ok (.bool false) w := by
  have h := eq_pad d s l w
  rw [run_eql_struct] at h
  rw [run_neq_struct]
  revert h
  generalize Sem.run Try.prog (Op.equalIn 10000 23 _ _) w = r
  intro h
  cases r with
  | ok b w' =>
    have e : Result.ok (Value.bool b) w' = .ok (.bool true) w := h
    injection e with e1 e2
    injection e1 with e3
    subst e3 e2
    rfl
  | _ => cases h
theorem pressed_any (w : World) : Calls Try.prog 8 #[] w fun e w' => e = .returned (.bool true) ∧ Below w.heap.size w w' := by
  have he := eq_pad 144 255 false
  go_enter Try.func8, Try.ntmps8
  go_wp2_with (go_at_call 6; refine (all_any _ _ _ _ (by omega) (by omega)).mono ?_; rintro e w1 ⟨rfl, hb1⟩)
  go_ret
  exact ⟨rfl, stA hb1 _⟩
/-! ### the reference's pads -/
theorem pr_read (d s : Int) (l : Bool) (w : World) (hd : 0 ≤ d ∧ d ≤ 255) (hs : 0 ≤ s ∧ s ≤ 255) :
    Calls Try.prog 7 #[.agg #[.int .u8 d, .bool l, .int .u8 s]] w fun e w' => e = .returned (.tuple #[.int .u8 (sel l d s / 128), .agg #[.int .u8 d, .bool l, .int .u8 (sel l s (s * 2 % 256 + 1))]]) ∧ Below w.heap.size w w' := by
  have ho : IntKind.u8.wrap (s * 2 + 1) = s * 2 % 256 + 1 := by simp [IntKind.wrap, IntKind.bits, IntKind.signed]; omega
  have hq : IntKind.u8.wrap (d.tdiv 128) = d / 128 := by rw [Int.tdiv_eq_ediv_of_nonneg hd.1]; simp [IntKind.wrap, IntKind.bits, IntKind.signed]; omega
  cases l
  · go_enter Try.func7, Try.ntmps7
    go_wp2
    go_region_held3 (fun w' => w'.cell? ⟨w.heap.size, 0, none⟩ = some (.int .u8 d) ∧ w'.cell? ⟨w.heap.size, 1, none⟩ = some (.bool false) ∧ w'.cell? ⟨w.heap.size, 2, none⟩ = some (.int .u8 (s * 2 % 256 + 1)))
      ((go_keep; done))
      (fail)
    go_wp2
    refine bodyPost_ret (v := .tuple #[_, .agg _]) (by simp [results, Try.results7, go_sem, sel]) rfl ⟨rfl, ?_⟩
    exact (stA (stA (st0 _) _) _).drew
  · go_enter Try.func7, Try.ntmps7
    go_wp2
    go_region_held3 (fun w' => w'.cell? ⟨w.heap.size, 0, none⟩ = some (.int .u8 d) ∧ w'.cell? ⟨w.heap.size, 1, none⟩ = some (.bool true) ∧ w'.cell? ⟨w.heap.size, 2, none⟩ = some (.int .u8 s))
      ((go_keep; done))
      (fail)
    go_wp2
    refine bodyPost_ret (v := .tuple #[_, .agg _]) (by simp [results, Try.results7, go_sem, sel]) rfl ⟨rfl, ?_⟩
    exact (stA (stA (st0 _) _) _).drew
theorem pr_write (d s x : Int) (l : Bool) (w : World) (hx : 0 ≤ x ∧ x ≤ 255) :
    Calls Try.prog 10 #[.agg #[.int .u8 d, .bool l, .int .u8 s], .int .u8 x] w fun e w' => e = .returned (.agg #[.int .u8 d, .bool (odd x), .int .u8 (sel (odd x) d s)]) ∧ Below w.heap.size w w' := by
  have hm : x % 2 = 0 ∨ x % 2 = 1 := by omega
  rcases hm with h | h
  all_goals
    have ho : odd x = (x % 2 == 1) := rfl
    rw [ho, h]
    have hw : IntKind.u8.wrap (x.tmod 2) = x % 2 := by rw [Int.tmod_eq_emod_of_nonneg hx.1]; simp [IntKind.wrap, IntKind.bits, IntKind.signed]; omega
    go_enter Try.func10, Try.ntmps10
    go_wp2
    refine bodyPost_ret (v := .agg _) (by simp [results, Try.results10, go_sem, sel]) rfl ⟨rfl, ?_⟩
    exact stA (stA (st0 _) _) _
theorem pr_press (d s x : Int) (l : Bool) (w : World) :
    Calls Try.prog 12 #[.agg #[.int .u8 d, .bool l, .int .u8 s], .int .u8 x] w fun e w' => e = .returned (.agg #[.int .u8 x, .bool l, .int .u8 (sel l x s)]) ∧ Below w.heap.size w w' := by
  cases l
  all_goals
    go_enter Try.func12, Try.ntmps12
    go_wp2
    refine bodyPost_ret (v := .agg _) (by simp [results, Try.results12, go_sem, sel]) rfl ⟨rfl, ?_⟩
    exact stA (stA (st0 _) _) _
end Go.Proofs.Ytkonmgjboojliaa
