/-
  Package tone: swing, later.
-/
import Derived.Test.YtjmmbbehjklhgaaTonA
import Derived.Test.YtjmmbbehjklhgaaBx
namespace Go.Proofs.Ytjmmbbehjklhgaa
open Go.ChangeShapes Go.WideShapes Go.ChangeAt Go.RowKit
set_option linter.unusedVariables false

/-- A voice's cells. -/
abbrev vL (p c l : Int) (h : Bool) (n : Int) : List Value := [.int .u16 p, .int .u16 c, .int .u8 l, .bool h, .int .u16 n]
theorem info_voice : (Try.prog.info? 24).map (·.size) = some 5 := by kernel_rfl
theorem load_voice (W : World) (q o : Nat) (p c l n : Int) (h : Bool) (hr : W.rangeAt q o (vL p c l h n)) : (loadVar 24 ⟨q, o, none⟩).run Try.prog W = .ok (.agg #[.int .u16 p, .int .u16 c, .int .u8 l, .bool h, .int .u16 n]) W :=
  run_loadVar_mid W q o 24 _ _ hr Try.underlying24 rfl info_voice
theorem Bx.five {W : World} {b : Nat} {p c l n : Int} {h : Bool} (hB : Bx W b (vL p c l h n)) : W.cell? ⟨b, 0, none⟩ = some (.int .u16 p) ∧ W.cell? ⟨b, 1, none⟩ = some (.int .u16 c) ∧ W.cell? ⟨b, 2, none⟩ = some (.int .u8 l) ∧ W.cell? ⟨b, 3, none⟩ = some (.bool h) ∧ W.cell? ⟨b, 4, none⟩ = some (.int .u16 n) ∧ b < W.heap.size ∧ ∀ o, W.frozen? ⟨b, o, none⟩ = false :=
  ⟨hB.at 0 _ rfl, hB.at 1 _ rfl, hB.at 2 _ rfl, hB.at 3 _ rfl, hB.at 4 _ rfl, hB.z, hB.f⟩
theorem Bx.put5 {W : World} {b : Nat} {L : List Value} (hB : Bx W b L) (hl : L.length = 5) (p c l n : Int) (h : Bool) : Bx (((((W.setCell ⟨b, 0, none⟩ (.int .u16 p)).setCell ⟨b, 1, none⟩ (.int .u16 c)).setCell ⟨b, 2, none⟩ (.int .u8 l)).setCell ⟨b, 3, none⟩ (.bool h)).setCell ⟨b, 4, none⟩ (.int .u16 n)) b (vL p c l h n) := by
  have := hB.puts 0 (vL p c l h n) (by rw [hl]; simp)
  have e : putL L 0 (vL p c l h n) = vL p c l h n := by
    match L, hl with
    | [_, _, _, _, _], _ => rfl
  rw [e] at this
  exact this
theorem Bl.put5 {w W : World} {b : Nat} (hB : Below w.heap.size w W) (hb : w.heap.size ≤ b) (p c l n : Int) (h : Bool) : Below w.heap.size w (((((W.setCell ⟨b, 0, none⟩ (.int .u16 p)).setCell ⟨b, 1, none⟩ (.int .u16 c)).setCell ⟨b, 2, none⟩ (.int .u8 l)).setCell ⟨b, 3, none⟩ (.bool h)).setCell ⟨b, 4, none⟩ (.int .u16 n)) :=
  Bl.puts (o := 0) hB hb (vL p c l h n)
theorem bit_of' (x : Int) (h : 0 ≤ x ∧ x ≤ 65535) : (bits .and .u16 x 1 == 1) = decide (x % 2 = 1) := M.bit_of x h.1 h.2
/-- A voice in swing. -/
structure SwW (w : World) (p c l n : Int) (h : Bool) (j : Nat) (W : World) : Prop where
  low : Below w.heap.size w W
  v : Bx W w.heap.size (vL p c l (swsH h n j) (swsN n j))
  r : Bx W (w.heap.size + 1) (vL 0 0 0 false 0)
set_option maxHeartbeats 800000 in
theorem swing_noise (p c l n : Int) (h : Bool) (k : Nat) (w : World) (hn : 0 ≤ n ∧ n ≤ 65535) (h0 : n ≠ 0) (hk : k ≤ 20001) :
    Calls Try.prog 27 #[.agg #[.int .u16 p, .int .u16 c, .int .u8 l, .bool h, .int .u16 n], .int .i64 k] w fun e w' => e = .returned (.agg #[.int .u16 p, .int .u16 c, .int .u8 l, .bool (swsH h n k), .int .u16 (swsN n k)]) ∧ Below w.heap.size w w' := by
  have hb0 : (n == 0) = false := by simpa using h0
  go_enter Try.func27, Try.ntmps27
  go_wp2
  go_loopw [17] (fun i wr => ∃ j : Nat, j ≤ k ∧ i = .int .i64 j ∧ SwW w p c l n h j wr) (fun i _ => k - (intOf i).toNat)
  case atStart => exact ⟨0, Nat.zero_le _, rfl, stA (stA (st0 w) _) _, (Bx.new w (vL p c l h n) _ rfl).over _, Bx.new _ (vL 0 0 0 false 0) _ (by simp)⟩
  case round =>
    obtain ⟨j, hj, rfl, hA⟩ := hrel
    have HA := hid hA
    have hy := swsN_bd n hn j
    have hne := swsN_ne n hn h0 j
    obtain ⟨t0, t1, t2, t3, t4, tz, tf⟩ := hA.v.five
    clear hA
    by_cases h8 : j < k
    · have h8' : (j : Int) < k := by omega
      have hb := bit_of' _ hy
      by_cases hp : swsN n j % 2 = 1
      · rw [decide_eq_true hp] at hb
        have e1 : swsN n (j + 1) = bits .xor .u16 (swsN n j / 2) 46080 := by rw [swsN]; unfold swN nz; rw [if_neg hne, if_pos hp]
        have e2 : swsH h n (j + 1) = true := by rw [swsH]; unfold swH; rw [if_neg hne, decide_eq_true hp]
        have E1 := hid e1
        have E2 := hid e2
        have HP := hid hp
        have HN := hid hne
        clear e1 e2 hp hne
        go_wp2
        go_roundw
        case rel =>
          refine ⟨j + 1, h8, by go_num, ?_, ?_, ?_⟩
          · exact Bl.set (Bl.set (Bl.set HA.out.low (Nat.le_refl _) _) (Nat.le_refl _) _) (Nat.le_refl _) _
          · rw [E1.out, E2.out]
            exact ((HA.out.v.set 3 _ (by simp)).set 4 _ (by simp)).set 4 _ (by simp)
          · exact ((HA.out.r.far (by omega) _).far (by omega) _).far (by omega) _
        case measure => simp [intOf]; omega
      · rw [decide_eq_false hp] at hb
        have e1 : swsN n (j + 1) = swsN n j / 2 := by rw [swsN]; unfold swN nz; rw [if_neg hne, if_neg hp]
        have e2 : swsH h n (j + 1) = false := by rw [swsH]; unfold swH; rw [if_neg hne, decide_eq_false hp]
        have E1 := hid e1
        have E2 := hid e2
        have HP := hid hp
        have HN := hid hne
        clear e1 e2 hp hne
        go_wp2
        go_roundw
        case rel =>
          refine ⟨j + 1, h8, by go_num, ?_, ?_, ?_⟩
          · exact Bl.set (Bl.set HA.out.low (Nat.le_refl _) _) (Nat.le_refl _) _
          · rw [E1.out, E2.out]
            exact (HA.out.v.set 3 _ (by simp)).set 4 _ (by simp)
          · exact (HA.out.r.far (by omega) _).far (by omega) _
        case measure => simp [intOf]; omega
    · obtain rfl : j = k := by omega
      clear hne
      obtain ⟨r0, r1, r2, r3, r4, rz, rf⟩ := HA.out.r.five
      go_wp2
      have hR := HA.out.r.put5 rfl p c l (swsN n j) (swsH h n j)
      have hY := Bl.put5 (b := w.heap.size + 1) HA.out.low (by omega) p c l (swsN n j) (swsH h n j)
      refine Pl.cutB (fun Y => Below w.heap.size w Y ∧ Y.rangeAt (w.heap.size + 1) 0 (vL p c l (swsH h n j) (swsN n j))) ⟨hY, hR.c⟩ ?_
      rintro Y ⟨hY, hR⟩
      exact bodyPost_ret (v := .agg _) (by simp only [results, Try.results27]; simp; exact load_voice _ _ _ _ _ _ _ _ hR) rfl ⟨rfl, hY⟩
theorem par_of (k : Nat) : IntKind.i64.wrap ((k : Int).tmod 2) = ((k % 2 : Nat) : Int) := by
  rw [Int.tmod_eq_emod_of_nonneg (by omega)]; simp [IntKind.wrap, IntKind.bits, IntKind.signed]; omega
theorem swing_square (p c l : Int) (h : Bool) (k : Nat) (w : World) (hk : k ≤ 20001) :
    Calls Try.prog 27 #[.agg #[.int .u16 p, .int .u16 c, .int .u8 l, .bool h, .int .u16 0], .int .i64 k] w fun e w' => e = .returned (.agg #[.int .u16 p, .int .u16 c, .int .u8 l, .bool (swsH h 0 k), .int .u16 (swsN 0 k)]) ∧ Below w.heap.size w w' := by
  rw [swsH_zero, swsN_zero]
  have e : (!(h == ((k : Int) % 2 == 1))) = (h != (k % 2 == 1)) := by
    by_cases h2 : k % 2 = 1
    · have h3 : (k : Int) % 2 = 1 := by omega
      rw [h2, h3]; cases h <;> rfl
    · have h3 : (k : Int) % 2 = 0 := by omega
      have h4 : k % 2 = 0 := by omega
      rw [h4, h3]; cases h <;> rfl
  have E := hid e
  clear e
  go_enter Try.func27, Try.ntmps27
  go_wp2
  rw [E.out]
  refine bodyPost_ret (v := .agg _) (by simp [results, Try.results27, go_sem]) rfl ⟨rfl, ?_⟩
  exact (stA (stA (st0 _) _) _)
theorem swing_any (p c l n : Int) (h : Bool) (k : Nat) (w : World) (hn : 0 ≤ n ∧ n ≤ 65535) (hk : k ≤ 20001) :
    Calls Try.prog 27 #[.agg #[.int .u16 p, .int .u16 c, .int .u8 l, .bool h, .int .u16 n], .int .i64 k] w fun e w' => e = .returned (.agg #[.int .u16 p, .int .u16 c, .int .u8 l, .bool (swsH h n k), .int .u16 (swsN n k)]) ∧ Below w.heap.size w w' := by
  by_cases h0 : n = 0
  · subst h0; exact swing_square p c l h k w hk
  · exact swing_noise p c l n h k w hn h0 hk
theorem Bx.resV {w w1 : World} {o : Obj} (hb1 : Below ((w.alloc o).alloc (.cells (vL 0 0 0 false 0).toArray 24)).heap.size ((w.alloc o).alloc (.cells (vL 0 0 0 false 0).toArray 24)) w1) : Bx w1 (w.heap.size + 1) (vL 0 0 0 false 0) :=
  (Bx.new (w.alloc o) (vL 0 0 0 false 0) _ (by simp)).kept hb1
theorem keep0 {W : World} {b : Nat} {x v : Value} (h : W.cell? ⟨b, 0, none⟩ = some x) : (W.setCell ⟨b, 1, none⟩ v).drew.cell? ⟨b, 0, none⟩ = some x :=
  (World.cell?_setCell_other _ _ _ _ (by intro e; exact absurd (congrArg Addr.off e) (show (1 : Nat) ≠ 0 by decide))).trans h
/-- A voice's cells in a box. -/
def C5 (W : World) (b : Nat) (p c l n : Int) (h : Bool) : Prop := W.cell? ⟨b, 0, none⟩ = some (.int .u16 p) ∧ W.cell? ⟨b, 1, none⟩ = some (.int .u16 c) ∧ W.cell? ⟨b, 2, none⟩ = some (.int .u8 l) ∧ W.cell? ⟨b, 3, none⟩ = some (.bool h) ∧ W.cell? ⟨b, 4, none⟩ = some (.int .u16 n)
theorem keep5 {W w1 : World} {b : Nat} {p c l n : Int} {h : Bool} (hc : W.cell? ⟨b, 0, none⟩ = some (.int .u16 p) ∧ W.cell? ⟨b, 1, none⟩ = some (.int .u16 c) ∧ W.cell? ⟨b, 2, none⟩ = some (.int .u8 l) ∧ W.cell? ⟨b, 3, none⟩ = some (.bool h) ∧ W.cell? ⟨b, 4, none⟩ = some (.int .u16 n)) (hb : Below W.heap.size W w1) :
    w1.cell? ⟨b, 0, none⟩ = some (.int .u16 p) ∧ w1.cell? ⟨b, 1, none⟩ = some (.int .u16 c) ∧ w1.cell? ⟨b, 2, none⟩ = some (.int .u8 l) ∧ w1.cell? ⟨b, 3, none⟩ = some (.bool h) ∧ w1.cell? ⟨b, 4, none⟩ = some (.int .u16 n) := by
  have hz := World.block_lt_of_cell? W _ hc.1
  exact ⟨(hb.cell (p := ⟨b, 0, none⟩) hz).trans hc.1, (hb.cell (p := ⟨b, 1, none⟩) hz).trans hc.2.1, (hb.cell (p := ⟨b, 2, none⟩) hz).trans hc.2.2.1, (hb.cell (p := ⟨b, 3, none⟩) hz).trans hc.2.2.2.1, (hb.cell (p := ⟨b, 4, none⟩) hz).trans hc.2.2.2.2⟩
/-- A voice, and its result's box. -/
structure V2 (w : World) (p c l n : Int) (h : Bool) (W : World) : Prop where
  low : Below w.heap.size w W
  v : Bx W w.heap.size (vL p c l h n)
  r : Bx W (w.heap.size + 1) (vL 0 0 0 false 0)
theorem V2.start (w : World) (p c l n : Int) (h : Bool) (q : Nat) : V2 w p c l n h (((w.alloc (.cells (vL p c l h n).toArray 24)).alloc (.cells (vL 0 0 0 false 0).toArray 24)).drewN q) := by
  have h0 : V2 w p c l n h ((w.alloc (.cells (vL p c l h n).toArray 24)).alloc (.cells (vL 0 0 0 false 0).toArray 24)) := ⟨stA (stA (st0 w) _) _, (Bx.new w (vL p c l h n) _ rfl).over _, Bx.new _ (vL 0 0 0 false 0) _ (by simp)⟩
  have hd := Bl.drewN (Below.refl ((w.alloc (.cells (vL p c l h n).toArray 24)).alloc (.cells (vL 0 0 0 false 0).toArray 24)).heap.size ((w.alloc (.cells (vL p c l h n).toArray 24)).alloc (.cells (vL 0 0 0 false 0).toArray 24))) q
  exact ⟨stp h0.low hd, h0.v.kept hd, h0.r.kept hd⟩
set_option maxHeartbeats 800000 in
theorem later_any (p c l n : Int) (h : Bool) (m : Int) (w : World) (hp : 0 ≤ p ∧ p ≤ 65535) (hc : 0 ≤ c ∧ c ≤ 65535) (hn : 0 ≤ n ∧ n ≤ 65535) (hm : 0 ≤ m ∧ m ≤ 20000) :
    Calls Try.prog 22 #[.agg #[.int .u16 p, .int .u16 c, .int .u8 l, .bool h, .int .u16 n], .int .i64 m] w fun e w' => e = .returned (.agg #[.int .u16 p, .int .u16 (ltC p c m), .int .u8 l, .bool (swsH h n (ltK p c m)), .int .u16 (swsN n (ltK p c m))]) ∧ Below w.heap.size w w' := by
  by_cases h1 : m < c + 1
  · have e1 : ltC p c m = c - m := by unfold ltC; rw [if_pos h1]
    have e2 : ltK p c m = 0 := by unfold ltK; rw [if_pos h1]
    rw [e1, e2]
    show Calls Try.prog 22 #[.agg #[.int .u16 p, .int .u16 c, .int .u8 l, .bool h, .int .u16 n], .int .i64 m] w fun e w' => e = .returned (.agg #[.int .u16 p, .int .u16 (c - m), .int .u8 l, .bool h, .int .u16 n]) ∧ Below w.heap.size w w'
    clear e1 e2
    go_enter Try.func22, Try.ntmps22
    go_wp2
    go_quiet (fail)
    refine Pl.cutE (V2 w p c l n h) (V2.start w p c l n h _) ?_
    intro W hW
    obtain ⟨t0, t1, t2, t3, t4, tz, tf⟩ := hW.v.five
    obtain ⟨r0, r1, r2, r3, r4, rz, rf⟩ := hW.r.five
    have HW := hid hW
    clear hW
    go_wp2
    have hR := (HW.out.r.far (b' := w.heap.size) (o' := 1) (by omega) (.int .u16 (c - m))).put5 rfl p (c - m) l n h
    have hY := Bl.put5 (b := w.heap.size + 1) (Bl.set (o := 1) HW.out.low (Nat.le_refl _) (.int .u16 (c - m))) (by omega) p (c - m) l n h
    refine Pl.cutB (fun Y => Below w.heap.size w Y ∧ Y.rangeAt (w.heap.size + 1) 0 (vL p (c - m) l h n)) ⟨hY, hR.c⟩ ?_
    rintro Y ⟨hY, hR⟩
    exact bodyPost_ret (v := .agg _) (by simp only [results, Try.results22]; simp; exact load_voice _ _ _ _ _ _ _ _ hR) rfl ⟨rfl, hY⟩
  · have e1 : ltC p c m = p - (m - (c + 1)) % (p + 1) := by unfold ltC; rw [if_neg h1]
    have e2 : ltK p c m = (1 + (m - (c + 1)) / (p + 1)).toNat := by unfold ltK; rw [if_neg h1]
    have b1 := Int.emod_nonneg (m - (c + 1)) (show p + 1 ≠ 0 by omega)
    have b2 := Int.emod_lt_of_pos (m - (c + 1)) (show 0 < p + 1 by omega)
    have b3 : 0 ≤ (m - (c + 1)) / (p + 1) := Int.ediv_nonneg (by omega) (by omega)
    have b4 : (m - (c + 1)) / (p + 1) ≤ m - (c + 1) := Int.ediv_le_self _ (by omega)
    have q2 : IntKind.i64.wrap ((m - (c + 1)).tmod (p + 1)) = (m - (c + 1)) % (p + 1) := by rw [Int.tmod_eq_emod_of_nonneg (by omega)]; simp [IntKind.wrap, IntKind.bits, IntKind.signed]; omega
    have q6 : IntKind.i64.wrap ((m - (c + 1)).tdiv (p + 1)) = (m - (c + 1)) / (p + 1) := by rw [Int.tdiv_eq_ediv_of_nonneg (by omega)]; simp [IntKind.wrap, IntKind.bits, IntKind.signed]; omega
    have q3 : IntKind.u16.wrap ((m - (c + 1)) % (p + 1)) = (m - (c + 1)) % (p + 1) := by rw [IntKind.wrap_u16]; omega
    have q4 : IntKind.u16.wrap (p - (m - (c + 1)) % (p + 1)) = p - (m - (c + 1)) % (p + 1) := by rw [IntKind.wrap_u16]; omega
    have q5 : p + 1 ≠ 0 := by omega
    have q10 : IntKind.i64.wrap (1 + (m - (c + 1)) / (p + 1)) = 1 + (m - (c + 1)) / (p + 1) := by simp [IntKind.wrap, IntKind.bits, IntKind.signed]; omega
    have q13 : IntKind.i64.wrap ((m - (c + 1)) / (p + 1)) = (m - (c + 1)) / (p + 1) := by simp [IntKind.wrap, IntKind.bits, IntKind.signed]; omega
    have q8 : (m - (c + 1)).tmod (p + 1) = (m - (c + 1)) % (p + 1) := Int.tmod_eq_emod_of_nonneg (by omega)
    have q9 : (m - (c + 1)).tdiv (p + 1) = (m - (c + 1)) / (p + 1) := Int.tdiv_eq_ediv_of_nonneg (by omega)
    have q7 : (1 + (m - (c + 1)) / (p + 1)) = ((ltK p c m : Nat) : Int) := by rw [e2]; omega
    have hk : ltK p c m ≤ 20001 := by omega
    rw [e1]
    have HQ := hid q7
    clear q7 e1 e2
    go_enter Try.func22, Try.ntmps22
    go_wp2
    go_quiet (fail)
    refine Pl.cutE (V2 w p c l n h) (V2.start w p c l n h _) ?_
    intro W hW
    obtain ⟨t0, t1, t2, t3, t4, tz, tf⟩ := hW.v.five
    have HW := hid hW
    clear hW
    go_wp2
    go_region_held3 (fun w' => w'.cell? ⟨w.heap.size, 0, none⟩ = some (.int .u16 p))
      (first
        | exact keep0 t0
        | (go_keep; done))
      (fail)
    refine Pl.cutE (V2 w p (p - (m - (c + 1)) % (p + 1)) l n h) ⟨(Bl.set HW.out.low (Nat.le_refl _) _).drew, (HW.out.v.set 1 _ (by simp)).drew, (HW.out.r.far (by omega) _).drew⟩ ?_
    clear t0 t1 t2 t3 t4 tz tf
    intro W1 hW1
    obtain ⟨t0, t1, t2, t3, t4, tz, tf⟩ := hW1.v.five
    have HW1 := hid hW1
    clear hW1 HW
    have hsw := fun W => swing_any p (p - (m - (c + 1)) % (p + 1)) l n h (ltK p c m) W hn hk
    rw [← HQ.out] at hsw
    go_wp2
    go_region_held3 (fun w' => w'.cell? ⟨w.heap.size, 0, none⟩ = some (.int .u16 p) ∧ w'.cell? ⟨w.heap.size, 1, none⟩ = some (.int .u16 (p - (m - (c + 1)) % (p + 1))) ∧ w'.cell? ⟨w.heap.size, 2, none⟩ = some (.int .u8 l) ∧ w'.cell? ⟨w.heap.size, 3, none⟩ = some (.bool h) ∧ w'.cell? ⟨w.heap.size, 4, none⟩ = some (.int .u16 n))
      (first
        | with_reducible exact keep5 (by assumption) (by assumption)
        | (go_keep; done))
      ((go_at_call 27; refine (hsw _).mono ?_; rintro e w1 ⟨rfl, hb1⟩; obtain ⟨r0, r1, r2, r3, r4, rz, rf⟩ := (HW1.out.r.drew.kept hb1).five))
    go_wp2
    have hR := (HW1.out.r.drew.kept hb1).put5 rfl p (p - (m - (c + 1)) % (p + 1)) l (swsN n (ltK p c m)) (swsH h n (ltK p c m))
    have hY := Bl.put5 (b := w.heap.size + 1) (stp HW1.out.low.drew hb1) (by omega) p (p - (m - (c + 1)) % (p + 1)) l (swsN n (ltK p c m)) (swsH h n (ltK p c m))
    refine Pl.cutB (fun Y => Below w.heap.size w Y ∧ Y.rangeAt (w.heap.size + 1) 0 (vL p (p - (m - (c + 1)) % (p + 1)) l (swsH h n (ltK p c m)) (swsN n (ltK p c m)))) ⟨hY, hR.c⟩ ?_
    rintro Y ⟨hY, hR⟩
    exact bodyPost_ret (v := .agg _) (by simp only [results, Try.results22]; simp; exact load_voice _ _ _ _ _ _ _ _ hR) rfl ⟨rfl, hY⟩
end Go.Proofs.Ytjmmbbehjklhgaa
