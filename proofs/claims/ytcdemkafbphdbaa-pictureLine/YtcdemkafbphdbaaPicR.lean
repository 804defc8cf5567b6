/-
  The reference: a tile's dot, a sprite's row.
-/
import Derived.Test.YtcdemkafbphdbaaPicI
namespace Go.Proofs.Ytcdemkafbphdbaa
open Go.ChangeShapes Go.WideShapes Go.ChangeAt Go.RowKit
set_option linter.unusedVariables false

set_option maxRecDepth 100000 in
set_option maxHeartbeats 1600000 in
theorem tileDot_any (m : List UInt8) (v : Value) (g o c : Nat) (t x y : Nat) (w : World) (h : Mm w m v g o c) (ht : t < 16) (hx : x < 4) (hy : y < 4) :
    Calls Try.prog 18 #[v, .int .i64 t, .int .i64 x, .int .i64 y] w fun e w' => e = .returned (.int .i64 (td m t x y)) ∧ Below w.heap.size w w' := by
  obtain ⟨rfl, hl, hz, hc⟩ := h
  have h1 := hc (16 + t * 4 + y) (by omega)
  have hb := gb_lt m (16 + t * 4 + y)
  have htd : td m t x y = gb m (16 + t * 4 + y) / 4 ^ (3 - x) % 4 := by unfold td; rw [show 16 + 4 * (t % 16) + y = 16 + t * 4 + y by omega]
  rw [htd]
  clear hc htd
  have hx' : x = 0 ∨ x = 1 ∨ x = 2 ∨ x = 3 := by omega
  have w1 : IntKind.i64.wrap ((t : Int) * 4) = (t : Int) * 4 := by rw [IntKind.wrap_i64]; omega
  have w2 : IntKind.i64.wrap (16 + (t : Int) * 4) = 16 + (t : Int) * 4 := by rw [IntKind.wrap_i64]; omega
  have w3 : IntKind.i64.wrap (16 + (t : Int) * 4 + y) = 16 + (t : Int) * 4 + y := by rw [IntKind.wrap_i64]; omega
  have n1 : (0 : Int) ≤ 16 + (t : Int) * 4 + y := by omega
  have n2 : 16 + (t : Int) * 4 + (y : Int) < 256 := by omega
  have n3 : (16 + (t : Int) * 4 + (y : Int)).toNat = 16 + t * 4 + y := by omega
  have g1 := i64_gb m (16 + t * 4 + y)
  generalize hG : gb m (16 + t * 4 + y) = G at *
  rcases hx' with rfl | rfl | rfl | rfl
  · go_enter Try.func18, Try.ntmps18
    go_wp2
    go_region
    all_goals
      go_wp2
      go_ret
      refine ⟨ret_v (congrArg (Value.int .i64) ?_), (stA (st0 w) _).drew⟩
      omega
  · go_enter Try.func18, Try.ntmps18
    go_wp2
    go_region
    all_goals
      go_wp2
      go_ret
      refine ⟨ret_v (congrArg (Value.int .i64) ?_), (stA (st0 w) _).drew⟩
      omega
  · go_enter Try.func18, Try.ntmps18
    go_wp2
    go_region
    all_goals
      go_wp2
      go_ret
      refine ⟨ret_v (congrArg (Value.int .i64) ?_), (stA (st0 w) _).drew⟩
      omega
  · go_enter Try.func18, Try.ntmps18
    go_wp2
    go_region
    all_goals
      go_wp2
      go_ret
      refine ⟨ret_v (congrArg (Value.int .i64) ?_), (stA (st0 w) _).drew⟩
      omega
/-- The row, or -1. -/
def liI (m : List UInt8) (k y : Nat) : Int := if onS m y k then (y : Int) - (lnS m k : Nat) else -1
set_option maxRecDepth 100000 in
theorem lies_any (m : List UInt8) (v : Value) (g o c : Nat) (k y : Nat) (w : World) (h : Mm w m v g o c) (hk : k < 8) (hy : y < 8) :
    Calls Try.prog 19 #[v, .int .i64 k, .int .i64 y] w fun e w' => e = .returned (.int .i64 (liI m k y)) ∧ w = w' := by
  obtain ⟨rfl, hl, hz, hc⟩ := h
  have h1 := hc (128 + 4 * k) (by omega)
  have hb := gb_lt m (128 + 4 * k)
  have hL : lnS m k = gb m (128 + 4 * k) := rfl
  obtain ⟨G, hG⟩ : ∃ G, G = gb m (128 + 4 * k) := ⟨_, rfl⟩
  rw [← hG] at h1 hb hL
  have HL := hid hL
  clear hc hG hL
  go_enter Try.func19, Try.ntmps19
  go_wp2
  go_loop [8] (fun i => ∃ j : Nat, j ≤ 4 ∧ i = .int .i64 j ∧ Hid (¬ (G ≤ y ∧ y < G + j))) (fun i => 4 - (intOf i).toNat)
  case atStart => exact ⟨0, Nat.zero_le _, rfl, (fun h => by omega : ¬ (G ≤ y ∧ y < G + 0))⟩
  case round =>
    obtain ⟨j, hj, rfl, HN⟩ := hrel
    by_cases h4 : j < 4
    · have h4' : (j : Int) < 4 := by omega
      by_cases e : G + j = y
      · have e' : ((G : Int) + j == (y : Int)) = true := by simp; omega
        have HR : Hid (liI m k y = (j : Int)) := by
          unfold liI onS
          rw [HL.out, if_pos (decide_eq_true (by omega))]
          show (y : Int) - (G : Nat) = j
          omega
        clear e
        go_wp2
        go_ret
        rw [HR.out]
        exact ⟨rfl, rfl⟩
      · have e' : ((G : Int) + j == (y : Int)) = false := by simp; omega
        have HN2 : Hid (¬ (G ≤ y ∧ y < G + (j + 1))) := (fun h => HN.out ⟨h.1, by omega⟩ : ¬ (G ≤ y ∧ y < G + (j + 1)))
        clear e
        go_wp2
        go_round
        case rel => exact ⟨j + 1, h4, by go_num, HN2⟩
        case measure => simp [intOf]; omega
    · have h9 : ¬ (j : Int) < 4 := by omega
      have e4 : j = 4 := by omega
      subst e4
      have HR : Hid (liI m k y = -1) := by
        unfold liI onS
        rw [HL.out, decide_eq_false HN.out]
        rfl
      go_wp2
      go_ret
      rw [HR.out]
      exact ⟨rfl, rfl⟩
set_option maxRecDepth 100000 in
set_option maxHeartbeats 1600000 in
theorem drawnOn_any (m : List UInt8) (v : Value) (g o c : Nat) (y : Nat) (w : World) (h : Mm w m v g o c) (hy : y < 8) :
    Calls Try.prog 11 #[v, .int .i64 y] w fun e w' => ∃ s, e = .returned s ∧ w'.ownsRow w.heap.size 3 1 s (drS m y 8).length (ics (drS m y 8)) ∧ Below w.heap.size w w' := by
  have H := hid h
  clear h
  go_enter Try.func11, Try.ntmps11
  go_wp2
  go_loopw [5, 7] (fun s i wr => ∃ j : Nat, j ≤ 8 ∧ i = .int .i64 j ∧ wr.ownsRow w.heap.size 3 1 s (drS m y j).length (ics (drS m y j)) ∧ Below w.heap.size w wr) (fun _ i _ => 8 - (intOf i).toNat)
  case atStart => exact ⟨0, Nat.zero_le _, rfl, ⟨rfl, Or.inl ⟨rfl, rfl⟩⟩, st0 w⟩
  case round =>
    obtain ⟨j, hj, rfl, hown, hbl⟩ := hrel
    have HO := hid hown
    have HB := hid hbl
    obtain ⟨sa, sc, rfl⟩ := own_len hown
    clear hown hbl
    by_cases h8 : j < 8
    · have h8' : (j : Int) < 8 := by omega
      have HL := hid (fun W hW => lies_any m v g o c j y W hW h8 hy)
      cases ho : onS m y j with
      | false =>
        have HN : Hid (drS m y (j + 1) = drS m y j) := by rw [drS_succ, ho]; rfl
        have HI : Hid (liI m j y = -1) := by unfold liI; rw [ho]; rfl
        clear ho
        go_wp2_with (go_at_call 19; refine (HL.out _ (H.out.kept HB.out)).mono ?_; rw [HI.out]; rintro e w1 ⟨rfl, rfl⟩)
        go_round
        case rel => exact ⟨j + 1, h8, by go_num, by rw [HN.out]; exact HO.out, HB.out⟩
        case measure => simp [intOf]; omega
      | true =>
        have HN : Hid (drS m y (j + 1) = drS m y j ++ [j]) := by rw [drS_succ, ho]; rfl
        have hle : (drS m y j).length ≤ 50000 := by
          have : (drS m y j).length ≤ j := by unfold drS; exact Nat.le_trans (List.length_filter_le _ _) (by simp)
          omega
        have HLe := hid hle
        obtain ⟨R, hR⟩ : ∃ R : Int, R = liI m j y := ⟨_, rfl⟩
        have hR0 : 0 ≤ R := by
          rw [hR]; unfold liI; rw [if_pos ho]
          unfold onS at ho
          have := of_decide_eq_true ho
          omega
        have HI := hid hR
        clear ho hle hR
        go_wp2_with (first
          | (go_at_call 19; refine (HL.out _ (H.out.kept HB.out)).mono ?_; rw [← HI.out]; rintro e w1 ⟨rfl, rfl⟩)
          | (at_builtin; refine app1i (by rfl) _ _ (by rfl) w.heap.size _ (drS m y j) (by rfl) (own_int_kept HO.out (stA (st0 wr) _)) wr.heap.size 1 j j (by rfl) (Pl.new _ _ _ _ rfl) rfl HLe.out (Nat.le_trans HB.out.size (by simp)) ?_; intro v' w' hown' hb'))
        go_round
        case rel => exact ⟨j + 1, h8, by go_num, by rw [HN.out]; exact hown', (stA HB.out _).trans hb'⟩
        case measure => simp [intOf]; omega
    · have h9 : ¬ (j : Int) < 8 := by omega
      have e8 : j = 8 := by omega
      subst e8
      go_wp2
      go_ret
      exact ⟨_, rfl, HO.out, HB.out⟩
end Go.Proofs.Ytcdemkafbphdbaa
