/-
  Package picture: Line, On.
-/
import Derived.Test.YtcdemkafbphdbaaPicF
namespace Go.Proofs.Ytcdemkafbphdbaa
open Go.ChangeShapes Go.WideShapes Go.ChangeAt Go.RowKit
set_option linter.unusedVariables false

/-- The error. -/
def ckP (n : Nat) (y : Int) : Int := if n = 256 then (if 0 ≤ y ∧ y < 8 then 0 else 3) else 4
theorem check_any (a : Option Addr) (n c : Nat) (y : Int) (w : World) : Calls Try.prog 14 #[.slice a n c, .int .i64 y] w fun e w' => e = .returned (.int .i64 (ckP n y)) ∧ w = w' := by
  by_cases hn : n = 256
  · by_cases h1 : y < 0
    · have e : ckP n y = 3 := by unfold ckP; rw [if_pos hn, if_neg (by omega)]
      rw [e]
      subst hn
      go_enter Try.func14, Try.ntmps14
      go_wp2
      go_ret
      exact ⟨rfl, rfl⟩
    · by_cases h2 : (8 : Int) ≤ y
      · have e : ckP n y = 3 := by unfold ckP; rw [if_pos hn, if_neg (by omega)]
        rw [e]
        subst hn
        go_enter Try.func14, Try.ntmps14
        go_wp2
        go_ret
        exact ⟨rfl, rfl⟩
      · have e : ckP n y = 0 := by unfold ckP; rw [if_pos hn, if_pos (by omega)]
        rw [e]
        subst hn
        go_enter Try.func14, Try.ntmps14
        go_wp2
        go_ret
        exact ⟨rfl, rfl⟩
  · have e : ckP n y = 4 := by unfold ckP; rw [if_neg hn]
    rw [e]
    have hn' : ((n : Int) != 256) = true := by simp; omega
    go_enter Try.func14, Try.ntmps14
    go_wp2
    go_ret
    exact ⟨rfl, rfl⟩
theorem zero16 : (row16 fun _ => 0).toArray = #[.int .u8 0, .int .u8 0, .int .u8 0, .int .u8 0, .int .u8 0, .int .u8 0, .int .u8 0, .int .u8 0, .int .u8 0, .int .u8 0, .int .u8 0, .int .u8 0, .int .u8 0, .int .u8 0, .int .u8 0, .int .u8 0] := rfl
set_option maxRecDepth 100000 in
theorem line_ok (m : List UInt8) (v : Value) (g o c : Nat) (y : Nat) (w : World) (h : Mm w m v g o c) (hy : y < 8) :
    Calls Try.prog 6 #[v, .int .i64 y] w fun e w' => e = .returned (.tuple #[.agg (row16 (px m y)).toArray, .int .i64 0]) ∧ Below w.heap.size w w' := by
  have H := hid h
  obtain ⟨rfl, hl, hz, hc⟩ := h
  have he : ckP 256 y = 0 := by unfold ckP; rw [if_pos rfl, if_pos (by omega)]
  have HE := hid he
  clear hc he
  go_enter Try.func6, Try.ntmps6
  go_wp2_with (first
    | (go_at_call 14; refine (check_any _ _ _ _ _).mono ?_; rw [HE.out]; rintro e w1 ⟨rfl, rfl⟩)
    | (go_at_call 15; refine (pixels_any m _ g o c y _ (H.out.kept (stA (st0 w) _)) hy).mono ?_; rintro e w2 ⟨rfl, hb2⟩)
    | (refine st16 rfl _ _ rfl w.heap.size (px m y) (fun _ => 0) rfl rfl ((Bx.new w (row16 fun _ => 0) _ rfl).kept hb2) ?_; rintro w3 hw3 hB3; have HB3 := hid hB3; have HW3 := hid hw3; clear hB3 hw3))
  have hl := lv16 HB3.out
  refine bodyPost_ret (v := .tuple #[.agg (row16 (px m y)).toArray, .int .i64 0]) ?_ rfl ⟨rfl, ?_⟩
  · simp only [results, Try.results6]
    simp
    show (Result.andThen (Sem.run Try.prog (loadVar 23 ⟨w.heap.size, 0, none⟩) w3) _) = _
    rw [hl]
    rfl
  · rw [HW3.out]; exact Bl.puts (stp (stA (st0 w) _) hb2) (Nat.le_refl _) _
set_option maxRecDepth 100000 in
theorem line_err (a : Option Addr) (n c : Nat) (y : Int) (w : World) (h : (ckP n y != 0) = true) :
    Calls Try.prog 6 #[.slice a n c, .int .i64 y] w fun e w' => e = .returned (.tuple #[.agg (row16 fun _ => 0).toArray, .int .i64 (ckP n y)]) ∧ Below w.heap.size w w' := by
  go_enter Try.func6, Try.ntmps6
  go_wp2_with (first
    | (go_at_call 14; refine (check_any _ _ _ _ _).mono ?_; rintro e w1 ⟨rfl, rfl⟩))
  refine Pl.cutB (fun W => Below w.heap.size w W ∧ Bx W w.heap.size (row16 fun _ => 0)) ⟨stA (st0 w) _, Bx.new w (row16 fun _ => 0) _ rfl⟩ ?_
  rintro W ⟨hlow, hbox⟩
  have hl := lv16 hbox
  refine bodyPost_ret (v := .tuple #[.agg (row16 fun _ => 0).toArray, .int .i64 (ckP n y)]) ?_ rfl ⟨rfl, hlow⟩
  simp only [results, Try.results6]
  simp
  show (Result.andThen (Sem.run Try.prog (loadVar 23 ⟨w.heap.size, 0, none⟩) W) _) = _
  rw [hl]
  rfl
set_option maxRecDepth 100000 in
theorem on_ok (m : List UInt8) (v : Value) (g o c : Nat) (y : Nat) (w : World) (h : Mm w m v g o c) (hy : y < 8) :
    Calls Try.prog 7 #[v, .int .i64 y] w fun e w' => ∃ s, e = .returned (.tuple #[s, .bool (decide (2 < (drS m y 8).length)), .int .i64 0]) ∧ w'.ownsRow w.heap.size 3 1 s ((drS m y 8).take 2).length (ics ((drS m y 8).take 2)) ∧ Below w.heap.size w w' := by
  have H := hid h
  obtain ⟨rfl, hl, hz, hc⟩ := h
  obtain ⟨ks, hks⟩ : ∃ ks, ks = (drS m y 8).take 2 := ⟨_, rfl⟩
  have HK := hid hks
  obtain ⟨more, hmo⟩ : ∃ b, b = decide (2 < (drS m y 8).length) := ⟨_, rfl⟩
  have HM := hid hmo
  have he : ckP 256 y = 0 := by unfold ckP; rw [if_pos rfl, if_pos (by omega)]
  have HE := hid he
  rw [← hks, ← hmo]
  clear hc he hks hmo
  go_enter Try.func7, Try.ntmps7
  go_wp2_with (first
    | (go_at_call 14; refine (check_any _ _ _ _ _).mono ?_; rw [HE.out]; rintro e w1 ⟨rfl, rfl⟩)
    | (go_at_call 16; refine (drawn_any m _ g o c y _ H.out hy).mono ?_; rw [← HK.out, ← HM.out]; rintro e w4 ⟨s, rfl, hown, hb4⟩; have HOwn := hid hown; have HB4 := hid hb4; obtain ⟨sa, sc, rfl⟩ := own_len hown; clear hown hb4))
  refine bodyPost_ret (v := .tuple #[.slice sa ks.length sc, .bool more, .int .i64 0]) (by simp [results, Try.results7, go_sem]) rfl ⟨_, rfl, HOwn.out, HB4.out⟩
theorem on_err (a : Option Addr) (n c : Nat) (y : Int) (w : World) (h : (ckP n y != 0) = true) :
    Calls Try.prog 7 #[.slice a n c, .int .i64 y] w fun e w' => e = .returned (.tuple #[.slice none 0 0, .bool false, .int .i64 (ckP n y)]) ∧ w = w' := by
  go_enter Try.func7, Try.ntmps7
  go_wp2_with (first
    | (go_at_call 14; refine (check_any _ _ _ _ _).mono ?_; rintro e w1 ⟨rfl, rfl⟩))
  refine bodyPost_ret (v := .tuple #[.slice none 0 0, .bool false, .int .i64 (ckP n y)]) (by simp [results, Try.results7, go_sem]) rfl ⟨rfl, rfl⟩
end Go.Proofs.Ytcdemkafbphdbaa
