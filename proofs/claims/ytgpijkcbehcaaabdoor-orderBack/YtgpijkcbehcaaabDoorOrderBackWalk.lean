/-
  For every order and every two words the law OrderBack of the program returns true and leaves its arguments as they were; its condition: the program's variable shapes holds what the program's text lays (the card ties it).
-/
import Derived.Test.YtgpijkcbehcaaabDoorOrdF
import Derived.Test.YtgpijkcbehcaaabDoorOrderBackFrame
namespace Go.Proofs.YtgpijkcbehcaaabDoor
open Go.ChangeShapes Go.WideShapes Go.ChangeAt Go.RowKit
set_option linter.unusedVariables false

/-- The two forms of a right order's words. -/
theorem words_cases (op d s n ww : Int) : (O.words op d s n ww = [O.first op d s n, ww] ∧ O.hasC op.toNat 119 = true) ∨ (O.words op d s n ww = [O.first op d s n] ∧ O.hasC op.toNat 119 = false) := by
  unfold O.words
  cases h : O.hasC op.toNat 119
  · exact Or.inr ⟨rfl, rfl⟩
  · exact Or.inl ⟨rfl, rfl⟩
theorem check_read (a b : Int) (ha : 0 ≤ a ∧ a ≤ 65535) (hb : 0 ≤ b ∧ b ≤ 65535) (w : World) (hs : shapesAt w) :
    Calls Tryd.prog 9 #[.agg #[.int .i64 (O.rOp a), .int .i64 (O.rD a), .int .i64 (O.rS a), .int .i64 (O.rN a), .int .i64 (O.rW a b)]] w fun e w' => e = .returned (.int .i64 0) ∧ Below w.heap.size w w' :=
  check_ok _ _ _ _ _ (O.rOp_isOp a ha) (O.read_ok a b ha hb) w hs
theorem read_back (op d s n ww : Int) (h1 : O.isOp op = true) (hok : O.okB op.toNat d s n ww = true) (w : World) (hs : shapesAt w) :
    Calls Tryd.prog 5 #[.int .u16 (O.first op d s n), .int .u16 ww] w fun e w' => e = .returned (.tuple #[.agg #[.int .i64 op, .int .i64 d, .int .i64 s, .int .i64 n, .int .i64 ww], .int .i64 (O.words op d s n ww).length]) ∧ Below w.heap.size w w' := by
  obtain ⟨b1, b2, b3, b4⟩ := O.ok_bd hok
  obtain ⟨a1, a2, a3⟩ := (O.isOp_iff op).1 h1
  obtain ⟨e1, e2, e3, e4, e5, _, e6⟩ := O.back h1 hok
  have h := read_any (O.first op d s n) ww (O.first_bd ⟨a1, a2⟩ b1 b2) b4 w hs
  unfold orderV at h
  rw [e1, e2, e3, e4, e5, e6] at h
  exact h
theorem read_V (a b : Int) (ha : 0 ≤ a ∧ a ≤ 65535) (hb : 0 ≤ b ∧ b ≤ 65535) (w : World) (hs : shapesAt w) :
    Calls Tryd.prog 5 #[.int .u16 a, .int .u16 b] w fun e w' => e = .returned (.tuple #[.agg #[.int .i64 (O.rOp a), .int .i64 (O.rD a), .int .i64 (O.rS a), .int .i64 (O.rN a), .int .i64 (O.rW a b)], .int .i64 (O.rLen a)]) ∧ Below w.heap.size w w' := read_any a b ha hb w hs
set_option maxRecDepth 100000 in
set_option maxHeartbeats 1600000 in
theorem back_no (op d s n ww a b : Int) (ha : 0 ≤ a ∧ a ≤ 65535) (hb : 0 ≤ b ∧ b ≤ 65535) (h : (O.ck op d s n ww == 0) = false) (w : World) (hs : shapesAt w) :
    Calls Tryd.prog 4 #[.agg #[.int .i64 op, .int .i64 d, .int .i64 s, .int .i64 n, .int .i64 ww], .int .u16 a, .int .u16 b] w fun e w' => e = .returned (.bool true) ∧ Below w.heap.size w w' := by
  have HS := hid (shapes_alloc hs (.cells #[.int .i64 op, .int .i64 d, .int .i64 s, .int .i64 n, .int .i64 ww] 24))
  have H := hid h
  clear hs
  go_enter Tryd.func4, Tryd.ntmps4
  go_wp2_with (first
    | (go_at_call 8; refine (words_no op d s n ww H.out _ HS.out).mono ?_; rintro e w1 ⟨rfl, hb1⟩; have hs1 := hid (HS.out.kept hb1))
    | (go_at_call 5; refine (read_V a b ha hb _ hs1.out).mono ?_; rintro e w2 ⟨rfl, hb2⟩; have hs2 := hid (shapes_alloc (hs1.out.kept hb2) (.cells #[.int .i64 (O.rOp a), .int .i64 (O.rD a), .int .i64 (O.rS a), .int .i64 (O.rN a), .int .i64 (O.rW a b)] 24)))
    | (go_at_call 7; refine (orders_any _ hs2.out).mono ?_; rintro e w3 ⟨rfl, hb3⟩; obtain ⟨hc3, hf3⟩ := bcell hb3; have hs3 := hid (hs2.out.kept hb3))
    | (go_at_call 9; refine (check_read a b ha hb _ hs3.out).mono ?_; rintro e w4 ⟨rfl, hb4⟩))
  go_ret
  exact ⟨rfl, stp (stp (stA (stp (stp (stA (st0 _) _) hb1) hb2) _) hb3) hb4⟩
theorem at0 {w : World} {g : Nat} {x : Int} {l : List Int} (h : wordsAt w g (x :: l)) : w.cell? ⟨g, 0, none⟩ = some (.int .u16 x) := h 0 (by simp)
theorem at1 {w : World} {g : Nat} {x y : Int} {l : List Int} (h : wordsAt w g (x :: y :: l)) : w.cell? ⟨g, 1, none⟩ = some (.int .u16 y) := h 1 (by simp)
theorem words_y2 (op d s n ww : Int) (h1 : O.isOp op = true) (hok : O.okB op.toNat d s n ww = true) (hl : O.words op d s n ww = [O.first op d s n, ww]) (w : World) (hs : shapesAt w) :
    Calls Tryd.prog 8 #[.agg #[.int .i64 op, .int .i64 d, .int .i64 s, .int .i64 n, .int .i64 ww]] w fun e w' => ∃ g, e = .returned (.tuple #[.slice (some ⟨g, 0, none⟩) 2 2, .int .i64 0]) ∧ wordsAt w' g [O.first op d s n, ww] ∧ g < w'.heap.size ∧ Below w.heap.size w w' := by
  have h := words_yes op d s n ww h1 hok w hs
  rw [hl] at h
  exact h.mono fun e w' ⟨g, he, hw, _, hg, hb⟩ => ⟨g, he, hw, hg, hb⟩
theorem read_b2 (op d s n ww : Int) (h1 : O.isOp op = true) (hok : O.okB op.toNat d s n ww = true) (hl : O.words op d s n ww = [O.first op d s n, ww]) (w : World) (hs : shapesAt w) :
    Calls Tryd.prog 5 #[.int .u16 (O.first op d s n), .int .u16 ww] w fun e w' => e = .returned (.tuple #[.agg #[.int .i64 op, .int .i64 d, .int .i64 s, .int .i64 n, .int .i64 ww], .int .i64 2]) ∧ Below w.heap.size w w' := by
  have h := read_back op d s n ww h1 hok w hs
  rw [hl] at h
  exact h
set_option maxRecDepth 100000 in
set_option maxHeartbeats 1600000 in
theorem back_2 (op d s n ww a b : Int) (ha : 0 ≤ a ∧ a ≤ 65535) (hb : 0 ≤ b ∧ b ≤ 65535) (h1 : O.isOp op = true) (hok : O.okB op.toNat d s n ww = true) (hl : O.words op d s n ww = [O.first op d s n, ww]) (w : World) (hs : shapesAt w) :
    Calls Tryd.prog 4 #[.agg #[.int .i64 op, .int .i64 d, .int .i64 s, .int .i64 n, .int .i64 ww], .int .u16 a, .int .u16 b] w fun e w' => e = .returned (.bool true) ∧ Below w.heap.size w w' := by
  have HS := hid (shapes_alloc hs (.cells #[.int .i64 op, .int .i64 d, .int .i64 s, .int .i64 n, .int .i64 ww] 24))
  have eqo := eq_order
  have H1 := hid h1
  have HO := hid hok
  have HL := hid hl
  clear hs h1 hok hl
  go_enter Tryd.func4, Tryd.ntmps4
  go_wp2_with (first
    | (go_at_call 8; refine (words_y2 _ _ _ _ _ H1.out HO.out HL.out _ HS.out).mono ?_; rintro e w1 ⟨g, rfl, hw1, hg1, hb1⟩; have hs1 := hid (HS.out.kept hb1))
    | (go_at_call 7; refine (orders_any _ hs2.out).mono ?_; rintro e w3 ⟨rfl, hb3⟩; obtain ⟨hc3, hf3⟩ := bcell hb3; have hs3 := hid (hs2.out.kept hb3))
    | (go_at_call 9; refine (check_read a b ha hb _ hs3.out).mono ?_; rintro e w4 ⟨rfl, hb4⟩; have B4 := stp (stp (stA hb2 _) hb3) hb4; have c0 := at0 (hw1.kept B4 hg1); have c1 := at1 (hw1.kept B4 hg1); have hs4 := hid (hs3.out.kept hb4); clear hc3 hf3)
    | (go_at_call 5; first
        | (refine (read_b2 _ _ _ _ _ H1.out HO.out HL.out _ hs4.out).mono ?_; rintro e w5 ⟨rfl, hb5⟩; have B5 := stp hb1 (stp B4 hb5); obtain ⟨hc5, hf5⟩ := bcell B5; have hz5 := lt_box B5)
        | (refine (read_V a b ha hb _ hs1.out).mono ?_; rintro e w2 ⟨rfl, hb2⟩; have hs2 := hid (shapes_alloc (hs1.out.kept hb2) (.cells #[.int .i64 (O.rOp a), .int .i64 (O.rD a), .int .i64 (O.rS a), .int .i64 (O.rN a), .int .i64 (O.rW a b)] 24)))))
  go_ret
  exact ⟨rfl, stA (stp (stA (st0 _) _) B5) _⟩
theorem words_y1 (op d s n : Int) (h1 : O.isOp op = true) (hok : O.okB op.toNat d s n 0 = true) (hl : O.words op d s n 0 = [O.first op d s n]) (w : World) (hs : shapesAt w) :
    Calls Tryd.prog 8 #[.agg #[.int .i64 op, .int .i64 d, .int .i64 s, .int .i64 n, .int .i64 0]] w fun e w' => ∃ g, e = .returned (.tuple #[.slice (some ⟨g, 0, none⟩) 1 1, .int .i64 0]) ∧ wordsAt w' g [O.first op d s n] ∧ g < w'.heap.size ∧ Below w.heap.size w w' := by
  have h := words_yes op d s n 0 h1 hok w hs
  rw [hl] at h
  exact h.mono fun e w' ⟨g, he, hw, _, hg, hb⟩ => ⟨g, he, hw, hg, hb⟩
theorem read_b1 (op d s n : Int) (h1 : O.isOp op = true) (hok : O.okB op.toNat d s n 0 = true) (hl : O.words op d s n 0 = [O.first op d s n]) (w : World) (hs : shapesAt w) :
    Calls Tryd.prog 5 #[.int .u16 (O.first op d s n), .int .u16 0] w fun e w' => e = .returned (.tuple #[.agg #[.int .i64 op, .int .i64 d, .int .i64 s, .int .i64 n, .int .i64 0], .int .i64 1]) ∧ Below w.heap.size w w' := by
  have h := read_back op d s n 0 h1 hok w hs
  rw [hl] at h
  exact h
set_option maxRecDepth 100000 in
set_option maxHeartbeats 1600000 in
theorem back_1 (op d s n a b : Int) (ha : 0 ≤ a ∧ a ≤ 65535) (hb : 0 ≤ b ∧ b ≤ 65535) (h1 : O.isOp op = true) (hok : O.okB op.toNat d s n 0 = true) (hl : O.words op d s n 0 = [O.first op d s n]) (w : World) (hs : shapesAt w) :
    Calls Tryd.prog 4 #[.agg #[.int .i64 op, .int .i64 d, .int .i64 s, .int .i64 n, .int .i64 0], .int .u16 a, .int .u16 b] w fun e w' => e = .returned (.bool true) ∧ Below w.heap.size w w' := by
  have HS := hid (shapes_alloc hs (.cells #[.int .i64 op, .int .i64 d, .int .i64 s, .int .i64 n, .int .i64 0] 24))
  have eqo := eq_order
  have H1 := hid h1
  have HO := hid hok
  have HL := hid hl
  clear hs h1 hok hl
  go_enter Tryd.func4, Tryd.ntmps4
  go_wp2_with (first
    | (go_at_call 8; refine (words_y1 _ _ _ _ H1.out HO.out HL.out _ HS.out).mono ?_; rintro e w1 ⟨g, rfl, hw1, hg1, hb1⟩; have hs1 := hid (HS.out.kept hb1))
    | (go_at_call 7; refine (orders_any _ hs2.out).mono ?_; rintro e w3 ⟨rfl, hb3⟩; obtain ⟨hc3, hf3⟩ := bcell hb3; have hs3 := hid (hs2.out.kept hb3))
    | (go_at_call 9; refine (check_read a b ha hb _ hs3.out).mono ?_; rintro e w4 ⟨rfl, hb4⟩; have B4 := stp (stp (stA hb2 _) hb3) hb4; have c0 := at0 (hw1.kept B4 hg1); have hs4 := hid (hs3.out.kept hb4); clear hc3 hf3)
    | (go_at_call 5; first
        | (refine (read_b1 _ _ _ _ H1.out HO.out HL.out _ hs4.out).mono ?_; rintro e w5 ⟨rfl, hb5⟩; have B5 := stp hb1 (stp B4 hb5); obtain ⟨hc5, hf5⟩ := bcell B5; have hz5 := lt_box B5)
        | (refine (read_V a b ha hb _ hs1.out).mono ?_; rintro e w2 ⟨rfl, hb2⟩; have hs2 := hid (shapes_alloc (hs1.out.kept hb2) (.cells #[.int .i64 (O.rOp a), .int .i64 (O.rD a), .int .i64 (O.rS a), .int .i64 (O.rN a), .int .i64 (O.rW a b)] 24)))))
  go_ret
  exact ⟨rfl, stA (stp (stA (st0 _) _) B5) _⟩
theorem back_any (op d s n ww a b : Int) (ha : 0 ≤ a ∧ a ≤ 65535) (hb : 0 ≤ b ∧ b ≤ 65535) (w : World) (hs : shapesAt w) :
    Calls Tryd.prog 4 #[.agg #[.int .i64 op, .int .i64 d, .int .i64 s, .int .i64 n, .int .i64 ww], .int .u16 a, .int .u16 b] w fun e w' => e = .returned (.bool true) ∧ Below w.heap.size w w' := by
  cases hc : (O.ck op d s n ww == 0)
  · exact back_no op d s n ww a b ha hb hc w hs
  · have h0 : O.ck op d s n ww = 0 := by simpa using hc
    unfold O.ck at h0
    have h1 : O.isOp op = true := by cases h : O.isOp op <;> simp [h] at h0 ⊢
    rw [h1] at h0
    have hok : O.okB op.toNat d s n ww = true := by cases h : O.okB op.toNat d s n ww <;> simp [h] at h0 ⊢
    rcases words_cases op d s n ww with ⟨hl, hw⟩ | ⟨hl, hw⟩
    · exact back_2 op d s n ww a b ha hb h1 hok hl w hs
    · obtain rfl := (O.back h1 hok).2.2.2.2.2.1 hw
      exact back_1 op d s n a b ha hb h1 hok hl w hs
set_option maxRecDepth 100000 in
theorem orderBack_walk : OrderBackWalk := by
  intro H enc W base v0 v1 v2 d0 d1 d2 p0 p1 p2 hs k0 t0 k1 t1 k2 t2
  obtain ⟨op, d, s, n, ww, rfl, _⟩ := open_order k0 t0
  obtain ⟨a, rfl, _, _, wa⟩ := open_int Tryd.underlying22 k1 t1
  obtain ⟨b, rfl, _, _, wb⟩ := open_int Tryd.underlying22 k2 t2
  exact back_any op d s n ww a b (bounds_u16 wa) (bounds_u16 wb) W hs
theorem orderBack_holds : Rows.OrderBackCardSaid := orderBack_card orderBack_walk
end Go.Proofs.YtgpijkcbehcaaabDoor
