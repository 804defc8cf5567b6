/-
  For every order and every number the law OrderWords of the program returns true and leaves its arguments as they were; its condition: the program's and the library's listed variables hold what the program's text lays (the card ties them).
-/
import Derived.Test.YtgpijkcbehcaaaaDoorRefCk
import Derived.Test.YtgpijkcbehcaaaaDoorRefW
import Derived.Test.YtgpijkcbehcaaaaDoorRefB
import Derived.Test.YtgpijkcbehcaaaaDoorOrdN
import Derived.Test.YtgpijkcbehcaaaaDoorOrdF
import Derived.Test.YtgpijkcbehcaaaaDoorOrderWordsFrame
import Derived.Lib.ConvBytes
namespace Go.Proofs.YtgpijkcbehcaaaaDoor
open Go.ChangeShapes Go.WideShapes Go.ChangeAt Go.RowKit
set_option linter.unusedVariables false

theorem name_K (k : Nat) (hk : k < 32) (h30 : k ≠ 30) (w : World) (hs : shapesAt w) :
    Calls Tryd.prog 6 #[.int .i64 k] w fun e w' => e = .returned (.tuple #[.string (K.name k), .int .i64 0]) ∧ Below w.heap.size w w' := by
  have h := name_yes k hk h30 w hs
  rw [show O.nameS k = K.name k by unfold O.nameS; rw [if_neg h30]] at h
  exact h
theorem cycles_L (k : Nat) (hk : k < 32) (h30 : k ≠ 30) (b : Bool) (hc : O.hasC k 119 = b) (w : World) (hs : shapesAt w) :
    Calls Tryd.prog 10 #[.int .i64 k] w fun e w' => e = .returned (.tuple #[.int .i64 (K.cyc k), .int .i64 (if b then 2 else 1), .int .i64 0]) ∧ Below w.heap.size w w' := by
  have h := cycles_yes k hk h30 w hs
  have e : lenOf (O.mask k) = if b then 2 else 1 := by
    have := O.mask_w k hk
    rw [hc] at this
    unfold lenOf
    cases b
    · rw [if_neg (by simpa using this.symm)]; rfl
    · rw [if_pos (by simpa using this.symm)]; rfl
  rw [e] at h
  exact h
theorem has_getD : ∀ k, k < 32 → ∀ i, i < (lets k).length → (((lets k).map fun b : UInt8 => (b.toNat : Int)).getD i 0) = (((K.has k).data.toList.getD i 0).toNat : Int) := by decide +kernel
theorem containsAny_h (k : Nat) (hk : k < 32) (b : Bool) (hb : O.hasC k 119 = b) (c : Nat) (W : World) (B : Nat) (hB : B = W.heap.size) :
    Calls Tryd.prog 14 #[.slice (some ⟨B, 0, none⟩) (K.has k).size c, .string ⟨#[119]⟩] (Lib.bytesWorld W 5 (K.has k)) fun e w' => e = .returned (.bool b) ∧ w' = Lib.bytesWorld W 5 (K.has k) := by
  subst hB
  have h := containsAny_k k hk W.heap.size c (Lib.bytesWorld W 5 (K.has k)) (fun i hi => by
    rw [has_getD k hk i hi]
    exact Lib.bytesWorld_cell W 5 (K.has k) i hi)
  rw [hb] at h
  exact h
theorem words_len (op d s n ww : Int) : (O.words op d s n ww).length ≤ 2 := by
  unfold O.words
  cases O.hasC op.toNat 119 <;> simp
theorem below_conv {w1 w7 w8 : World} {o : Obj} {e : TypeId} {s : ByteArray} (h : Below w1.heap.size w1 w7) (hw : w8 = Lib.bytesWorld (w7.alloc o) e s) : Below w1.heap.size w1 w8 := by
  rw [hw]; exact stp (stA h _) (Joins.below_bytesWorld _ _ _ _ (Nat.le_refl _))
set_option maxRecDepth 100000 in
set_option maxHeartbeats 800000 in
theorem ow_no_no (op d s n ww : Int) (h : (O.ck op d s n ww == 0) = false) (q : Int) (hq : O.isOp q = false) (w : World) (hF : Facts w) :
    Calls Tryd.prog 4 #[.agg #[.int .i64 op, .int .i64 d, .int .i64 s, .int .i64 n, .int .i64 ww], .int .i64 q] w fun e w' => e = .returned (.bool true) ∧ Below w.heap.size w w' := by
  have HF := hid (facts_alloc hF (o := .cells #[.int .i64 op, .int .i64 d, .int .i64 s, .int .i64 n, .int .i64 ww] 34))
  have H := hid h
  have h' : (O.ck op d s n ww != 0) = true := by simpa using h
  clear hF
  have HQ := hid hq
  clear hq
  go_enter Tryd.func4, Tryd.ntmps4
  go_wp2_with (first
    | (go_at_call 9; refine (words_no _ _ _ _ _ H.out _ HF.out.shapes).mono ?_; rintro e w1 ⟨rfl, hb1⟩)
    | (go_at_call 6; refine (name_no q HQ.out _ (HF.out.kept hb1).shapes).mono ?_; rintro e w2 ⟨rfl, hb2⟩)
    | (go_at_call 10; refine (cycles_no q HQ.out _ (HF.out.kept (stp hb1 hb2)).shapes).mono ?_; rintro e w3 ⟨rfl, hb3⟩; have C3 := stp hb2 hb3; have B3 := stp hb1 C3; obtain ⟨hc3, hf3⟩ := bcell B3)
    | (go_at_call 11; refine (ckr_any _ _ _ _ _ _ (HF.out.kept B3)).mono ?_; rintro e w4 ⟨rfl, hb4⟩; clear hc3 hf3)
    | (go_at_call 7; refine (orders_any _ (HF.out.kept (stp B3 hb4)).shapes).mono ?_; rintro e w5 ⟨rfl, hb5⟩; have C5 := stp (stp C3 hb4) hb5; have B5 := stp hb1 C5; obtain ⟨hc5, hf5⟩ := bcell B5)
    | (go_at_call 12; refine (check_any _ _ _ _ _ _ (HF.out.kept B5).shapes).mono ?_; rintro e w6 ⟨rfl, hb6⟩; have C6 := stp C5 hb6; have B6 := stp hb1 C6; clear hc5 hf5; obtain ⟨hc6, hf6⟩ := bcell B6)
    | (go_at_call 13; refine (isOp_any q _).mono ?_; rw [HQ.out]; rintro e w' ⟨rfl, rfl⟩))
  go_ret
  exact ⟨rfl, stp (stA (st0 _) _) B6⟩
set_option maxRecDepth 100000 in
set_option maxHeartbeats 800000 in
theorem ow_no_1 (op d s n ww : Int) (h : (O.ck op d s n ww == 0) = false) (k : Nat) (hk : k < 32) (h30 : k ≠ 30) (hc : O.hasC k 119 = false) (w : World) (hF : Facts w) :
    Calls Tryd.prog 4 #[.agg #[.int .i64 op, .int .i64 d, .int .i64 s, .int .i64 n, .int .i64 ww], .int .i64 k] w fun e w' => e = .returned (.bool true) ∧ Below w.heap.size w w' := by
  have HF := hid (facts_alloc hF (o := .cells #[.int .i64 op, .int .i64 d, .int .i64 s, .int .i64 n, .int .i64 ww] 34))
  have H := hid h
  have h' : (O.ck op d s n ww != 0) = true := by simpa using h
  clear hF
  have HC := hid hc
  have hki : (0 : Int) ≤ k := by omega
  have hki2 : (k : Int) < 32 := by omega
  have cv := fun w => Lib.run_convert_string_bytes (P := Tryd.prog) w 9 43 5 (K.has k) Tryd.underlying9 Tryd.underlying43 Tryd.underlying5
  clear hc
  go_enter Tryd.func4, Tryd.ntmps4
  go_wp2_with (first
    | (go_at_call 9; refine (words_no _ _ _ _ _ H.out _ HF.out.shapes).mono ?_; rintro e w1 ⟨rfl, hb1⟩)
    | (go_at_call 6; refine (name_K k hk h30 _ (HF.out.kept hb1).shapes).mono ?_; rintro e w2 ⟨rfl, hb2⟩)
    | (go_at_call 10; refine (cycles_L k hk h30 false HC.out _ (HF.out.kept (stp hb1 hb2)).shapes).mono ?_; rintro e w3 ⟨rfl, hb3⟩; have C3 := stp hb2 hb3; have B3 := stp hb1 C3; obtain ⟨hc3, hf3⟩ := bcell B3)
    | (go_at_call 11; refine (ckr_any _ _ _ _ _ _ (HF.out.kept B3)).mono ?_; rintro e w4 ⟨rfl, hb4⟩; clear hc3 hf3)
    | (go_at_call 7; refine (orders_any _ (HF.out.kept (stp B3 hb4)).shapes).mono ?_; rintro e w5 ⟨rfl, hb5⟩; have C5 := stp (stp C3 hb4) hb5; have B5 := stp hb1 C5; obtain ⟨hc5, hf5⟩ := bcell B5)
    | (go_at_call 12; refine (check_any _ _ _ _ _ _ (HF.out.kept B5).shapes).mono ?_; rintro e w6 ⟨rfl, hb6⟩; have C6 := stp C5 hb6; have B6 := stp hb1 C6; clear hc5 hf5; obtain ⟨hc6, hf6⟩ := bcell B6)
    | (go_at_call 13; refine (isOp_any _ _).mono ?_; rw [(O.isOp_iff (k : Int)).2 (by omega)]; rintro e w' ⟨rfl, rfl⟩)
    | (go_at_call 5; refine (kinds_of _ (HF.out.kept B6)).mono ?_; rintro e w7 ⟨gk, cap, rfl, htb, _, hgk, hb7⟩; obtain ⟨c0, c1, c2⟩ := htb k hk; clear htb hc6 hf6; have C7 := stp C6 hb7; have B7 := stp hb1 C7)
    | (go_at_call 14; refine (containsAny_h k hk false HC.out _ (w7.alloc (.cells #[.string (K.name k), .string (K.has k), .int .i64 (K.cyc k)] 28)) (w7.heap.size + 1) (by simp)).mono ?_; rintro e w8 ⟨rfl, hw8⟩; have C8 := below_conv C7 hw8; have B8 := stp hb1 C8; clear hw8))
  go_ret
  exact ⟨rfl, stp (stA (st0 _) _) B8⟩
set_option maxRecDepth 100000 in
set_option maxHeartbeats 800000 in
theorem ow_no_2 (op d s n ww : Int) (h : (O.ck op d s n ww == 0) = false) (k : Nat) (hk : k < 32) (h30 : k ≠ 30) (hc : O.hasC k 119 = true) (w : World) (hF : Facts w) :
    Calls Tryd.prog 4 #[.agg #[.int .i64 op, .int .i64 d, .int .i64 s, .int .i64 n, .int .i64 ww], .int .i64 k] w fun e w' => e = .returned (.bool true) ∧ Below w.heap.size w w' := by
  have HF := hid (facts_alloc hF (o := .cells #[.int .i64 op, .int .i64 d, .int .i64 s, .int .i64 n, .int .i64 ww] 34))
  have H := hid h
  have h' : (O.ck op d s n ww != 0) = true := by simpa using h
  clear hF
  have HC := hid hc
  have hki : (0 : Int) ≤ k := by omega
  have hki2 : (k : Int) < 32 := by omega
  have cv := fun w => Lib.run_convert_string_bytes (P := Tryd.prog) w 9 43 5 (K.has k) Tryd.underlying9 Tryd.underlying43 Tryd.underlying5
  clear hc
  go_enter Tryd.func4, Tryd.ntmps4
  go_wp2_with (first
    | (go_at_call 9; refine (words_no _ _ _ _ _ H.out _ HF.out.shapes).mono ?_; rintro e w1 ⟨rfl, hb1⟩)
    | (go_at_call 6; refine (name_K k hk h30 _ (HF.out.kept hb1).shapes).mono ?_; rintro e w2 ⟨rfl, hb2⟩)
    | (go_at_call 10; refine (cycles_L k hk h30 true HC.out _ (HF.out.kept (stp hb1 hb2)).shapes).mono ?_; rintro e w3 ⟨rfl, hb3⟩; have C3 := stp hb2 hb3; have B3 := stp hb1 C3; obtain ⟨hc3, hf3⟩ := bcell B3)
    | (go_at_call 11; refine (ckr_any _ _ _ _ _ _ (HF.out.kept B3)).mono ?_; rintro e w4 ⟨rfl, hb4⟩; clear hc3 hf3)
    | (go_at_call 7; refine (orders_any _ (HF.out.kept (stp B3 hb4)).shapes).mono ?_; rintro e w5 ⟨rfl, hb5⟩; have C5 := stp (stp C3 hb4) hb5; have B5 := stp hb1 C5; obtain ⟨hc5, hf5⟩ := bcell B5)
    | (go_at_call 12; refine (check_any _ _ _ _ _ _ (HF.out.kept B5).shapes).mono ?_; rintro e w6 ⟨rfl, hb6⟩; have C6 := stp C5 hb6; have B6 := stp hb1 C6; clear hc5 hf5; obtain ⟨hc6, hf6⟩ := bcell B6)
    | (go_at_call 13; refine (isOp_any _ _).mono ?_; rw [(O.isOp_iff (k : Int)).2 (by omega)]; rintro e w' ⟨rfl, rfl⟩)
    | (go_at_call 5; refine (kinds_of _ (HF.out.kept B6)).mono ?_; rintro e w7 ⟨gk, cap, rfl, htb, _, hgk, hb7⟩; obtain ⟨c0, c1, c2⟩ := htb k hk; clear htb hc6 hf6; have C7 := stp C6 hb7; have B7 := stp hb1 C7)
    | (go_at_call 14; refine (containsAny_h k hk true HC.out _ (w7.alloc (.cells #[.string (K.name k), .string (K.has k), .int .i64 (K.cyc k)] 28)) (w7.heap.size + 1) (by simp)).mono ?_; rintro e w8 ⟨rfl, hw8⟩; have C8 := below_conv C7 hw8; have B8 := stp hb1 C8; clear hw8))
  go_ret
  exact ⟨rfl, stp (stA (st0 _) _) B8⟩
set_option maxRecDepth 100000 in
set_option maxHeartbeats 800000 in
theorem ow_ok_no (op d s n ww : Int) (h1 : O.isOp op = true) (hok : O.okB op.toNat d s n ww = true) (q : Int) (hq : O.isOp q = false) (w : World) (hF : Facts w) :
    Calls Tryd.prog 4 #[.agg #[.int .i64 op, .int .i64 d, .int .i64 s, .int .i64 n, .int .i64 ww], .int .i64 q] w fun e w' => e = .returned (.bool true) ∧ Below w.heap.size w w' := by
  have HF := hid (facts_alloc hF (o := .cells #[.int .i64 op, .int .i64 d, .int .i64 s, .int .i64 n, .int .i64 ww] 34))
  have hck : O.ck op d s n ww = 0 := by unfold O.ck; rw [h1, hok]; rfl
  have HK := hid hck
  have H1 := hid h1
  have HO := hid hok
  clear hck h1 hok hF
  have HQ := hid hq
  clear hq
  go_enter Tryd.func4, Tryd.ntmps4
  go_wp2_with (first
    | (go_at_call 9; refine (words_yes _ _ _ _ _ H1.out HO.out _ HF.out.shapes).mono ?_; rintro e w1 ⟨g, rfl, hw1, _, hg1, hb1⟩)
    | (go_at_call 6; refine (name_no q HQ.out _ (HF.out.kept hb1).shapes).mono ?_; rintro e w2 ⟨rfl, hb2⟩)
    | (go_at_call 10; refine (cycles_no q HQ.out _ (HF.out.kept (stp hb1 hb2)).shapes).mono ?_; rintro e w3 ⟨rfl, hb3⟩; have C3 := stp hb2 hb3; have B3 := stp hb1 C3; obtain ⟨hc3, hf3⟩ := bcell B3)
    | (go_at_call 11; refine (ckr_any _ _ _ _ _ _ (HF.out.kept B3)).mono ?_; rw [HK.out]; rintro e w4 ⟨rfl, hb4⟩; clear hc3 hf3)
    | (go_at_call 7; refine (orders_any _ (HF.out.kept (stp B3 hb4)).shapes).mono ?_; rintro e w5 ⟨rfl, hb5⟩; have C5 := stp (stp C3 hb4) hb5; have B5 := stp hb1 C5; obtain ⟨hc5, hf5⟩ := bcell B5)
    | (go_at_call 12; refine (check_any _ _ _ _ _ _ (HF.out.kept B5).shapes).mono ?_; rw [HK.out]; rintro e w6 ⟨rfl, hb6⟩; have C6 := stp C5 hb6; have B6 := stp hb1 C6; clear hc5 hf5; obtain ⟨hc6, hf6⟩ := bcell B6)
    | (go_at_call 13; refine (isOp_any q _).mono ?_; rw [HQ.out]; rintro e w' ⟨rfl, rfl⟩)
    | (go_at_call 16; refine (wordsOf_any _ _ _ _ _ H1.out HO.out _ (HF.out.kept B6)).mono ?_; rintro e w9 ⟨g9, c9, rfl, hcc, hw9, hg9, hb9⟩)
    | (go_at_call 15; refine (equal_same g g9 _ _ c9 (O.words op d s n ww) _ rfl (words_len _ _ _ _ _) (hw1.kept (stp C6 hb9) hg1) hw9 (Nat.le_refl _) hcc).mono ?_; rintro e w' ⟨rfl, qq, rfl⟩))
  go_ret
  exact ⟨rfl, below_draws (stp (stA (st0 _) _) (stp B6 hb9)) _⟩
set_option maxRecDepth 100000 in
set_option maxHeartbeats 800000 in
theorem ow_ok_1 (op d s n ww : Int) (h1 : O.isOp op = true) (hok : O.okB op.toNat d s n ww = true) (k : Nat) (hk : k < 32) (h30 : k ≠ 30) (hc : O.hasC k 119 = false) (w : World) (hF : Facts w) :
    Calls Tryd.prog 4 #[.agg #[.int .i64 op, .int .i64 d, .int .i64 s, .int .i64 n, .int .i64 ww], .int .i64 k] w fun e w' => e = .returned (.bool true) ∧ Below w.heap.size w w' := by
  have HF := hid (facts_alloc hF (o := .cells #[.int .i64 op, .int .i64 d, .int .i64 s, .int .i64 n, .int .i64 ww] 34))
  have hck : O.ck op d s n ww = 0 := by unfold O.ck; rw [h1, hok]; rfl
  have HK := hid hck
  have H1 := hid h1
  have HO := hid hok
  clear hck h1 hok hF
  have HC := hid hc
  have hki : (0 : Int) ≤ k := by omega
  have hki2 : (k : Int) < 32 := by omega
  have cv := fun w => Lib.run_convert_string_bytes (P := Tryd.prog) w 9 43 5 (K.has k) Tryd.underlying9 Tryd.underlying43 Tryd.underlying5
  clear hc
  go_enter Tryd.func4, Tryd.ntmps4
  go_wp2_with (first
    | (go_at_call 9; refine (words_yes _ _ _ _ _ H1.out HO.out _ HF.out.shapes).mono ?_; rintro e w1 ⟨g, rfl, hw1, _, hg1, hb1⟩)
    | (go_at_call 6; refine (name_K k hk h30 _ (HF.out.kept hb1).shapes).mono ?_; rintro e w2 ⟨rfl, hb2⟩)
    | (go_at_call 10; refine (cycles_L k hk h30 false HC.out _ (HF.out.kept (stp hb1 hb2)).shapes).mono ?_; rintro e w3 ⟨rfl, hb3⟩; have C3 := stp hb2 hb3; have B3 := stp hb1 C3; obtain ⟨hc3, hf3⟩ := bcell B3)
    | (go_at_call 11; refine (ckr_any _ _ _ _ _ _ (HF.out.kept B3)).mono ?_; rw [HK.out]; rintro e w4 ⟨rfl, hb4⟩; clear hc3 hf3)
    | (go_at_call 7; refine (orders_any _ (HF.out.kept (stp B3 hb4)).shapes).mono ?_; rintro e w5 ⟨rfl, hb5⟩; have C5 := stp (stp C3 hb4) hb5; have B5 := stp hb1 C5; obtain ⟨hc5, hf5⟩ := bcell B5)
    | (go_at_call 12; refine (check_any _ _ _ _ _ _ (HF.out.kept B5).shapes).mono ?_; rw [HK.out]; rintro e w6 ⟨rfl, hb6⟩; have C6 := stp C5 hb6; have B6 := stp hb1 C6; clear hc5 hf5; obtain ⟨hc6, hf6⟩ := bcell B6)
    | (go_at_call 13; refine (isOp_any _ _).mono ?_; rw [(O.isOp_iff (k : Int)).2 (by omega)]; rintro e w' ⟨rfl, rfl⟩)
    | (go_at_call 5; refine (kinds_of _ (HF.out.kept B6)).mono ?_; rintro e w7 ⟨gk, cap, rfl, htb, _, hgk, hb7⟩; obtain ⟨c0, c1, c2⟩ := htb k hk; clear htb hc6 hf6; have C7 := stp C6 hb7; have B7 := stp hb1 C7)
    | (go_at_call 14; refine (containsAny_h k hk false HC.out _ (w7.alloc (.cells #[.string (K.name k), .string (K.has k), .int .i64 (K.cyc k)] 28)) (w7.heap.size + 1) (by simp)).mono ?_; rintro e w8 ⟨rfl, hw8⟩; have C8 := below_conv C7 hw8; have B8 := stp hb1 C8; clear hw8; obtain ⟨hc8, hf8⟩ := bcell B8)
    | (go_at_call 16; refine (wordsOf_any _ _ _ _ _ H1.out HO.out _ (HF.out.kept B8)).mono ?_; rintro e w9 ⟨g9, c9, rfl, hcc, hw9, hg9, hb9⟩)
    | (go_at_call 15; refine (equal_same g g9 _ _ c9 (O.words op d s n ww) _ rfl (words_len _ _ _ _ _) (hw1.kept (stp C8 hb9) hg1) hw9 (Nat.le_refl _) hcc).mono ?_; rintro e w' ⟨rfl, qq, rfl⟩))
  go_ret
  exact ⟨rfl, below_draws (stp (stA (st0 _) _) (stp B8 hb9)) _⟩
set_option maxRecDepth 100000 in
set_option maxHeartbeats 800000 in
theorem ow_ok_2 (op d s n ww : Int) (h1 : O.isOp op = true) (hok : O.okB op.toNat d s n ww = true) (k : Nat) (hk : k < 32) (h30 : k ≠ 30) (hc : O.hasC k 119 = true) (w : World) (hF : Facts w) :
    Calls Tryd.prog 4 #[.agg #[.int .i64 op, .int .i64 d, .int .i64 s, .int .i64 n, .int .i64 ww], .int .i64 k] w fun e w' => e = .returned (.bool true) ∧ Below w.heap.size w w' := by
  have HF := hid (facts_alloc hF (o := .cells #[.int .i64 op, .int .i64 d, .int .i64 s, .int .i64 n, .int .i64 ww] 34))
  have hck : O.ck op d s n ww = 0 := by unfold O.ck; rw [h1, hok]; rfl
  have HK := hid hck
  have H1 := hid h1
  have HO := hid hok
  clear hck h1 hok hF
  have HC := hid hc
  have hki : (0 : Int) ≤ k := by omega
  have hki2 : (k : Int) < 32 := by omega
  have cv := fun w => Lib.run_convert_string_bytes (P := Tryd.prog) w 9 43 5 (K.has k) Tryd.underlying9 Tryd.underlying43 Tryd.underlying5
  clear hc
  go_enter Tryd.func4, Tryd.ntmps4
  go_wp2_with (first
    | (go_at_call 9; refine (words_yes _ _ _ _ _ H1.out HO.out _ HF.out.shapes).mono ?_; rintro e w1 ⟨g, rfl, hw1, _, hg1, hb1⟩)
    | (go_at_call 6; refine (name_K k hk h30 _ (HF.out.kept hb1).shapes).mono ?_; rintro e w2 ⟨rfl, hb2⟩)
    | (go_at_call 10; refine (cycles_L k hk h30 true HC.out _ (HF.out.kept (stp hb1 hb2)).shapes).mono ?_; rintro e w3 ⟨rfl, hb3⟩; have C3 := stp hb2 hb3; have B3 := stp hb1 C3; obtain ⟨hc3, hf3⟩ := bcell B3)
    | (go_at_call 11; refine (ckr_any _ _ _ _ _ _ (HF.out.kept B3)).mono ?_; rw [HK.out]; rintro e w4 ⟨rfl, hb4⟩; clear hc3 hf3)
    | (go_at_call 7; refine (orders_any _ (HF.out.kept (stp B3 hb4)).shapes).mono ?_; rintro e w5 ⟨rfl, hb5⟩; have C5 := stp (stp C3 hb4) hb5; have B5 := stp hb1 C5; obtain ⟨hc5, hf5⟩ := bcell B5)
    | (go_at_call 12; refine (check_any _ _ _ _ _ _ (HF.out.kept B5).shapes).mono ?_; rw [HK.out]; rintro e w6 ⟨rfl, hb6⟩; have C6 := stp C5 hb6; have B6 := stp hb1 C6; clear hc5 hf5; obtain ⟨hc6, hf6⟩ := bcell B6)
    | (go_at_call 13; refine (isOp_any _ _).mono ?_; rw [(O.isOp_iff (k : Int)).2 (by omega)]; rintro e w' ⟨rfl, rfl⟩)
    | (go_at_call 5; refine (kinds_of _ (HF.out.kept B6)).mono ?_; rintro e w7 ⟨gk, cap, rfl, htb, _, hgk, hb7⟩; obtain ⟨c0, c1, c2⟩ := htb k hk; clear htb hc6 hf6; have C7 := stp C6 hb7; have B7 := stp hb1 C7)
    | (go_at_call 14; refine (containsAny_h k hk true HC.out _ (w7.alloc (.cells #[.string (K.name k), .string (K.has k), .int .i64 (K.cyc k)] 28)) (w7.heap.size + 1) (by simp)).mono ?_; rintro e w8 ⟨rfl, hw8⟩; have C8 := below_conv C7 hw8; have B8 := stp hb1 C8; clear hw8; obtain ⟨hc8, hf8⟩ := bcell B8)
    | (go_at_call 16; refine (wordsOf_any _ _ _ _ _ H1.out HO.out _ (HF.out.kept B8)).mono ?_; rintro e w9 ⟨g9, c9, rfl, hcc, hw9, hg9, hb9⟩)
    | (go_at_call 15; refine (equal_same g g9 _ _ c9 (O.words op d s n ww) _ rfl (words_len _ _ _ _ _) (hw1.kept (stp C8 hb9) hg1) hw9 (Nat.le_refl _) hcc).mono ?_; rintro e w' ⟨rfl, qq, rfl⟩))
  go_ret
  exact ⟨rfl, below_draws (stp (stA (st0 _) _) (stp B8 hb9)) _⟩
theorem ow_any (op d s n ww q : Int) (w : World) (hF : Facts w) :
    Calls Tryd.prog 4 #[.agg #[.int .i64 op, .int .i64 d, .int .i64 s, .int .i64 n, .int .i64 ww], .int .i64 q] w fun e w' => e = .returned (.bool true) ∧ Below w.heap.size w w' := by
  have hq : O.isOp q = false ∨ ∃ k : Nat, q = k ∧ k < 32 ∧ k ≠ 30 := by
    cases h : O.isOp q
    · exact Or.inl rfl
    · obtain ⟨h1, h2, h3⟩ := (O.isOp_iff q).1 h
      obtain ⟨k, rfl⟩ := Int.eq_ofNat_of_zero_le h1
      exact Or.inr ⟨k, rfl, by omega, by omega⟩
  cases hc : (O.ck op d s n ww == 0)
  · rcases hq with hq | ⟨k, rfl, hk, h30⟩
    · exact ow_no_no op d s n ww hc q hq w hF
    · cases hw : O.hasC k 119
      · exact ow_no_1 op d s n ww hc k hk h30 hw w hF
      · exact ow_no_2 op d s n ww hc k hk h30 hw w hF
  · have h0 : O.ck op d s n ww = 0 := by simpa using hc
    unfold O.ck at h0
    have h1 : O.isOp op = true := by cases h : O.isOp op <;> simp [h] at h0 ⊢
    rw [h1] at h0
    have hok : O.okB op.toNat d s n ww = true := by cases h : O.okB op.toNat d s n ww <;> simp [h] at h0 ⊢
    rcases hq with hq | ⟨k, rfl, hk, h30⟩
    · exact ow_ok_no op d s n ww h1 hok q hq w hF
    · cases hw : O.hasC k 119
      · exact ow_ok_1 op d s n ww h1 hok k hk h30 hw w hF
      · exact ow_ok_2 op d s n ww h1 hok k hk h30 hw w hF
set_option maxRecDepth 100000 in
theorem orderWords_walk : OrderWordsWalk := by
  intro H enc W base v0 v1 d0 d1 p0 p1 hF k0 t0 k1 t1
  obtain ⟨op, d, s, n, ww, rfl, _⟩ := open_order k0 t0
  obtain ⟨q, rfl, _, _, _⟩ := open_int Tryd.underlying3 k1 t1
  exact ow_any op d s n ww q W hF
theorem orderWords_holds : Rows.OrderWordsCardSaid := orderWords_card orderWords_walk
end Go.Proofs.YtgpijkcbehcaaaaDoor
