/-
  What package order's Check answers, for any order; nothing old is written.
-/
import Derived.Test.YtdjhlfoapieohaaGreatDoorOrdB
namespace Go.Proofs.YtdjhlfoapieohaaGreatDoor
open Go.ChangeShapes Go.WideShapes Go.ChangeAt Go.RowKit
set_option linter.unusedVariables false

theorem okTo_step {h : Int} {v : Nat → Int} {j : Nat} (a : okTo h v j) (b : O.inB h j (v j) = true) : okTo h v (j + 1) := fun i hi => by
  by_cases e : i < j
  · exact a i e
  · have : i = j := by omega
    subst this; exact b
theorem lim_at0 (x0 x1 x2 x3 : Value) (w : World) : (Instr.index 184 (.agg #[x0, x1, x2, x3]) (.int .i64 0)).run Tryz.prog w = .ok x0 w := by kernel_rfl
theorem lim_at1 (x0 x1 x2 x3 : Value) (w : World) : (Instr.index 184 (.agg #[x0, x1, x2, x3]) (.int .i64 1)).run Tryz.prog w = .ok x1 w := by kernel_rfl
theorem lim_at2 (x0 x1 x2 x3 : Value) (w : World) : (Instr.index 184 (.agg #[x0, x1, x2, x3]) (.int .i64 2)).run Tryz.prog w = .ok x2 w := by kernel_rfl
theorem lim_at3 (x0 x1 x2 x3 : Value) (w : World) : (Instr.index 184 (.agg #[x0, x1, x2, x3]) (.int .i64 3)).run Tryz.prog w = .ok x3 w := by kernel_rfl
set_option maxRecDepth 100000 in
set_option maxHeartbeats 1600000 in
theorem check_yes (k : Nat) (hk : k < 32) (h30 : k ≠ 30) (d s n ww : Int) (w : World) (hs : shapesAt w) :
    Calls Tryz.prog 94 #[.agg #[.int .i64 k, .int .i64 d, .int .i64 s, .int .i64 n, .int .i64 ww]] w fun e w' => e = .returned (.int .i64 (O.ck k d s n ww)) ∧ Below w.heap.size w w' := by
  have HS := hid hs
  clear hs
  go_enter Tryz.func94, Tryz.ntmps94
  go_wp2_with (first
    | (go_at_call 75; refine (shape_yes k hk h30 _ (shapes_alloc HS.out _)).mono ?_; rintro e w1 ⟨rfl, hb1⟩; obtain ⟨hc1, hf1⟩ := bcell hb1; have hz1 : w.heap.size < w1.heap.size := by have := hb1.size; simp at this; omega)
    | (go_at_call 119; refine (limits_any _ _ k hk _).mono ?_; rintro e w2 ⟨b0, b1, b2, b3, rfl, hL, hb2⟩; unfold limV; obtain ⟨hc2, hf2⟩ := bcell hb2))
  have hB : Below w.heap.size w w2 := stp (stA (stA (stp (stA (st0 _) _) hb1) _) _) hb2
  have v0 : w2.cell? ⟨w1.heap.size + 1, 0, none⟩ = some (.int .i64 d) := by rw [hc2 _ _ (by simp)]; exact cell_new _ _ _ _ (by simp)
  have v1 : w2.cell? ⟨w1.heap.size + 1, 1, none⟩ = some (.int .i64 s) := by rw [hc2 _ _ (by simp)]; exact cell_new _ _ _ _ (by simp)
  have v2 : w2.cell? ⟨w1.heap.size + 1, 2, none⟩ = some (.int .i64 n) := by rw [hc2 _ _ (by simp)]; exact cell_new _ _ _ _ (by simp)
  have v3 : w2.cell? ⟨w1.heap.size + 1, 3, none⟩ = some (.int .i64 ww) := by rw [hc2 _ _ (by simp)]; exact cell_new _ _ _ _ (by simp)
  clear hc1 hf1 hc2 hf2 hb1 hb2 HS
  obtain ⟨lo0, up0, lo1, up1, lo2, up2, lo3, up3⟩ := hL
  go_loop [28] (fun i => ∃ j : Nat, j ≤ 4 ∧ i = .int .i64 j ∧ okTo (O.mask k) (vals d s n ww) j) (fun i => 4 - (intOf i).toNat)
  case atStart => exact ⟨0, by omega, rfl, fun i hi => by omega⟩
  case round =>
    obtain ⟨j, hj, rfl, hok⟩ := hrel
    have OK := hid hok
    clear hok
    have hcs : j = 0 ∨ j = 1 ∨ j = 2 ∨ j = 3 ∨ j = 4 := by omega
    rcases hcs with rfl | rfl | rfl | rfl | rfl
    · have i0 := lim_at0
      by_cases hin : O.inR (O.lo (O.mask k) 0) (O.hi (O.mask k) 0) d = true
      · go_wp2_with (go_at_call 128; refine (in_any _ _ _ _ _ _ lo0 up0).mono ?_; rintro e w' ⟨rfl, rfl⟩)
        go_round
        case rel => exact ⟨1, by omega, by go_num, okTo_step OK.out hin⟩
        case measure => simp [intOf]
      · have hin' : O.inR (O.lo (O.mask k) 0) (O.hi (O.mask k) 0) d = false := by simpa using hin
        have HC := hid (okTo_not k hk d s n ww 0 (by omega) hin')
        clear hin
        go_wp2_with (go_at_call 128; refine (in_any _ _ _ _ _ _ lo0 up0).mono ?_; rintro e w' ⟨rfl, rfl⟩)
        go_ret
        rw [ck_yes hk h30, HC.out]
        exact ⟨rfl, hB⟩
    · have i0 := lim_at1
      by_cases hin : O.inR (O.lo (O.mask k) 1) (O.hi (O.mask k) 1) s = true
      · go_wp2_with (go_at_call 128; refine (in_any _ _ _ _ _ _ lo1 up1).mono ?_; rintro e w' ⟨rfl, rfl⟩)
        go_round
        case rel => exact ⟨2, by omega, by go_num, okTo_step OK.out hin⟩
        case measure => simp [intOf]
      · have hin' : O.inR (O.lo (O.mask k) 1) (O.hi (O.mask k) 1) s = false := by simpa using hin
        have HC := hid (okTo_not k hk d s n ww 1 (by omega) hin')
        clear hin
        go_wp2_with (go_at_call 128; refine (in_any _ _ _ _ _ _ lo1 up1).mono ?_; rintro e w' ⟨rfl, rfl⟩)
        go_ret
        rw [ck_yes hk h30, HC.out]
        exact ⟨rfl, hB⟩
    · have i0 := lim_at2
      by_cases hin : O.inR (O.lo (O.mask k) 2) (O.hi (O.mask k) 2) n = true
      · go_wp2_with (go_at_call 128; refine (in_any _ _ _ _ _ _ lo2 up2).mono ?_; rintro e w' ⟨rfl, rfl⟩)
        go_round
        case rel => exact ⟨3, by omega, by go_num, okTo_step OK.out hin⟩
        case measure => simp [intOf]
      · have hin' : O.inR (O.lo (O.mask k) 2) (O.hi (O.mask k) 2) n = false := by simpa using hin
        have HC := hid (okTo_not k hk d s n ww 2 (by omega) hin')
        clear hin
        go_wp2_with (go_at_call 128; refine (in_any _ _ _ _ _ _ lo2 up2).mono ?_; rintro e w' ⟨rfl, rfl⟩)
        go_ret
        rw [ck_yes hk h30, HC.out]
        exact ⟨rfl, hB⟩
    · have i0 := lim_at3
      by_cases hin : O.inR (O.lo (O.mask k) 3) (O.hi (O.mask k) 3) ww = true
      · go_wp2_with (go_at_call 128; refine (in_any _ _ _ _ _ _ lo3 up3).mono ?_; rintro e w' ⟨rfl, rfl⟩)
        go_round
        case rel => exact ⟨4, by omega, by go_num, okTo_step OK.out hin⟩
        case measure => simp [intOf]
      · have hin' : O.inR (O.lo (O.mask k) 3) (O.hi (O.mask k) 3) ww = false := by simpa using hin
        have HC := hid (okTo_not k hk d s n ww 3 (by omega) hin')
        clear hin
        go_wp2_with (go_at_call 128; refine (in_any _ _ _ _ _ _ lo3 up3).mono ?_; rintro e w' ⟨rfl, rfl⟩)
        go_ret
        rw [ck_yes hk h30, HC.out]
        exact ⟨rfl, hB⟩
    · have HC := hid (okTo_4 k hk d s n ww OK.out)
      go_wp2
      go_ret
      rw [ck_yes hk h30, HC.out]
      exact ⟨rfl, hB⟩
theorem check_any (op d s n ww : Int) (w : World) (hs : shapesAt w) :
    Calls Tryz.prog 94 #[.agg #[.int .i64 op, .int .i64 d, .int .i64 s, .int .i64 n, .int .i64 ww]] w fun e w' => e = .returned (.int .i64 (O.ck op d s n ww)) ∧ Below w.heap.size w w' := by
  cases h : O.isOp op
  · refine (check_no op d s n ww h w hs).mono fun e w' hh => ⟨hh.1.trans ?_, hh.2⟩
    unfold O.ck; rw [h]; rfl
  · obtain ⟨h1, h2, h3⟩ := (O.isOp_iff op).1 h
    obtain ⟨k, rfl⟩ := Int.eq_ofNat_of_zero_le h1
    exact check_yes k (by omega) (by omega) d s n ww w hs
end Go.Proofs.YtdjhlfoapieohaaGreatDoor
