/-
  What package order's Read answers where the shape's number is 7, 8, 9 or 17; nothing old is written.
-/
import Derived.Test.YtdjhlfoapieohaaGreatDoorOrdE
namespace Go.Proofs.YtdjhlfoapieohaaGreatDoor
open Go.ChangeShapes Go.WideShapes Go.ChangeAt Go.RowKit
set_option linter.unusedVariables false

set_option maxRecDepth 100000 in
set_option maxHeartbeats 1600000 in
theorem read_7 (k : Nat) (hk : k < 32) (h30 : k ≠ 30) (hm : O.mask k = 7) (a b : Int) (ha : 0 ≤ a) (ha' : a ≤ 65535) (hb : 0 ≤ b) (hb' : b ≤ 65535) (hak : a / 2048 = k) (w : World) (hs : shapesAt w) :
    Calls Tryz.prog 66 #[.int .u16 a, .int .u16 b] w fun e w' => e = .returned (.tuple #[.agg #[.int .i64 k, .int .i64 (a / 256 % 8), .int .i64 (a / 32 % 8), .int .i64 (M.low a 5), .int .i64 (0)], .int .i64 1]) ∧ Below w.heap.size w w' := by
  have hwd := words_any (.string (O.nameS k)) (.int .i64 (K.cyc k)) k hk
  have HS := hid hs
  have HM := hid hm
  have HW := hid hwd
  rw [hm] at HW
  have eD := (and_mod (a / 256) (by omega) (by omega)).1
  have eS := (and_mod (a / 32) (by omega) (by omega)).1
  clear hs hm hwd
  go_enter Tryz.func66, Tryz.ntmps66
  go_wp2_with (first
    | (go_at_call 75; refine (shape_yes k hk h30 _ (shapes_alloc HS.out _)).mono ?_; rw [HM.out]; rintro e w1 ⟨rfl, hb1⟩; obtain ⟨hc1, hf1⟩ := bcell hb1; have hz1 : w.heap.size < w1.heap.size := by have := hb1.size; simp at this; omega)
    | (go_at_call 92; refine (signed_yes _ _ _ (by omega) (by omega) (by omega) (by omega)).mono ?_; rintro e w' ⟨rfl, rfl⟩))
  clear eD eS
  go_region_held3 (fun w' => w'.cell? ⟨w1.heap.size, 0, none⟩ = some (.string (O.nameS k)) ∧ w'.cell? ⟨w1.heap.size, 1, none⟩ = some (.int .i64 (K.cyc k)) ∧ w'.cell? ⟨w1.heap.size, 2, none⟩ = some (.int .i64 7) ∧ w'.cell? ⟨w1.heap.size + 1, 0, none⟩ = some (.int .i64 (k)) ∧ w'.cell? ⟨w1.heap.size + 1, 1, none⟩ = some (.int .i64 (a / 256 % 8)) ∧ w'.cell? ⟨w1.heap.size + 1, 2, none⟩ = some (.int .i64 (a / 32 % 8)) ∧ w'.cell? ⟨w1.heap.size + 1, 3, none⟩ = some (.int .i64 (M.low a 5)) ∧ w'.cell? ⟨w1.heap.size + 1, 4, none⟩ = some (.int .i64 (0)))
    (first
      | with_reducible exact held8 hb2
      | with_reducible exact held8s hz1 (by assumption)
      | (go_keep; done))
    ((go_at_call 93; refine (HW.out _).mono ?_; rintro e w2 ⟨rfl, hb2⟩; obtain ⟨hc2, hf2⟩ := newRes hb1 hb2))
  go_wp2
  refine bodyPost_ret (v := .tuple #[.agg #[.int .i64 k, .int .i64 (a / 256 % 8), .int .i64 (a / 32 % 8), .int .i64 (M.low a 5), .int .i64 (0)], .int .i64 1]) (by simp [results, Tryz.results66, go_sem, hc2, lenOf]) rfl ⟨rfl, ?_⟩
  exact (((((stp (stA (stA (stp (stA (st0 _) _) hb1) _) _).drew hb2).setCell (Nat.le_refl _) _).setCell (Nat.le_refl _) _).setCell (Nat.le_refl _) _).setCell (Nat.le_refl _) _).setCell (Nat.le_refl _) _
set_option maxRecDepth 100000 in
set_option maxHeartbeats 1600000 in
theorem read_8 (k : Nat) (hk : k < 32) (h30 : k ≠ 30) (hm : O.mask k = 8) (a b : Int) (ha : 0 ≤ a) (ha' : a ≤ 65535) (hb : 0 ≤ b) (hb' : b ≤ 65535) (hak : a / 2048 = k) (w : World) (hs : shapesAt w) :
    Calls Tryz.prog 66 #[.int .u16 a, .int .u16 b] w fun e w' => e = .returned (.tuple #[.agg #[.int .i64 k, .int .i64 (0), .int .i64 (0), .int .i64 (0), .int .i64 (b)], .int .i64 2]) ∧ Below w.heap.size w w' := by
  have hwd := words_any (.string (O.nameS k)) (.int .i64 (K.cyc k)) k hk
  have HS := hid hs
  have HM := hid hm
  have HW := hid hwd
  rw [hm] at HW
  clear hs hm hwd
  go_enter Tryz.func66, Tryz.ntmps66
  go_wp2_with (first
    | (go_at_call 75; refine (shape_yes k hk h30 _ (shapes_alloc HS.out _)).mono ?_; rw [HM.out]; rintro e w1 ⟨rfl, hb1⟩; obtain ⟨hc1, hf1⟩ := bcell hb1; have hz1 : w.heap.size < w1.heap.size := by have := hb1.size; simp at this; omega))
  go_region_held3 (fun w' => w'.cell? ⟨w1.heap.size, 0, none⟩ = some (.string (O.nameS k)) ∧ w'.cell? ⟨w1.heap.size, 1, none⟩ = some (.int .i64 (K.cyc k)) ∧ w'.cell? ⟨w1.heap.size, 2, none⟩ = some (.int .i64 8) ∧ w'.cell? ⟨w1.heap.size + 1, 0, none⟩ = some (.int .i64 (k)) ∧ w'.cell? ⟨w1.heap.size + 1, 1, none⟩ = some (.int .i64 (0)) ∧ w'.cell? ⟨w1.heap.size + 1, 2, none⟩ = some (.int .i64 (0)) ∧ w'.cell? ⟨w1.heap.size + 1, 3, none⟩ = some (.int .i64 (0)) ∧ w'.cell? ⟨w1.heap.size + 1, 4, none⟩ = some (.int .i64 (b)))
    (first
      | with_reducible exact held8 hb2
      | with_reducible exact held8s hz1 (by assumption)
      | (go_keep; done))
    ((go_at_call 93; refine (HW.out _).mono ?_; rintro e w2 ⟨rfl, hb2⟩; obtain ⟨hc2, hf2⟩ := newRes hb1 hb2))
  go_wp2
  refine bodyPost_ret (v := .tuple #[.agg #[.int .i64 k, .int .i64 (0), .int .i64 (0), .int .i64 (0), .int .i64 (b)], .int .i64 2]) (by simp [results, Tryz.results66, go_sem, hc2, lenOf]) rfl ⟨rfl, ?_⟩
  exact (((((stp (stA (stA (stp (stA (st0 _) _) hb1) _) _).drew hb2).setCell (Nat.le_refl _) _).setCell (Nat.le_refl _) _).setCell (Nat.le_refl _) _).setCell (Nat.le_refl _) _).setCell (Nat.le_refl _) _
set_option maxRecDepth 100000 in
set_option maxHeartbeats 1600000 in
theorem read_9 (k : Nat) (hk : k < 32) (h30 : k ≠ 30) (hm : O.mask k = 9) (a b : Int) (ha : 0 ≤ a) (ha' : a ≤ 65535) (hb : 0 ≤ b) (hb' : b ≤ 65535) (hak : a / 2048 = k) (w : World) (hs : shapesAt w) :
    Calls Tryz.prog 66 #[.int .u16 a, .int .u16 b] w fun e w' => e = .returned (.tuple #[.agg #[.int .i64 k, .int .i64 (a / 256 % 8), .int .i64 (0), .int .i64 (0), .int .i64 (b)], .int .i64 2]) ∧ Below w.heap.size w w' := by
  have hwd := words_any (.string (O.nameS k)) (.int .i64 (K.cyc k)) k hk
  have HS := hid hs
  have HM := hid hm
  have HW := hid hwd
  rw [hm] at HW
  have eD := (and_mod (a / 256) (by omega) (by omega)).1
  clear hs hm hwd
  go_enter Tryz.func66, Tryz.ntmps66
  go_wp2_with (first
    | (go_at_call 75; refine (shape_yes k hk h30 _ (shapes_alloc HS.out _)).mono ?_; rw [HM.out]; rintro e w1 ⟨rfl, hb1⟩; obtain ⟨hc1, hf1⟩ := bcell hb1; have hz1 : w.heap.size < w1.heap.size := by have := hb1.size; simp at this; omega))
  clear eD
  go_region_held3 (fun w' => w'.cell? ⟨w1.heap.size, 0, none⟩ = some (.string (O.nameS k)) ∧ w'.cell? ⟨w1.heap.size, 1, none⟩ = some (.int .i64 (K.cyc k)) ∧ w'.cell? ⟨w1.heap.size, 2, none⟩ = some (.int .i64 9) ∧ w'.cell? ⟨w1.heap.size + 1, 0, none⟩ = some (.int .i64 (k)) ∧ w'.cell? ⟨w1.heap.size + 1, 1, none⟩ = some (.int .i64 (a / 256 % 8)) ∧ w'.cell? ⟨w1.heap.size + 1, 2, none⟩ = some (.int .i64 (0)) ∧ w'.cell? ⟨w1.heap.size + 1, 3, none⟩ = some (.int .i64 (0)) ∧ w'.cell? ⟨w1.heap.size + 1, 4, none⟩ = some (.int .i64 (b)))
    (first
      | with_reducible exact held8 hb2
      | with_reducible exact held8s hz1 (by assumption)
      | (go_keep; done))
    ((go_at_call 93; refine (HW.out _).mono ?_; rintro e w2 ⟨rfl, hb2⟩; obtain ⟨hc2, hf2⟩ := newRes hb1 hb2))
  go_wp2
  refine bodyPost_ret (v := .tuple #[.agg #[.int .i64 k, .int .i64 (a / 256 % 8), .int .i64 (0), .int .i64 (0), .int .i64 (b)], .int .i64 2]) (by simp [results, Tryz.results66, go_sem, hc2, lenOf]) rfl ⟨rfl, ?_⟩
  exact (((((stp (stA (stA (stp (stA (st0 _) _) hb1) _) _).drew hb2).setCell (Nat.le_refl _) _).setCell (Nat.le_refl _) _).setCell (Nat.le_refl _) _).setCell (Nat.le_refl _) _).setCell (Nat.le_refl _) _
set_option maxRecDepth 100000 in
set_option maxHeartbeats 1600000 in
theorem read_17 (k : Nat) (hk : k < 32) (h30 : k ≠ 30) (hm : O.mask k = 17) (a b : Int) (ha : 0 ≤ a) (ha' : a ≤ 65535) (hb : 0 ≤ b) (hb' : b ≤ 65535) (hak : a / 2048 = k) (w : World) (hs : shapesAt w) :
    Calls Tryz.prog 66 #[.int .u16 a, .int .u16 b] w fun e w' => e = .returned (.tuple #[.agg #[.int .i64 k, .int .i64 (a / 256 % 8), .int .i64 (0), .int .i64 (a % 16), .int .i64 (0)], .int .i64 1]) ∧ Below w.heap.size w w' := by
  have hwd := words_any (.string (O.nameS k)) (.int .i64 (K.cyc k)) k hk
  have HS := hid hs
  have HM := hid hm
  have HW := hid hwd
  rw [hm] at HW
  have eD := (and_mod (a / 256) (by omega) (by omega)).1
  have eN := (and_mod a ha ha').2
  clear hs hm hwd
  go_enter Tryz.func66, Tryz.ntmps66
  go_wp2_with (first
    | (go_at_call 75; refine (shape_yes k hk h30 _ (shapes_alloc HS.out _)).mono ?_; rw [HM.out]; rintro e w1 ⟨rfl, hb1⟩; obtain ⟨hc1, hf1⟩ := bcell hb1; have hz1 : w.heap.size < w1.heap.size := by have := hb1.size; simp at this; omega))
  clear eD eN
  go_region_held3 (fun w' => w'.cell? ⟨w1.heap.size, 0, none⟩ = some (.string (O.nameS k)) ∧ w'.cell? ⟨w1.heap.size, 1, none⟩ = some (.int .i64 (K.cyc k)) ∧ w'.cell? ⟨w1.heap.size, 2, none⟩ = some (.int .i64 17) ∧ w'.cell? ⟨w1.heap.size + 1, 0, none⟩ = some (.int .i64 (k)) ∧ w'.cell? ⟨w1.heap.size + 1, 1, none⟩ = some (.int .i64 (a / 256 % 8)) ∧ w'.cell? ⟨w1.heap.size + 1, 2, none⟩ = some (.int .i64 (0)) ∧ w'.cell? ⟨w1.heap.size + 1, 3, none⟩ = some (.int .i64 (a % 16)) ∧ w'.cell? ⟨w1.heap.size + 1, 4, none⟩ = some (.int .i64 (0)))
    (first
      | with_reducible exact held8 hb2
      | with_reducible exact held8s hz1 (by assumption)
      | (go_keep; done))
    ((go_at_call 93; refine (HW.out _).mono ?_; rintro e w2 ⟨rfl, hb2⟩; obtain ⟨hc2, hf2⟩ := newRes hb1 hb2))
  go_wp2
  refine bodyPost_ret (v := .tuple #[.agg #[.int .i64 k, .int .i64 (a / 256 % 8), .int .i64 (0), .int .i64 (a % 16), .int .i64 (0)], .int .i64 1]) (by simp [results, Tryz.results66, go_sem, hc2, lenOf]) rfl ⟨rfl, ?_⟩
  exact (((((stp (stA (stA (stp (stA (st0 _) _) hb1) _) _).drew hb2).setCell (Nat.le_refl _) _).setCell (Nat.le_refl _) _).setCell (Nat.le_refl _) _).setCell (Nat.le_refl _) _).setCell (Nat.le_refl _) _
end Go.Proofs.YtdjhlfoapieohaaGreatDoor
