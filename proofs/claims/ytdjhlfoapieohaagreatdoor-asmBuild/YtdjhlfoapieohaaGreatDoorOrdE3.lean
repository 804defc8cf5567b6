/-
  What package order's Read answers, for any two words; nothing old is written.
-/
import Derived.Test.YtdjhlfoapieohaaGreatDoorOrdE1
import Derived.Test.YtdjhlfoapieohaaGreatDoorOrdE2
namespace Go.Proofs.YtdjhlfoapieohaaGreatDoor
open Go.ChangeShapes Go.WideShapes Go.ChangeAt Go.RowKit
set_option linter.unusedVariables false

theorem lt_box {w w1 : World} {o : Obj} (hb : Below (w.alloc o).heap.size (w.alloc o) w1) : w.heap.size < w1.heap.size := by have := hb.size; simp at this; omega
theorem trapAt {w : World} (h : shapesAt w) : w.cell? ⟨3, 93, none⟩ = some (.string (O.nameS 31)) ∧ w.cell? ⟨3, 94, none⟩ = some (.int .i64 (K.cyc 31)) ∧ w.cell? ⟨3, 95, none⟩ = some (.int .i64 0) := by
  obtain ⟨a, b, c⟩ := h 31 (by omega)
  exact ⟨a, b, c⟩
set_option maxRecDepth 100000 in
set_option maxHeartbeats 1600000 in
theorem read_trap (a b : Int) (ha : 0 ≤ a) (ha' : a ≤ 65535) (hb : 0 ≤ b) (hb' : b ≤ 65535) (hak : a / 2048 = 30) (w : World) (hs : shapesAt w) :
    Calls Tryz.prog 66 #[.int .u16 a, .int .u16 b] w fun e w' => e = .returned (.tuple #[.agg #[.int .i64 31, .int .i64 0, .int .i64 0, .int .i64 0, .int .i64 0], .int .i64 1]) ∧ Below w.heap.size w w' := by
  have HW : Hid (∀ w : World, Calls Tryz.prog 93 #[.agg #[.string (O.nameS 31), .int .i64 (K.cyc 31), .int .i64 0]] w fun e w' => e = .returned (.int .i64 1) ∧ Below w.heap.size w w') := fun w => words_any (.string (O.nameS 31)) (.int .i64 (K.cyc 31)) 31 (by omega) w
  have HS := hid hs
  have hg : 3 < w.heap.size := hs.lt
  clear hs
  go_enter Tryz.func66, Tryz.ntmps66
  go_wp2_with (first
    | (go_at_call 75; refine (shape_no 30 (by decide) _ (shapes_alloc HS.out _)).mono ?_; rintro e w1 ⟨rfl, hb1⟩; obtain ⟨c0, c1, c2⟩ := trapAt ((shapes_alloc HS.out _).kept hb1); have hz1 := lt_box hb1; have hg1 : 3 < w1.heap.size := Nat.lt_trans hg hz1; have hg0 : 0 < w1.heap.size := Nat.lt_of_le_of_lt (Nat.zero_le _) hg1))
  go_region_held3 (fun w' => w'.cell? ⟨w1.heap.size, 0, none⟩ = some (.string (O.nameS 31)) ∧ w'.cell? ⟨w1.heap.size, 1, none⟩ = some (.int .i64 (K.cyc 31)) ∧ w'.cell? ⟨w1.heap.size, 2, none⟩ = some (.int .i64 0) ∧ w'.cell? ⟨w1.heap.size + 1, 0, none⟩ = some (.int .i64 31) ∧ w'.cell? ⟨w1.heap.size + 1, 1, none⟩ = some (.int .i64 0) ∧ w'.cell? ⟨w1.heap.size + 1, 2, none⟩ = some (.int .i64 0) ∧ w'.cell? ⟨w1.heap.size + 1, 3, none⟩ = some (.int .i64 0) ∧ w'.cell? ⟨w1.heap.size + 1, 4, none⟩ = some (.int .i64 0))
    (first
      | with_reducible exact held8 hb2
      | with_reducible exact held8s hz1 (by assumption)
      | (go_keep; done))
    ((go_at_call 93; refine (HW.out _).mono ?_; rintro e w2 ⟨rfl, hb2⟩; obtain ⟨hc2, hf2⟩ := newRes hb1 hb2))
  go_wp2
  refine bodyPost_ret (v := .tuple #[.agg #[.int .i64 31, .int .i64 0, .int .i64 0, .int .i64 0, .int .i64 0], .int .i64 1]) (by simp [results, Tryz.results66, go_sem, hc2]) rfl ⟨rfl, ?_⟩
  exact (((((stp (stA (stA (stp (stA (st0 _) _) hb1) _) _).drew hb2).setCell (Nat.le_refl _) _).setCell (Nat.le_refl _) _).setCell (Nat.le_refl _) _).setCell (Nat.le_refl _) _).setCell (Nat.le_refl _) _
/-- What is read, as a value. -/
def orderV (a b : Int) : Value := .agg #[.int .i64 (O.rOp a), .int .i64 (O.rD a), .int .i64 (O.rS a), .int .i64 (O.rN a), .int .i64 (O.rW a b)]
theorem parts_of (k : Nat) (hk : k < 32) (a b : Int) (hr : O.rOp a = k) :
    O.rD a = (if O.mask k % 2 = 1 then a / 256 % 8 else 0) ∧ O.rS a = (if O.mask k / 2 % 2 = 1 then a / 32 % 8 else 0) ∧ O.rN a = (if O.mask k / 16 % 2 = 1 then a % 16 else if O.mask k / 4 % 2 = 1 then M.low a 5 else 0) ∧
      O.rW a b = (if O.mask k / 8 % 2 = 1 then b else 0) ∧ O.rLen a = lenOf (O.mask k) := by
  have hkk : O.rk a = k := by unfold O.rk; rw [hr]; rfl
  have h : ∀ k, k < 32 → O.hasC k 100 = decide (O.mask k % 2 = 1) ∧ O.hasC k 115 = decide (O.mask k / 2 % 2 = 1) ∧ O.hasC k 119 = decide (O.mask k / 8 % 2 = 1) ∧
      (O.hasC k 110 = (decide (O.mask k / 16 % 2 = 1) || decide (O.mask k / 4 % 2 = 1))) ∧ (decide (O.mask k / 16 % 2 = 1) = decide (k = 12 ∨ k = 13)) := by decide +kernel
  obtain ⟨h1, h2, h3, h4, h5⟩ := h k hk
  unfold O.rD O.rS O.rN O.rW O.rLen lenOf
  rw [hkk, h1, h2, h3, h4]
  refine ⟨by simp only [decide_eq_true_eq], by simp only [decide_eq_true_eq], ?_, by simp only [decide_eq_true_eq], by simp only [decide_eq_true_eq]⟩
  unfold O.nOf
  have h5' := decide_eq_decide.1 h5
  by_cases c : O.mask k / 16 % 2 = 1
  · simp only [c, decide_true, Bool.true_or, if_true, if_pos (h5'.1 c)]
  · have c' : ¬ (k = 12 ∨ k = 13) := fun x => c (h5'.2 x)
    rw [if_neg c', if_neg c, decide_eq_false c, O.low_5]
    simp only [Bool.false_or, decide_eq_true_eq]
theorem read_any (a b : Int) (ha : 0 ≤ a ∧ a ≤ 65535) (hb : 0 ≤ b ∧ b ≤ 65535) (w : World) (hs : shapesAt w) :
    Calls Tryz.prog 66 #[.int .u16 a, .int .u16 b] w fun e w' => e = .returned (.tuple #[orderV a b, .int .i64 (O.rLen a)]) ∧ Below w.heap.size w w' := by
  by_cases h30 : a / 2048 = 30
  · have hr : O.rOp a = ((31 : Nat) : Int) := by unfold O.rOp; rw [if_pos h30]; rfl
    obtain ⟨p1, p2, p3, p4, p5⟩ := parts_of 31 (by omega) a b hr
    have em : O.mask 31 = 0 := by decide +kernel
    rw [em] at p1 p2 p3 p4 p5
    unfold orderV
    rw [hr, p1, p2, p3, p4, p5]
    exact read_trap a b ha.1 ha.2 hb.1 hb.2 h30 w hs
  · obtain ⟨k, hk⟩ := Int.eq_ofNat_of_zero_le (show 0 ≤ a / 2048 by omega)
    have hr : O.rOp a = (k : Int) := by unfold O.rOp; rw [if_neg h30, hk]
    obtain ⟨p1, p2, p3, p4, p5⟩ := parts_of k (by omega) a b hr
    unfold orderV
    rw [hr, p1, p2, p3, p4, p5]
    clear p1 p2 p3 p4 p5
    rcases O.mask_or k (by omega) with h | h | h | h | h | h | h | h | h <;> rw [h]
    · exact read_0 k (by omega) (by omega) h a b ha.1 ha.2 hb.1 hb.2 hk w hs
    · exact read_1 k (by omega) (by omega) h a b ha.1 ha.2 hb.1 hb.2 hk w hs
    · exact read_2 k (by omega) (by omega) h a b ha.1 ha.2 hb.1 hb.2 hk w hs
    · exact read_3 k (by omega) (by omega) h a b ha.1 ha.2 hb.1 hb.2 hk w hs
    · exact read_5 k (by omega) (by omega) h a b ha.1 ha.2 hb.1 hb.2 hk w hs
    · exact read_7 k (by omega) (by omega) h a b ha.1 ha.2 hb.1 hb.2 hk w hs
    · exact read_8 k (by omega) (by omega) h a b ha.1 ha.2 hb.1 hb.2 hk w hs
    · exact read_9 k (by omega) (by omega) h a b ha.1 ha.2 hb.1 hb.2 hk w hs
    · exact read_17 k (by omega) (by omega) h a b ha.1 ha.2 hb.1 hb.2 hk w hs
end Go.Proofs.YtdjhlfoapieohaaGreatDoor
