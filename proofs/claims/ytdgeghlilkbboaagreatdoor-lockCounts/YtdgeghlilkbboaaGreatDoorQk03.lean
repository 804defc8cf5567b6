/-
  Parts of a proof, joined.
-/
import Derived.Test.YtdgeghlilkbboaaGreatDoorQk02
namespace Go.Proofs.YtdgeghlilkbboaaGreatDoor
open Go.ChangeShapes Go.WideShapes Go.ChangeAt Go.RowKit
set_option linter.unusedVariables false
set_option maxRecDepth 100000
theorem ret_ii {k l : IntKind} {a a' b b' : Int} (h : a = a') (h1 : b = b') : Ending.returned (.tuple #[.int k a, .int l b]) = .returned (.tuple #[.int k a', .int l b']) := by rw [h, h1]
theorem signed_yes (a n : Int) (w : World) (ha : 0 ≤ a) (ha' : a ≤ 65535) (hn : 1 ≤ n) (hn' : n ≤ 16) :
    Calls Tryz.prog 272 #[.int .u16 a, .int .i64 n] w fun e w' => e = .returned (.tuple #[.int .i64 (M.low a n), .int .i64 0]) ∧ w' = w := by
  go_enter Tryz.func272, Tryz.ntmps272
  go_wp2
  go_ret2
  exact ⟨ret_ii (M.low_of a n hn hn') rfl, rfl⟩
theorem and_mod (x : Int) (h : 0 ≤ x) (h' : x ≤ 65535) : bits .and .u16 x 7 = x % 8 ∧ bits .and .u16 x 15 = x % 16 :=
  ⟨by have := M.and_low x 3 (by omega) h h'; simpa using this, by have := M.and_low x 4 (by omega) h h'; simpa using this⟩
theorem held8 {w1 w2 : World} {n c h a0 a1 a2 a3 a4 : Value} {t t' : TypeId} (hb : Below ((w1.alloc (.cells #[n, c, h] t)).alloc (.cells #[a0, a1, a2, a3, a4] t')).drew.heap.size ((w1.alloc (.cells #[n, c, h] t)).alloc (.cells #[a0, a1, a2, a3, a4] t')).drew w2) :
    w2.cell? ⟨w1.heap.size, 0, none⟩ = some n ∧ w2.cell? ⟨w1.heap.size, 1, none⟩ = some c ∧ w2.cell? ⟨w1.heap.size, 2, none⟩ = some h ∧ w2.cell? ⟨w1.heap.size + 1, 0, none⟩ = some a0 ∧ w2.cell? ⟨w1.heap.size + 1, 1, none⟩ = some a1 ∧
      w2.cell? ⟨w1.heap.size + 1, 2, none⟩ = some a2 ∧ w2.cell? ⟨w1.heap.size + 1, 3, none⟩ = some a3 ∧ w2.cell? ⟨w1.heap.size + 1, 4, none⟩ = some a4 := by
  have e : ∀ i, ((w1.alloc (.cells #[n, c, h] t)).alloc (.cells #[a0, a1, a2, a3, a4] t')).drew.cell? ⟨w1.heap.size, i, none⟩ = #[n, c, h][i]? := fun i =>
    (World.cell?_alloc_lt (w1.alloc (.cells #[n, c, h] t)) _ _ (by simp)).trans (cell_new _ _ _ _ rfl)
  have e' : ∀ i, ((w1.alloc (.cells #[n, c, h] t)).alloc (.cells #[a0, a1, a2, a3, a4] t')).drew.cell? ⟨w1.heap.size + 1, i, none⟩ = #[a0, a1, a2, a3, a4][i]? := fun i => cell_new (w1.alloc (.cells #[n, c, h] t)) _ _ _ (by simp)
  refine ⟨?_, ?_, ?_, ?_, ?_, ?_, ?_, ?_⟩
  · rw [hb.cell (by simp; omega), e]; rfl
  · rw [hb.cell (by simp; omega), e]; rfl
  · rw [hb.cell (by simp; omega), e]; rfl
  · rw [hb.cell (by simp), e']; rfl
  · rw [hb.cell (by simp), e']; rfl
  · rw [hb.cell (by simp), e']; rfl
  · rw [hb.cell (by simp), e']; rfl
  · rw [hb.cell (by simp), e']; rfl
theorem far5 (w2 : World) (b : Nat) (v0 v1 v2 v3 v4 : Value) (p : Addr) (h : b ≠ p.block) :
    (((((w2.setCell ⟨b, 0, none⟩ v0).setCell ⟨b, 1, none⟩ v1).setCell ⟨b, 2, none⟩ v2).setCell ⟨b, 3, none⟩ v3).setCell ⟨b, 4, none⟩ v4).cell? p = w2.cell? p := by
  rw [World.cell?_setCell_far _ _ _ _ h, World.cell?_setCell_far _ _ _ _ h, World.cell?_setCell_far _ _ _ _ h, World.cell?_setCell_far _ _ _ _ h, World.cell?_setCell_far _ _ _ _ h]
theorem held8s {w w1 w2 : World} {n c h a0 a1 a2 a3 a4 v0 v1 v2 v3 v4 : Value} (hz : w.heap.size < w1.heap.size)
    (hh : w2.cell? ⟨w1.heap.size, 0, none⟩ = some n ∧ w2.cell? ⟨w1.heap.size, 1, none⟩ = some c ∧ w2.cell? ⟨w1.heap.size, 2, none⟩ = some h ∧ w2.cell? ⟨w1.heap.size + 1, 0, none⟩ = some a0 ∧ w2.cell? ⟨w1.heap.size + 1, 1, none⟩ = some a1 ∧
      w2.cell? ⟨w1.heap.size + 1, 2, none⟩ = some a2 ∧ w2.cell? ⟨w1.heap.size + 1, 3, none⟩ = some a3 ∧ w2.cell? ⟨w1.heap.size + 1, 4, none⟩ = some a4) :
    (((((w2.setCell ⟨w.heap.size, 0, none⟩ v0).setCell ⟨w.heap.size, 1, none⟩ v1).setCell ⟨w.heap.size, 2, none⟩ v2).setCell ⟨w.heap.size, 3, none⟩ v3).setCell ⟨w.heap.size, 4, none⟩ v4).cell? ⟨w1.heap.size, 0, none⟩ = some n ∧ (((((w2.setCell ⟨w.heap.size, 0, none⟩ v0).setCell ⟨w.heap.size, 1, none⟩ v1).setCell ⟨w.heap.size, 2, none⟩ v2).setCell ⟨w.heap.size, 3, none⟩ v3).setCell ⟨w.heap.size, 4, none⟩ v4).cell? ⟨w1.heap.size, 1, none⟩ = some c ∧ (((((w2.setCell ⟨w.heap.size, 0, none⟩ v0).setCell ⟨w.heap.size, 1, none⟩ v1).setCell ⟨w.heap.size, 2, none⟩ v2).setCell ⟨w.heap.size, 3, none⟩ v3).setCell ⟨w.heap.size, 4, none⟩ v4).cell? ⟨w1.heap.size, 2, none⟩ = some h ∧ (((((w2.setCell ⟨w.heap.size, 0, none⟩ v0).setCell ⟨w.heap.size, 1, none⟩ v1).setCell ⟨w.heap.size, 2, none⟩ v2).setCell ⟨w.heap.size, 3, none⟩ v3).setCell ⟨w.heap.size, 4, none⟩ v4).cell? ⟨w1.heap.size + 1, 0, none⟩ = some a0 ∧ (((((w2.setCell ⟨w.heap.size, 0, none⟩ v0).setCell ⟨w.heap.size, 1, none⟩ v1).setCell ⟨w.heap.size, 2, none⟩ v2).setCell ⟨w.heap.size, 3, none⟩ v3).setCell ⟨w.heap.size, 4, none⟩ v4).cell? ⟨w1.heap.size + 1, 1, none⟩ = some a1 ∧
      (((((w2.setCell ⟨w.heap.size, 0, none⟩ v0).setCell ⟨w.heap.size, 1, none⟩ v1).setCell ⟨w.heap.size, 2, none⟩ v2).setCell ⟨w.heap.size, 3, none⟩ v3).setCell ⟨w.heap.size, 4, none⟩ v4).cell? ⟨w1.heap.size + 1, 2, none⟩ = some a2 ∧ (((((w2.setCell ⟨w.heap.size, 0, none⟩ v0).setCell ⟨w.heap.size, 1, none⟩ v1).setCell ⟨w.heap.size, 2, none⟩ v2).setCell ⟨w.heap.size, 3, none⟩ v3).setCell ⟨w.heap.size, 4, none⟩ v4).cell? ⟨w1.heap.size + 1, 3, none⟩ = some a3 ∧ (((((w2.setCell ⟨w.heap.size, 0, none⟩ v0).setCell ⟨w.heap.size, 1, none⟩ v1).setCell ⟨w.heap.size, 2, none⟩ v2).setCell ⟨w.heap.size, 3, none⟩ v3).setCell ⟨w.heap.size, 4, none⟩ v4).cell? ⟨w1.heap.size + 1, 4, none⟩ = some a4 := by
  obtain ⟨h1, h2, h3, h4, h5, h6, h7, h8⟩ := hh
  refine ⟨?_, ?_, ?_, ?_, ?_, ?_, ?_, ?_⟩
  · exact (far5 _ _ _ _ _ _ _ _ (by simp; omega)).trans h1
  · exact (far5 _ _ _ _ _ _ _ _ (by simp; omega)).trans h2
  · exact (far5 _ _ _ _ _ _ _ _ (by simp; omega)).trans h3
  · exact (far5 _ _ _ _ _ _ _ _ (by simp; omega)).trans h4
  · exact (far5 _ _ _ _ _ _ _ _ (by simp; omega)).trans h5
  · exact (far5 _ _ _ _ _ _ _ _ (by simp; omega)).trans h6
  · exact (far5 _ _ _ _ _ _ _ _ (by simp; omega)).trans h7
  · exact (far5 _ _ _ _ _ _ _ _ (by simp; omega)).trans h8
theorem newRes {w w1 w2 : World} {o o' : Obj} {t : TypeId} (hb1 : Below (w.alloc (.cells #[.int .i64 0, .int .i64 0, .int .i64 0, .int .i64 0, .int .i64 0] t)).heap.size (w.alloc (.cells #[.int .i64 0, .int .i64 0, .int .i64 0, .int .i64 0, .int .i64 0] t)) w1)
    (hb2 : Below ((w1.alloc o).alloc o').drew.heap.size ((w1.alloc o).alloc o').drew w2) :
    (∀ i, i < 5 → w2.cell? ⟨w.heap.size, i, none⟩ = some (.int .i64 0)) ∧ ∀ i, w2.frozen? ⟨w.heap.size, i, none⟩ = false := by
  have hz : w.heap.size < w1.heap.size := by have := hb1.size; simp at this; omega
  have b : Below w1.heap.size w1 w2 := ((stA (stA (st0 w1) o) o').drew).trans (hb2.mono (by simp; omega))
  refine ⟨fun i hi => ?_, fun i => ?_⟩
  · rw [b.cell hz, hb1.cell (by simp), cell_new _ _ _ _ rfl]
    have hc : i = 0 ∨ i = 1 ∨ i = 2 ∨ i = 3 ∨ i = 4 := by omega
    rcases hc with rfl | rfl | rfl | rfl | rfl <;> rfl
  · rw [b.frozen hz, hb1.frozen (by simp)]
    simp
set_option maxHeartbeats 1600000 in
theorem read_0 (k : Nat) (hk : k < 32) (h30 : k ≠ 30) (hm : O.mask k = 0) (a b : Int) (ha : 0 ≤ a) (ha' : a ≤ 65535) (hb : 0 ≤ b) (hb' : b ≤ 65535) (hak : a / 2048 = k) (w : World) (hs : shapesAt w) :
    Calls Tryz.prog 209 #[.int .u16 a, .int .u16 b] w fun e w' => e = .returned (.tuple #[.agg #[.int .i64 k, .int .i64 (0), .int .i64 (0), .int .i64 (0), .int .i64 (0)], .int .i64 1]) ∧ Below w.heap.size w w' := by
  have hwd := words_any (.string (O.nameS k)) (.int .i64 (K.cyc k)) k hk
  have HS := hid hs
  have HM := hid hm
  have HW := hid hwd
  rw [hm] at HW
  clear hs hm hwd
  go_enter Tryz.func209, Tryz.ntmps209
  go_wp2_with (first
    | (go_at_call 189; refine (shape_yes k hk h30 _ (shapes_alloc HS.out _)).mono ?_; rw [HM.out]; rintro e w1 ⟨rfl, hb1⟩; obtain ⟨hc1, hf1⟩ := bcell hb1; have hz1 : w.heap.size < w1.heap.size := by have := hb1.size; simp at this; omega))
  go_region_held3 (fun w' => w'.cell? ⟨w1.heap.size, 0, none⟩ = some (.string (O.nameS k)) ∧ w'.cell? ⟨w1.heap.size, 1, none⟩ = some (.int .i64 (K.cyc k)) ∧ w'.cell? ⟨w1.heap.size, 2, none⟩ = some (.int .i64 0) ∧ w'.cell? ⟨w1.heap.size + 1, 0, none⟩ = some (.int .i64 (k)) ∧ w'.cell? ⟨w1.heap.size + 1, 1, none⟩ = some (.int .i64 (0)) ∧ w'.cell? ⟨w1.heap.size + 1, 2, none⟩ = some (.int .i64 (0)) ∧ w'.cell? ⟨w1.heap.size + 1, 3, none⟩ = some (.int .i64 (0)) ∧ w'.cell? ⟨w1.heap.size + 1, 4, none⟩ = some (.int .i64 (0)))
    (first
      | with_reducible exact held8 hb2
      | with_reducible exact held8s hz1 (by assumption)
      | (go_keep; done))
    ((go_at_call 210; refine (HW.out _).mono ?_; rintro e w2 ⟨rfl, hb2⟩; obtain ⟨hc2, hf2⟩ := newRes hb1 hb2))
  go_wp2
  refine bodyPost_ret (v := .tuple #[.agg #[.int .i64 k, .int .i64 (0), .int .i64 (0), .int .i64 (0), .int .i64 (0)], .int .i64 1]) (by simp [results, Tryz.results209, go_sem, hc2, lenOf]) rfl ⟨rfl, ?_⟩
  exact (((((stp (stA (stA (stp (stA (st0 _) _) hb1) _) _).drew hb2).setCell (Nat.le_refl _) _).setCell (Nat.le_refl _) _).setCell (Nat.le_refl _) _).setCell (Nat.le_refl _) _).setCell (Nat.le_refl _) _
set_option maxHeartbeats 1600000 in
theorem read_1 (k : Nat) (hk : k < 32) (h30 : k ≠ 30) (hm : O.mask k = 1) (a b : Int) (ha : 0 ≤ a) (ha' : a ≤ 65535) (hb : 0 ≤ b) (hb' : b ≤ 65535) (hak : a / 2048 = k) (w : World) (hs : shapesAt w) :
    Calls Tryz.prog 209 #[.int .u16 a, .int .u16 b] w fun e w' => e = .returned (.tuple #[.agg #[.int .i64 k, .int .i64 (a / 256 % 8), .int .i64 (0), .int .i64 (0), .int .i64 (0)], .int .i64 1]) ∧ Below w.heap.size w w' := by
  have hwd := words_any (.string (O.nameS k)) (.int .i64 (K.cyc k)) k hk
  have HS := hid hs
  have HM := hid hm
  have HW := hid hwd
  rw [hm] at HW
  have eD := (and_mod (a / 256) (by omega) (by omega)).1
  clear hs hm hwd
  go_enter Tryz.func209, Tryz.ntmps209
  go_wp2_with (first
    | (go_at_call 189; refine (shape_yes k hk h30 _ (shapes_alloc HS.out _)).mono ?_; rw [HM.out]; rintro e w1 ⟨rfl, hb1⟩; obtain ⟨hc1, hf1⟩ := bcell hb1; have hz1 : w.heap.size < w1.heap.size := by have := hb1.size; simp at this; omega))
  clear eD
  go_region_held3 (fun w' => w'.cell? ⟨w1.heap.size, 0, none⟩ = some (.string (O.nameS k)) ∧ w'.cell? ⟨w1.heap.size, 1, none⟩ = some (.int .i64 (K.cyc k)) ∧ w'.cell? ⟨w1.heap.size, 2, none⟩ = some (.int .i64 1) ∧ w'.cell? ⟨w1.heap.size + 1, 0, none⟩ = some (.int .i64 (k)) ∧ w'.cell? ⟨w1.heap.size + 1, 1, none⟩ = some (.int .i64 (a / 256 % 8)) ∧ w'.cell? ⟨w1.heap.size + 1, 2, none⟩ = some (.int .i64 (0)) ∧ w'.cell? ⟨w1.heap.size + 1, 3, none⟩ = some (.int .i64 (0)) ∧ w'.cell? ⟨w1.heap.size + 1, 4, none⟩ = some (.int .i64 (0)))
    (first
      | with_reducible exact held8 hb2
      | with_reducible exact held8s hz1 (by assumption)
      | (go_keep; done))
    ((go_at_call 210; refine (HW.out _).mono ?_; rintro e w2 ⟨rfl, hb2⟩; obtain ⟨hc2, hf2⟩ := newRes hb1 hb2))
  go_wp2
  refine bodyPost_ret (v := .tuple #[.agg #[.int .i64 k, .int .i64 (a / 256 % 8), .int .i64 (0), .int .i64 (0), .int .i64 (0)], .int .i64 1]) (by simp [results, Tryz.results209, go_sem, hc2, lenOf]) rfl ⟨rfl, ?_⟩
  exact (((((stp (stA (stA (stp (stA (st0 _) _) hb1) _) _).drew hb2).setCell (Nat.le_refl _) _).setCell (Nat.le_refl _) _).setCell (Nat.le_refl _) _).setCell (Nat.le_refl _) _).setCell (Nat.le_refl _) _
set_option maxHeartbeats 1600000 in
theorem read_2 (k : Nat) (hk : k < 32) (h30 : k ≠ 30) (hm : O.mask k = 2) (a b : Int) (ha : 0 ≤ a) (ha' : a ≤ 65535) (hb : 0 ≤ b) (hb' : b ≤ 65535) (hak : a / 2048 = k) (w : World) (hs : shapesAt w) :
    Calls Tryz.prog 209 #[.int .u16 a, .int .u16 b] w fun e w' => e = .returned (.tuple #[.agg #[.int .i64 k, .int .i64 (0), .int .i64 (a / 32 % 8), .int .i64 (0), .int .i64 (0)], .int .i64 1]) ∧ Below w.heap.size w w' := by
  have hwd := words_any (.string (O.nameS k)) (.int .i64 (K.cyc k)) k hk
  have HS := hid hs
  have HM := hid hm
  have HW := hid hwd
  rw [hm] at HW
  have eS := (and_mod (a / 32) (by omega) (by omega)).1
  clear hs hm hwd
  go_enter Tryz.func209, Tryz.ntmps209
  go_wp2_with (first
    | (go_at_call 189; refine (shape_yes k hk h30 _ (shapes_alloc HS.out _)).mono ?_; rw [HM.out]; rintro e w1 ⟨rfl, hb1⟩; obtain ⟨hc1, hf1⟩ := bcell hb1; have hz1 : w.heap.size < w1.heap.size := by have := hb1.size; simp at this; omega))
  clear eS
  go_region_held3 (fun w' => w'.cell? ⟨w1.heap.size, 0, none⟩ = some (.string (O.nameS k)) ∧ w'.cell? ⟨w1.heap.size, 1, none⟩ = some (.int .i64 (K.cyc k)) ∧ w'.cell? ⟨w1.heap.size, 2, none⟩ = some (.int .i64 2) ∧ w'.cell? ⟨w1.heap.size + 1, 0, none⟩ = some (.int .i64 (k)) ∧ w'.cell? ⟨w1.heap.size + 1, 1, none⟩ = some (.int .i64 (0)) ∧ w'.cell? ⟨w1.heap.size + 1, 2, none⟩ = some (.int .i64 (a / 32 % 8)) ∧ w'.cell? ⟨w1.heap.size + 1, 3, none⟩ = some (.int .i64 (0)) ∧ w'.cell? ⟨w1.heap.size + 1, 4, none⟩ = some (.int .i64 (0)))
    (first
      | with_reducible exact held8 hb2
      | with_reducible exact held8s hz1 (by assumption)
      | (go_keep; done))
    ((go_at_call 210; refine (HW.out _).mono ?_; rintro e w2 ⟨rfl, hb2⟩; obtain ⟨hc2, hf2⟩ := newRes hb1 hb2))
  go_wp2
  refine bodyPost_ret (v := .tuple #[.agg #[.int .i64 k, .int .i64 (0), .int .i64 (a / 32 % 8), .int .i64 (0), .int .i64 (0)], .int .i64 1]) (by simp [results, Tryz.results209, go_sem, hc2, lenOf]) rfl ⟨rfl, ?_⟩
  exact (((((stp (stA (stA (stp (stA (st0 _) _) hb1) _) _).drew hb2).setCell (Nat.le_refl _) _).setCell (Nat.le_refl _) _).setCell (Nat.le_refl _) _).setCell (Nat.le_refl _) _).setCell (Nat.le_refl _) _
set_option maxHeartbeats 1600000 in
theorem read_3 (k : Nat) (hk : k < 32) (h30 : k ≠ 30) (hm : O.mask k = 3) (a b : Int) (ha : 0 ≤ a) (ha' : a ≤ 65535) (hb : 0 ≤ b) (hb' : b ≤ 65535) (hak : a / 2048 = k) (w : World) (hs : shapesAt w) :
    Calls Tryz.prog 209 #[.int .u16 a, .int .u16 b] w fun e w' => e = .returned (.tuple #[.agg #[.int .i64 k, .int .i64 (a / 256 % 8), .int .i64 (a / 32 % 8), .int .i64 (0), .int .i64 (0)], .int .i64 1]) ∧ Below w.heap.size w w' := by
  have hwd := words_any (.string (O.nameS k)) (.int .i64 (K.cyc k)) k hk
  have HS := hid hs
  have HM := hid hm
  have HW := hid hwd
  rw [hm] at HW
  have eD := (and_mod (a / 256) (by omega) (by omega)).1
  have eS := (and_mod (a / 32) (by omega) (by omega)).1
  clear hs hm hwd
  go_enter Tryz.func209, Tryz.ntmps209
  go_wp2_with (first
    | (go_at_call 189; refine (shape_yes k hk h30 _ (shapes_alloc HS.out _)).mono ?_; rw [HM.out]; rintro e w1 ⟨rfl, hb1⟩; obtain ⟨hc1, hf1⟩ := bcell hb1; have hz1 : w.heap.size < w1.heap.size := by have := hb1.size; simp at this; omega))
  clear eD eS
  go_region_held3 (fun w' => w'.cell? ⟨w1.heap.size, 0, none⟩ = some (.string (O.nameS k)) ∧ w'.cell? ⟨w1.heap.size, 1, none⟩ = some (.int .i64 (K.cyc k)) ∧ w'.cell? ⟨w1.heap.size, 2, none⟩ = some (.int .i64 3) ∧ w'.cell? ⟨w1.heap.size + 1, 0, none⟩ = some (.int .i64 (k)) ∧ w'.cell? ⟨w1.heap.size + 1, 1, none⟩ = some (.int .i64 (a / 256 % 8)) ∧ w'.cell? ⟨w1.heap.size + 1, 2, none⟩ = some (.int .i64 (a / 32 % 8)) ∧ w'.cell? ⟨w1.heap.size + 1, 3, none⟩ = some (.int .i64 (0)) ∧ w'.cell? ⟨w1.heap.size + 1, 4, none⟩ = some (.int .i64 (0)))
    (first
      | with_reducible exact held8 hb2
      | with_reducible exact held8s hz1 (by assumption)
      | (go_keep; done))
    ((go_at_call 210; refine (HW.out _).mono ?_; rintro e w2 ⟨rfl, hb2⟩; obtain ⟨hc2, hf2⟩ := newRes hb1 hb2))
  go_wp2
  refine bodyPost_ret (v := .tuple #[.agg #[.int .i64 k, .int .i64 (a / 256 % 8), .int .i64 (a / 32 % 8), .int .i64 (0), .int .i64 (0)], .int .i64 1]) (by simp [results, Tryz.results209, go_sem, hc2, lenOf]) rfl ⟨rfl, ?_⟩
  exact (((((stp (stA (stA (stp (stA (st0 _) _) hb1) _) _).drew hb2).setCell (Nat.le_refl _) _).setCell (Nat.le_refl _) _).setCell (Nat.le_refl _) _).setCell (Nat.le_refl _) _).setCell (Nat.le_refl _) _
set_option maxHeartbeats 1600000 in
theorem read_5 (k : Nat) (hk : k < 32) (h30 : k ≠ 30) (hm : O.mask k = 5) (a b : Int) (ha : 0 ≤ a) (ha' : a ≤ 65535) (hb : 0 ≤ b) (hb' : b ≤ 65535) (hak : a / 2048 = k) (w : World) (hs : shapesAt w) :
    Calls Tryz.prog 209 #[.int .u16 a, .int .u16 b] w fun e w' => e = .returned (.tuple #[.agg #[.int .i64 k, .int .i64 (a / 256 % 8), .int .i64 (0), .int .i64 (M.low a 5), .int .i64 (0)], .int .i64 1]) ∧ Below w.heap.size w w' := by
  have hwd := words_any (.string (O.nameS k)) (.int .i64 (K.cyc k)) k hk
  have HS := hid hs
  have HM := hid hm
  have HW := hid hwd
  rw [hm] at HW
  have eD := (and_mod (a / 256) (by omega) (by omega)).1
  clear hs hm hwd
  go_enter Tryz.func209, Tryz.ntmps209
  go_wp2_with (first
    | (go_at_call 189; refine (shape_yes k hk h30 _ (shapes_alloc HS.out _)).mono ?_; rw [HM.out]; rintro e w1 ⟨rfl, hb1⟩; obtain ⟨hc1, hf1⟩ := bcell hb1; have hz1 : w.heap.size < w1.heap.size := by have := hb1.size; simp at this; omega)
    | (go_at_call 272; refine (signed_yes _ _ _ (by omega) (by omega) (by omega) (by omega)).mono ?_; rintro e w' ⟨rfl, rfl⟩))
  clear eD
  go_region_held3 (fun w' => w'.cell? ⟨w1.heap.size, 0, none⟩ = some (.string (O.nameS k)) ∧ w'.cell? ⟨w1.heap.size, 1, none⟩ = some (.int .i64 (K.cyc k)) ∧ w'.cell? ⟨w1.heap.size, 2, none⟩ = some (.int .i64 5) ∧ w'.cell? ⟨w1.heap.size + 1, 0, none⟩ = some (.int .i64 (k)) ∧ w'.cell? ⟨w1.heap.size + 1, 1, none⟩ = some (.int .i64 (a / 256 % 8)) ∧ w'.cell? ⟨w1.heap.size + 1, 2, none⟩ = some (.int .i64 (0)) ∧ w'.cell? ⟨w1.heap.size + 1, 3, none⟩ = some (.int .i64 (M.low a 5)) ∧ w'.cell? ⟨w1.heap.size + 1, 4, none⟩ = some (.int .i64 (0)))
    (first
      | with_reducible exact held8 hb2
      | with_reducible exact held8s hz1 (by assumption)
      | (go_keep; done))
    ((go_at_call 210; refine (HW.out _).mono ?_; rintro e w2 ⟨rfl, hb2⟩; obtain ⟨hc2, hf2⟩ := newRes hb1 hb2))
  go_wp2
  refine bodyPost_ret (v := .tuple #[.agg #[.int .i64 k, .int .i64 (a / 256 % 8), .int .i64 (0), .int .i64 (M.low a 5), .int .i64 (0)], .int .i64 1]) (by simp [results, Tryz.results209, go_sem, hc2, lenOf]) rfl ⟨rfl, ?_⟩
  exact (((((stp (stA (stA (stp (stA (st0 _) _) hb1) _) _).drew hb2).setCell (Nat.le_refl _) _).setCell (Nat.le_refl _) _).setCell (Nat.le_refl _) _).setCell (Nat.le_refl _) _).setCell (Nat.le_refl _) _
set_option maxHeartbeats 1600000 in
theorem read_7 (k : Nat) (hk : k < 32) (h30 : k ≠ 30) (hm : O.mask k = 7) (a b : Int) (ha : 0 ≤ a) (ha' : a ≤ 65535) (hb : 0 ≤ b) (hb' : b ≤ 65535) (hak : a / 2048 = k) (w : World) (hs : shapesAt w) :
    Calls Tryz.prog 209 #[.int .u16 a, .int .u16 b] w fun e w' => e = .returned (.tuple #[.agg #[.int .i64 k, .int .i64 (a / 256 % 8), .int .i64 (a / 32 % 8), .int .i64 (M.low a 5), .int .i64 (0)], .int .i64 1]) ∧ Below w.heap.size w w' := by
  have hwd := words_any (.string (O.nameS k)) (.int .i64 (K.cyc k)) k hk
  have HS := hid hs
  have HM := hid hm
  have HW := hid hwd
  rw [hm] at HW
  have eD := (and_mod (a / 256) (by omega) (by omega)).1
  have eS := (and_mod (a / 32) (by omega) (by omega)).1
  clear hs hm hwd
  go_enter Tryz.func209, Tryz.ntmps209
  go_wp2_with (first
    | (go_at_call 189; refine (shape_yes k hk h30 _ (shapes_alloc HS.out _)).mono ?_; rw [HM.out]; rintro e w1 ⟨rfl, hb1⟩; obtain ⟨hc1, hf1⟩ := bcell hb1; have hz1 : w.heap.size < w1.heap.size := by have := hb1.size; simp at this; omega)
    | (go_at_call 272; refine (signed_yes _ _ _ (by omega) (by omega) (by omega) (by omega)).mono ?_; rintro e w' ⟨rfl, rfl⟩))
  clear eD eS
  go_region_held3 (fun w' => w'.cell? ⟨w1.heap.size, 0, none⟩ = some (.string (O.nameS k)) ∧ w'.cell? ⟨w1.heap.size, 1, none⟩ = some (.int .i64 (K.cyc k)) ∧ w'.cell? ⟨w1.heap.size, 2, none⟩ = some (.int .i64 7) ∧ w'.cell? ⟨w1.heap.size + 1, 0, none⟩ = some (.int .i64 (k)) ∧ w'.cell? ⟨w1.heap.size + 1, 1, none⟩ = some (.int .i64 (a / 256 % 8)) ∧ w'.cell? ⟨w1.heap.size + 1, 2, none⟩ = some (.int .i64 (a / 32 % 8)) ∧ w'.cell? ⟨w1.heap.size + 1, 3, none⟩ = some (.int .i64 (M.low a 5)) ∧ w'.cell? ⟨w1.heap.size + 1, 4, none⟩ = some (.int .i64 (0)))
    (first
      | with_reducible exact held8 hb2
      | with_reducible exact held8s hz1 (by assumption)
      | (go_keep; done))
    ((go_at_call 210; refine (HW.out _).mono ?_; rintro e w2 ⟨rfl, hb2⟩; obtain ⟨hc2, hf2⟩ := newRes hb1 hb2))
  go_wp2
  refine bodyPost_ret (v := .tuple #[.agg #[.int .i64 k, .int .i64 (a / 256 % 8), .int .i64 (a / 32 % 8), .int .i64 (M.low a 5), .int .i64 (0)], .int .i64 1]) (by simp [results, Tryz.results209, go_sem, hc2, lenOf]) rfl ⟨rfl, ?_⟩
  exact (((((stp (stA (stA (stp (stA (st0 _) _) hb1) _) _).drew hb2).setCell (Nat.le_refl _) _).setCell (Nat.le_refl _) _).setCell (Nat.le_refl _) _).setCell (Nat.le_refl _) _).setCell (Nat.le_refl _) _
set_option maxHeartbeats 1600000 in
theorem read_8 (k : Nat) (hk : k < 32) (h30 : k ≠ 30) (hm : O.mask k = 8) (a b : Int) (ha : 0 ≤ a) (ha' : a ≤ 65535) (hb : 0 ≤ b) (hb' : b ≤ 65535) (hak : a / 2048 = k) (w : World) (hs : shapesAt w) :
    Calls Tryz.prog 209 #[.int .u16 a, .int .u16 b] w fun e w' => e = .returned (.tuple #[.agg #[.int .i64 k, .int .i64 (0), .int .i64 (0), .int .i64 (0), .int .i64 (b)], .int .i64 2]) ∧ Below w.heap.size w w' := by
  have hwd := words_any (.string (O.nameS k)) (.int .i64 (K.cyc k)) k hk
  have HS := hid hs
  have HM := hid hm
  have HW := hid hwd
  rw [hm] at HW
  clear hs hm hwd
  go_enter Tryz.func209, Tryz.ntmps209
  go_wp2_with (first
    | (go_at_call 189; refine (shape_yes k hk h30 _ (shapes_alloc HS.out _)).mono ?_; rw [HM.out]; rintro e w1 ⟨rfl, hb1⟩; obtain ⟨hc1, hf1⟩ := bcell hb1; have hz1 : w.heap.size < w1.heap.size := by have := hb1.size; simp at this; omega))
  go_region_held3 (fun w' => w'.cell? ⟨w1.heap.size, 0, none⟩ = some (.string (O.nameS k)) ∧ w'.cell? ⟨w1.heap.size, 1, none⟩ = some (.int .i64 (K.cyc k)) ∧ w'.cell? ⟨w1.heap.size, 2, none⟩ = some (.int .i64 8) ∧ w'.cell? ⟨w1.heap.size + 1, 0, none⟩ = some (.int .i64 (k)) ∧ w'.cell? ⟨w1.heap.size + 1, 1, none⟩ = some (.int .i64 (0)) ∧ w'.cell? ⟨w1.heap.size + 1, 2, none⟩ = some (.int .i64 (0)) ∧ w'.cell? ⟨w1.heap.size + 1, 3, none⟩ = some (.int .i64 (0)) ∧ w'.cell? ⟨w1.heap.size + 1, 4, none⟩ = some (.int .i64 (b)))
    (first
      | with_reducible exact held8 hb2
      | with_reducible exact held8s hz1 (by assumption)
      | (go_keep; done))
    ((go_at_call 210; refine (HW.out _).mono ?_; rintro e w2 ⟨rfl, hb2⟩; obtain ⟨hc2, hf2⟩ := newRes hb1 hb2))
  go_wp2
  refine bodyPost_ret (v := .tuple #[.agg #[.int .i64 k, .int .i64 (0), .int .i64 (0), .int .i64 (0), .int .i64 (b)], .int .i64 2]) (by simp [results, Tryz.results209, go_sem, hc2, lenOf]) rfl ⟨rfl, ?_⟩
  exact (((((stp (stA (stA (stp (stA (st0 _) _) hb1) _) _).drew hb2).setCell (Nat.le_refl _) _).setCell (Nat.le_refl _) _).setCell (Nat.le_refl _) _).setCell (Nat.le_refl _) _).setCell (Nat.le_refl _) _
set_option maxHeartbeats 1600000 in
theorem read_9 (k : Nat) (hk : k < 32) (h30 : k ≠ 30) (hm : O.mask k = 9) (a b : Int) (ha : 0 ≤ a) (ha' : a ≤ 65535) (hb : 0 ≤ b) (hb' : b ≤ 65535) (hak : a / 2048 = k) (w : World) (hs : shapesAt w) :
    Calls Tryz.prog 209 #[.int .u16 a, .int .u16 b] w fun e w' => e = .returned (.tuple #[.agg #[.int .i64 k, .int .i64 (a / 256 % 8), .int .i64 (0), .int .i64 (0), .int .i64 (b)], .int .i64 2]) ∧ Below w.heap.size w w' := by
  have hwd := words_any (.string (O.nameS k)) (.int .i64 (K.cyc k)) k hk
  have HS := hid hs
  have HM := hid hm
  have HW := hid hwd
  rw [hm] at HW
  have eD := (and_mod (a / 256) (by omega) (by omega)).1
  clear hs hm hwd
  go_enter Tryz.func209, Tryz.ntmps209
  go_wp2_with (first
    | (go_at_call 189; refine (shape_yes k hk h30 _ (shapes_alloc HS.out _)).mono ?_; rw [HM.out]; rintro e w1 ⟨rfl, hb1⟩; obtain ⟨hc1, hf1⟩ := bcell hb1; have hz1 : w.heap.size < w1.heap.size := by have := hb1.size; simp at this; omega))
  clear eD
  go_region_held3 (fun w' => w'.cell? ⟨w1.heap.size, 0, none⟩ = some (.string (O.nameS k)) ∧ w'.cell? ⟨w1.heap.size, 1, none⟩ = some (.int .i64 (K.cyc k)) ∧ w'.cell? ⟨w1.heap.size, 2, none⟩ = some (.int .i64 9) ∧ w'.cell? ⟨w1.heap.size + 1, 0, none⟩ = some (.int .i64 (k)) ∧ w'.cell? ⟨w1.heap.size + 1, 1, none⟩ = some (.int .i64 (a / 256 % 8)) ∧ w'.cell? ⟨w1.heap.size + 1, 2, none⟩ = some (.int .i64 (0)) ∧ w'.cell? ⟨w1.heap.size + 1, 3, none⟩ = some (.int .i64 (0)) ∧ w'.cell? ⟨w1.heap.size + 1, 4, none⟩ = some (.int .i64 (b)))
    (first
      | with_reducible exact held8 hb2
      | with_reducible exact held8s hz1 (by assumption)
      | (go_keep; done))
    ((go_at_call 210; refine (HW.out _).mono ?_; rintro e w2 ⟨rfl, hb2⟩; obtain ⟨hc2, hf2⟩ := newRes hb1 hb2))
  go_wp2
  refine bodyPost_ret (v := .tuple #[.agg #[.int .i64 k, .int .i64 (a / 256 % 8), .int .i64 (0), .int .i64 (0), .int .i64 (b)], .int .i64 2]) (by simp [results, Tryz.results209, go_sem, hc2, lenOf]) rfl ⟨rfl, ?_⟩
  exact (((((stp (stA (stA (stp (stA (st0 _) _) hb1) _) _).drew hb2).setCell (Nat.le_refl _) _).setCell (Nat.le_refl _) _).setCell (Nat.le_refl _) _).setCell (Nat.le_refl _) _).setCell (Nat.le_refl _) _
set_option maxHeartbeats 1600000 in
theorem read_17 (k : Nat) (hk : k < 32) (h30 : k ≠ 30) (hm : O.mask k = 17) (a b : Int) (ha : 0 ≤ a) (ha' : a ≤ 65535) (hb : 0 ≤ b) (hb' : b ≤ 65535) (hak : a / 2048 = k) (w : World) (hs : shapesAt w) :
    Calls Tryz.prog 209 #[.int .u16 a, .int .u16 b] w fun e w' => e = .returned (.tuple #[.agg #[.int .i64 k, .int .i64 (a / 256 % 8), .int .i64 (0), .int .i64 (a % 16), .int .i64 (0)], .int .i64 1]) ∧ Below w.heap.size w w' := by
  have hwd := words_any (.string (O.nameS k)) (.int .i64 (K.cyc k)) k hk
  have HS := hid hs
  have HM := hid hm
  have HW := hid hwd
  rw [hm] at HW
  have eD := (and_mod (a / 256) (by omega) (by omega)).1
  have eN := (and_mod a ha ha').2
  clear hs hm hwd
  go_enter Tryz.func209, Tryz.ntmps209
  go_wp2_with (first
    | (go_at_call 189; refine (shape_yes k hk h30 _ (shapes_alloc HS.out _)).mono ?_; rw [HM.out]; rintro e w1 ⟨rfl, hb1⟩; obtain ⟨hc1, hf1⟩ := bcell hb1; have hz1 : w.heap.size < w1.heap.size := by have := hb1.size; simp at this; omega))
  clear eD eN
  go_region_held3 (fun w' => w'.cell? ⟨w1.heap.size, 0, none⟩ = some (.string (O.nameS k)) ∧ w'.cell? ⟨w1.heap.size, 1, none⟩ = some (.int .i64 (K.cyc k)) ∧ w'.cell? ⟨w1.heap.size, 2, none⟩ = some (.int .i64 17) ∧ w'.cell? ⟨w1.heap.size + 1, 0, none⟩ = some (.int .i64 (k)) ∧ w'.cell? ⟨w1.heap.size + 1, 1, none⟩ = some (.int .i64 (a / 256 % 8)) ∧ w'.cell? ⟨w1.heap.size + 1, 2, none⟩ = some (.int .i64 (0)) ∧ w'.cell? ⟨w1.heap.size + 1, 3, none⟩ = some (.int .i64 (a % 16)) ∧ w'.cell? ⟨w1.heap.size + 1, 4, none⟩ = some (.int .i64 (0)))
    (first
      | with_reducible exact held8 hb2
      | with_reducible exact held8s hz1 (by assumption)
      | (go_keep; done))
    ((go_at_call 210; refine (HW.out _).mono ?_; rintro e w2 ⟨rfl, hb2⟩; obtain ⟨hc2, hf2⟩ := newRes hb1 hb2))
  go_wp2
  refine bodyPost_ret (v := .tuple #[.agg #[.int .i64 k, .int .i64 (a / 256 % 8), .int .i64 (0), .int .i64 (a % 16), .int .i64 (0)], .int .i64 1]) (by simp [results, Tryz.results209, go_sem, hc2, lenOf]) rfl ⟨rfl, ?_⟩
  exact (((((stp (stA (stA (stp (stA (st0 _) _) hb1) _) _).drew hb2).setCell (Nat.le_refl _) _).setCell (Nat.le_refl _) _).setCell (Nat.le_refl _) _).setCell (Nat.le_refl _) _).setCell (Nat.le_refl _) _
theorem lt_box {w w1 : World} {o : Obj} (hb : Below (w.alloc o).heap.size (w.alloc o) w1) : w.heap.size < w1.heap.size := by have := hb.size; simp at this; omega
theorem trapAt {w : World} (h : shapesAt w) : w.cell? ⟨2, 93, none⟩ = some (.string (O.nameS 31)) ∧ w.cell? ⟨2, 94, none⟩ = some (.int .i64 (K.cyc 31)) ∧ w.cell? ⟨2, 95, none⟩ = some (.int .i64 0) := by
  obtain ⟨a, b, c⟩ := h 31 (by omega)
  exact ⟨a, b, c⟩
set_option maxHeartbeats 1600000 in
theorem read_trap (a b : Int) (ha : 0 ≤ a) (ha' : a ≤ 65535) (hb : 0 ≤ b) (hb' : b ≤ 65535) (hak : a / 2048 = 30) (w : World) (hs : shapesAt w) :
    Calls Tryz.prog 209 #[.int .u16 a, .int .u16 b] w fun e w' => e = .returned (.tuple #[.agg #[.int .i64 31, .int .i64 0, .int .i64 0, .int .i64 0, .int .i64 0], .int .i64 1]) ∧ Below w.heap.size w w' := by
  have HW : Hid (∀ w : World, Calls Tryz.prog 210 #[.agg #[.string (O.nameS 31), .int .i64 (K.cyc 31), .int .i64 0]] w fun e w' => e = .returned (.int .i64 1) ∧ Below w.heap.size w w') := fun w => words_any (.string (O.nameS 31)) (.int .i64 (K.cyc 31)) 31 (by omega) w
  have HS := hid hs
  have hg : 2 < w.heap.size := hs.lt
  clear hs
  go_enter Tryz.func209, Tryz.ntmps209
  go_wp2_with (first
    | (go_at_call 189; refine (shape_no 30 (by decide) _ (shapes_alloc HS.out _)).mono ?_; rintro e w1 ⟨rfl, hb1⟩; obtain ⟨c0, c1, c2⟩ := trapAt ((shapes_alloc HS.out _).kept hb1); have hz1 := lt_box hb1; have hg1 : 2 < w1.heap.size := Nat.lt_trans hg hz1; have hg0 : 0 < w1.heap.size := Nat.lt_of_le_of_lt (Nat.zero_le _) hg1))
  go_region_held3 (fun w' => w'.cell? ⟨w1.heap.size, 0, none⟩ = some (.string (O.nameS 31)) ∧ w'.cell? ⟨w1.heap.size, 1, none⟩ = some (.int .i64 (K.cyc 31)) ∧ w'.cell? ⟨w1.heap.size, 2, none⟩ = some (.int .i64 0) ∧ w'.cell? ⟨w1.heap.size + 1, 0, none⟩ = some (.int .i64 31) ∧ w'.cell? ⟨w1.heap.size + 1, 1, none⟩ = some (.int .i64 0) ∧ w'.cell? ⟨w1.heap.size + 1, 2, none⟩ = some (.int .i64 0) ∧ w'.cell? ⟨w1.heap.size + 1, 3, none⟩ = some (.int .i64 0) ∧ w'.cell? ⟨w1.heap.size + 1, 4, none⟩ = some (.int .i64 0))
    (first
      | with_reducible exact held8 hb2
      | with_reducible exact held8s hz1 (by assumption)
      | (go_keep; done))
    ((go_at_call 210; refine (HW.out _).mono ?_; rintro e w2 ⟨rfl, hb2⟩; obtain ⟨hc2, hf2⟩ := newRes hb1 hb2))
  go_wp2
  refine bodyPost_ret (v := .tuple #[.agg #[.int .i64 31, .int .i64 0, .int .i64 0, .int .i64 0, .int .i64 0], .int .i64 1]) (by simp [results, Tryz.results209, go_sem, hc2]) rfl ⟨rfl, ?_⟩
  exact (((((stp (stA (stA (stp (stA (st0 _) _) hb1) _) _).drew hb2).setCell (Nat.le_refl _) _).setCell (Nat.le_refl _) _).setCell (Nat.le_refl _) _).setCell (Nat.le_refl _) _).setCell (Nat.le_refl _) _
def orderV (a b : Int) : Value := .agg #[.int .i64 (O.rOp a), .int .i64 (O.rD a), .int .i64 (O.rS a), .int .i64 (O.rN a), .int .i64 (O.rW a b)]
theorem parts_of (k : Nat) (hk : k < 32) (a b : Int) (hr : O.rOp a = k) :
    O.rD a = (if O.mask k % 2 = 1 then a / 256 % 8 else 0) ∧ O.rS a = (if O.mask k / 2 % 2 = 1 then a / 32 % 8 else 0) ∧ O.rN a = (if O.mask k / 16 % 2 = 1 then a % 16 else if O.mask k / 4 % 2 = 1 then M.low a 5 else 0) ∧
      O.rW a b = (if O.mask k / 8 % 2 = 1 then b else 0) ∧ O.rLen a = lenOf (O.mask k) := by
  have hkk : O.rk a = k := by unfold O.rk; rw [hr]; rfl
  have h : ∀ k, k < 32 → O.hasC k 100 = decide (O.mask k % 2 = 1) ∧ O.hasC k 115 = decide (O.mask k / 2 % 2 = 1) ∧ O.hasC k 119 = decide (O.mask k / 8 % 2 = 1) ∧
      (O.hasC k 110 = (decide (O.mask k / 16 % 2 = 1) || decide (O.mask k / 4 % 2 = 1))) ∧ (decide (O.mask k / 16 % 2 = 1) = decide (k = 12 ∨ k = 13)) := by decide +kernel
  obtain ⟨h1, h2, h3, h4, h5⟩ := h k hk
  unfold O.rD O.rS O.rN O.rW O.rLen lenOf
  rw [hkk, h1, h2, h3, h4]
  refine ⟨by simp only [decide_eq_true_eq], by simp only [decide_eq_true_eq], ?_, by simp only [decide_eq_true_eq], by simp only [decide_eq_true_eq]⟩
  unfold O.nOf
  have h5' := decide_eq_decide.1 h5
  by_cases c : O.mask k / 16 % 2 = 1
  · simp only [c, decide_true, Bool.true_or, if_true, if_pos (h5'.1 c)]
  · have c' : ¬ (k = 12 ∨ k = 13) := fun x => c (h5'.2 x)
    rw [if_neg c', if_neg c, decide_eq_false c, O.low_5]
    simp only [Bool.false_or, decide_eq_true_eq]
theorem read_any (a b : Int) (ha : 0 ≤ a ∧ a ≤ 65535) (hb : 0 ≤ b ∧ b ≤ 65535) (w : World) (hs : shapesAt w) :
    Calls Tryz.prog 209 #[.int .u16 a, .int .u16 b] w fun e w' => e = .returned (.tuple #[orderV a b, .int .i64 (O.rLen a)]) ∧ Below w.heap.size w w' := by
  by_cases h30 : a / 2048 = 30
  · have hr : O.rOp a = ((31 : Nat) : Int) := by unfold O.rOp; rw [if_pos h30]; rfl
    obtain ⟨p1, p2, p3, p4, p5⟩ := parts_of 31 (by omega) a b hr
    have em : O.mask 31 = 0 := by decide +kernel
    rw [em] at p1 p2 p3 p4 p5
    unfold orderV
    rw [hr, p1, p2, p3, p4, p5]
    exact read_trap a b ha.1 ha.2 hb.1 hb.2 h30 w hs
  · obtain ⟨k, hk⟩ := Int.eq_ofNat_of_zero_le (show 0 ≤ a / 2048 by omega)
    have hr : O.rOp a = (k : Int) := by unfold O.rOp; rw [if_neg h30, hk]
    obtain ⟨p1, p2, p3, p4, p5⟩ := parts_of k (by omega) a b hr
    unfold orderV
    rw [hr, p1, p2, p3, p4, p5]
    clear p1 p2 p3 p4 p5
    rcases O.mask_or k (by omega) with h | h | h | h | h | h | h | h | h <;> rw [h]
    · exact read_0 k (by omega) (by omega) h a b ha.1 ha.2 hb.1 hb.2 hk w hs
    · exact read_1 k (by omega) (by omega) h a b ha.1 ha.2 hb.1 hb.2 hk w hs
    · exact read_2 k (by omega) (by omega) h a b ha.1 ha.2 hb.1 hb.2 hk w hs
    · exact read_3 k (by omega) (by omega) h a b ha.1 ha.2 hb.1 hb.2 hk w hs
    · exact read_5 k (by omega) (by omega) h a b ha.1 ha.2 hb.1 hb.2 hk w hs
    · exact read_7 k (by omega) (by omega) h a b ha.1 ha.2 hb.1 hb.2 hk w hs
    · exact read_8 k (by omega) (by omega) h a b ha.1 ha.2 hb.1 hb.2 hk w hs
    · exact read_9 k (by omega) (by omega) h a b ha.1 ha.2 hb.1 hb.2 hk w hs
    · exact read_17 k (by omega) (by omega) h a b ha.1 ha.2 hb.1 hb.2 hk w hs
theorem Asname_yes (k : Nat) (hk : k < 32) (h30 : k ≠ 30) (w : World) (hs : shapesAt w) :
    Calls Tryz.prog 148 #[.int .i64 k] w fun e w' => e = .returned (.tuple #[.string (O.nameS k), .int .i64 0]) ∧ Below w.heap.size w w' := by
  have HS := hid hs
  clear hs
  go_enter Tryz.func148, Tryz.ntmps148
  go_wp2_with (go_at_call 189; refine (shape_yes k hk h30 _ HS.out).mono ?_; rintro e w1 ⟨rfl, hb1⟩)
  go_ret2
  exact ⟨rfl, stA hb1 _⟩
theorem Asname_no (op : Int) (h : O.isOp op = false) (w : World) (hs : shapesAt w) :
    Calls Tryz.prog 148 #[.int .i64 op] w fun e w' => e = .returned (.tuple #[.string ⟨#[]⟩, .int .i64 5]) ∧ Below w.heap.size w w' := by
  have HS := hid hs
  clear hs
  have H := hid h
  clear h
  go_enter Tryz.func148, Tryz.ntmps148
  go_wp2_with (go_at_call 189; refine (shape_no op H.out _ HS.out).mono ?_; rintro e w1 ⟨rfl, hb1⟩)
  go_ret2
  exact ⟨rfl, stA hb1 _⟩
end Go.Proofs.YtdgeghlilkbboaaGreatDoor
