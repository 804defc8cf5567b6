/-
  What package asm's parts of orders answer: of, partsOf; nothing old is written.
-/
import Derived.Test.YtdjhlfoapieohaaGreatDoorAsmB
import Derived.Test.YtdjhlfoapieohaaGreatDoorOrdC
import Derived.Deep.AppendLies
namespace Go.Proofs.YtdjhlfoapieohaaGreatDoor
open Go.ChangeShapes Go.WideShapes Go.ChangeAt Go.RowKit
set_option linter.unusedVariables false

theorem of_0 (g : Nat) (w : World) : Calls Tryz.prog 97 #[.int .i64 0, .pointer (some ⟨g, 0, none⟩)] w fun e w' => e = .returned (.pointer (some ⟨g, 1, none⟩)) ∧ w' = w := by
  go_enter Tryz.func97, Tryz.ntmps97
  go_wp2
  go_ret
  exact ⟨rfl, rfl⟩
theorem of_1 (g : Nat) (w : World) : Calls Tryz.prog 97 #[.int .i64 1, .pointer (some ⟨g, 0, none⟩)] w fun e w' => e = .returned (.pointer (some ⟨g, 2, none⟩)) ∧ w' = w := by
  go_enter Tryz.func97, Tryz.ntmps97
  go_wp2
  go_ret
  exact ⟨rfl, rfl⟩
theorem of_2 (g : Nat) (w : World) : Calls Tryz.prog 97 #[.int .i64 2, .pointer (some ⟨g, 0, none⟩)] w fun e w' => e = .returned (.pointer (some ⟨g, 4, none⟩)) ∧ w' = w := by
  go_enter Tryz.func97, Tryz.ntmps97
  go_wp2
  go_ret
  exact ⟨rfl, rfl⟩
theorem of_3 (g : Nat) (w : World) : Calls Tryz.prog 97 #[.int .i64 3, .pointer (some ⟨g, 0, none⟩)] w fun e w' => e = .returned (.pointer (some ⟨g, 3, none⟩)) ∧ w' = w := by
  go_enter Tryz.func97, Tryz.ntmps97
  go_wp2
  go_ret
  exact ⟨rfl, rfl⟩
theorem info_part : (Tryz.prog.info? 150).map (fun i => (i.zero, i.size, i.bytes)) = some (some (.int .i64 0), 1, 8) := by kernel_rfl
theorem ck_part : ∀ k : Nat, k < 32 → k ≠ 30 → O.ck k 1 0 0 0 = (if O.hasC k 100 then 0 else 3) ∧ O.ck k 0 1 0 0 = (if O.hasC k 115 then 0 else 3) ∧ O.ck k 0 0 0 1 = (if O.hasC k 119 then 0 else 3) ∧ O.ck k 0 0 1 0 = (if O.hasC k 110 then 0 else 3) := by decide +kernel
/-- The first j kinds of parts that an order has. -/
def pcs (k j : Nat) : List Value := ((List.range j).filter (fun p => O.hasC k (S.sgn p))).map (fun p : Nat => Value.int .i64 p)
theorem pcs_no {k j : Nat} (h : O.hasC k (S.sgn j) = false) : pcs k (j + 1) = pcs k j := by unfold pcs; rw [List.range_succ, List.filter_append]; simp [h]
theorem pcs_yes {k j : Nat} (h : O.hasC k (S.sgn j) = true) : pcs k (j + 1) = pcs k j ++ [.int .i64 j] := by unfold pcs; rw [List.range_succ, List.filter_append]; simp [h]
theorem pcs_le (k j : Nat) : (pcs k j).length ≤ j := by
  unfold pcs
  rw [List.length_map]
  exact Nat.le_trans (List.length_filter_le _ _) (by simp)
theorem check_p0 (k : Nat) (hk : k < 32) (h30 : k ≠ 30) (w : World) (hs : shapesAt w) : Calls Tryz.prog 94 #[.agg #[.int .i64 k, .int .i64 1, .int .i64 0, .int .i64 0, .int .i64 0]] w fun e w' => e = .returned (.int .i64 (if O.hasC k 100 then 0 else 3)) ∧ Below w.heap.size w w' :=
  (check_any k 1 0 0 0 w hs).mono fun e w' hh => ⟨by rw [hh.1, (ck_part k hk h30).1], hh.2⟩
theorem check_p1 (k : Nat) (hk : k < 32) (h30 : k ≠ 30) (w : World) (hs : shapesAt w) : Calls Tryz.prog 94 #[.agg #[.int .i64 k, .int .i64 0, .int .i64 1, .int .i64 0, .int .i64 0]] w fun e w' => e = .returned (.int .i64 (if O.hasC k 115 then 0 else 3)) ∧ Below w.heap.size w w' :=
  (check_any k 0 1 0 0 w hs).mono fun e w' hh => ⟨by rw [hh.1, (ck_part k hk h30).2.1], hh.2⟩
theorem check_p2 (k : Nat) (hk : k < 32) (h30 : k ≠ 30) (w : World) (hs : shapesAt w) : Calls Tryz.prog 94 #[.agg #[.int .i64 k, .int .i64 0, .int .i64 0, .int .i64 0, .int .i64 1]] w fun e w' => e = .returned (.int .i64 (if O.hasC k 119 then 0 else 3)) ∧ Below w.heap.size w w' :=
  (check_any k 0 0 0 1 w hs).mono fun e w' hh => ⟨by rw [hh.1, (ck_part k hk h30).2.2.1], hh.2⟩
theorem check_p3 (k : Nat) (hk : k < 32) (h30 : k ≠ 30) (w : World) (hs : shapesAt w) : Calls Tryz.prog 94 #[.agg #[.int .i64 k, .int .i64 0, .int .i64 0, .int .i64 1, .int .i64 0]] w fun e w' => e = .returned (.int .i64 (if O.hasC k 110 then 0 else 3)) ∧ Below w.heap.size w w' :=
  (check_any k 0 0 1 0 w hs).mono fun e w' hh => ⟨by rw [hh.1, (ck_part k hk h30).2.2.2], hh.2⟩
theorem own_none (v : Value) : v.ownBlock = none ∨ v.ownBlock ≠ none := by cases v.ownBlock with
  | none => exact Or.inl rfl
  | some g => exact Or.inr (by simp)
theorem grown_of_below {w w' : World} (h : Below w.heap.size w w') : w.grownBy w' none := ⟨h.os, h.tape, h.output, h.size, fun k hk _ => h.block k hk⟩
set_option maxRecDepth 100000 in
set_option maxHeartbeats 1600000 in
theorem partsOf_any (k : Nat) (hk : k < 32) (h30 : k ≠ 30) (w : World) (hs : shapesAt w) :
    Calls Tryz.prog 96 #[.int .i64 k] w fun e w' => ∃ v, e = .returned v ∧ w'.ownsRow w.heap.size 150 1 v (pcs k 4).length (pcs k 4) ∧ Below w.heap.size w w' := by
  obtain ⟨i0, hi0, hz0, hz1, hz2⟩ := info_parts info_part
  have HS := hid hs
  clear hs
  go_enter Tryz.func96, Tryz.ntmps96
  go_wp2
  go_loopw [3, 4] (fun l i wr => ∃ j : Nat, j ≤ 4 ∧ i = .int .i64 j ∧ wr.ownsRow w.heap.size 150 1 l (pcs k j).length (pcs k j) ∧ Below w.heap.size w wr) (fun _ i _ => 4 - (intOf i).toNat)
  case atStart => exact ⟨0, by omega, rfl, ⟨rfl, Or.inl ⟨rfl, rfl⟩⟩, Below.refl _ _⟩
  case round =>
    obtain ⟨j, hj, rfl, hown, hbl⟩ := hrel
    have hc : j = 0 ∨ j = 1 ∨ j = 2 ∨ j = 3 ∨ j = 4 := by omega
    have hsw := hbl.size
    rcases hc with rfl | rfl | rfl | rfl | rfl
    · cases h0 : O.hasC k 100
      · go_wp2_with (first
          | (go_at_call 97; refine (of_0 _ _).mono ?_; rintro e w' ⟨rfl, rfl⟩)
          | (go_at_call 94; refine (check_p0 k hk h30 _ (shapes_alloc (HS.out.kept hbl) _)).mono ?_; rw [h0]; rintro e w1 ⟨rfl, hb1⟩))
        go_roundw
        case rel => exact ⟨1, by omega, by go_num, by rw [pcs_no (j := 0) h0]; exact (hown.alloc _).kept (grown_of_below hb1) (own_none _), stp (stA hbl _) hb1⟩
        case measure => simp [intOf]
      · go_wp2_with (first
          | (go_at_call 97; refine (of_0 _ _).mono ?_; rintro e w' ⟨rfl, rfl⟩)
          | (go_at_call 94; refine (check_p0 k hk h30 _ (shapes_alloc (HS.out.kept hbl) _)).mono ?_; rw [h0]; rintro e w1 ⟨rfl, hb1⟩; have hown1 := (hown.alloc (.cells #[.int .i64 k, .int .i64 1, .int .i64 0, .int .i64 0, .int .i64 0] 42)).kept (grown_of_below hb1) (own_none _); have hB1 := stp (stA hbl (.cells #[.int .i64 k, .int .i64 1, .int .i64 0, .int .i64 0, .int .i64 0] 42)) hb1)
          | (at_builtin; refine wpList_append_lies _ (by rfl) _ _ _ (by rfl) w.heap.size 150 i0 _ 1 8 Tryz.underlying148 hi0 hz0 hz1 hz2 rfl (by omega) _ (pcs k 0).length _ (by rfl) (hown1.alloc _) ⟨w1.heap.size, 0, none⟩ 1 1 [.int .i64 0] (by rfl) (by rfl) (World.news_of_block (cs := #[.int .i64 0]) (t := 150) (fr := (0, 0)) (heap_alloc_new w1 _)) (by simp [Value.oneCell']) (by omega) (by have := pcs_le k 0; unfold maxLen; omega) (by have := pcs_le k 0; omega) (by have := hB1.size; simp; omega) (w1.heap.size + 1) (by simp) ?_; intro gg cp w3 hown3 hgrow hat hlt3))
        go_roundw
        case rel => exact ⟨1, by omega, by go_num, by rw [pcs_yes (j := 0) h0, List.length_append]; exact hown3, (stA hB1 _).grown hgrow (stA hB1 _).size (fun j hj => (hown.lt j hj).1)⟩
        case measure => simp [intOf]
    · cases h0 : O.hasC k 115
      · go_wp2_with (first
          | (go_at_call 97; refine (of_1 _ _).mono ?_; rintro e w' ⟨rfl, rfl⟩)
          | (go_at_call 94; refine (check_p1 k hk h30 _ (shapes_alloc (HS.out.kept hbl) _)).mono ?_; rw [h0]; rintro e w1 ⟨rfl, hb1⟩))
        go_roundw
        case rel => exact ⟨2, by omega, by go_num, by rw [pcs_no (j := 1) h0]; exact (hown.alloc _).kept (grown_of_below hb1) (own_none _), stp (stA hbl _) hb1⟩
        case measure => simp [intOf]
      · go_wp2_with (first
          | (go_at_call 97; refine (of_1 _ _).mono ?_; rintro e w' ⟨rfl, rfl⟩)
          | (go_at_call 94; refine (check_p1 k hk h30 _ (shapes_alloc (HS.out.kept hbl) _)).mono ?_; rw [h0]; rintro e w1 ⟨rfl, hb1⟩; have hown1 := (hown.alloc (.cells #[.int .i64 k, .int .i64 0, .int .i64 1, .int .i64 0, .int .i64 0] 42)).kept (grown_of_below hb1) (own_none _); have hB1 := stp (stA hbl (.cells #[.int .i64 k, .int .i64 0, .int .i64 1, .int .i64 0, .int .i64 0] 42)) hb1)
          | (at_builtin; refine wpList_append_lies _ (by rfl) _ _ _ (by rfl) w.heap.size 150 i0 _ 1 8 Tryz.underlying148 hi0 hz0 hz1 hz2 rfl (by omega) _ (pcs k 1).length _ (by rfl) (hown1.alloc _) ⟨w1.heap.size, 0, none⟩ 1 1 [.int .i64 1] (by rfl) (by rfl) (World.news_of_block (cs := #[.int .i64 1]) (t := 150) (fr := (0, 0)) (heap_alloc_new w1 _)) (by simp [Value.oneCell']) (by omega) (by have := pcs_le k 1; unfold maxLen; omega) (by have := pcs_le k 1; omega) (by have := hB1.size; simp; omega) (w1.heap.size + 1) (by simp) ?_; intro gg cp w3 hown3 hgrow hat hlt3))
        go_roundw
        case rel => exact ⟨2, by omega, by go_num, by rw [pcs_yes (j := 1) h0, List.length_append]; exact hown3, (stA hB1 _).grown hgrow (stA hB1 _).size (fun j hj => (hown.lt j hj).1)⟩
        case measure => simp [intOf]
    · cases h0 : O.hasC k 119
      · go_wp2_with (first
          | (go_at_call 97; refine (of_2 _ _).mono ?_; rintro e w' ⟨rfl, rfl⟩)
          | (go_at_call 94; refine (check_p2 k hk h30 _ (shapes_alloc (HS.out.kept hbl) _)).mono ?_; rw [h0]; rintro e w1 ⟨rfl, hb1⟩))
        go_roundw
        case rel => exact ⟨3, by omega, by go_num, by rw [pcs_no (j := 2) h0]; exact (hown.alloc _).kept (grown_of_below hb1) (own_none _), stp (stA hbl _) hb1⟩
        case measure => simp [intOf]
      · go_wp2_with (first
          | (go_at_call 97; refine (of_2 _ _).mono ?_; rintro e w' ⟨rfl, rfl⟩)
          | (go_at_call 94; refine (check_p2 k hk h30 _ (shapes_alloc (HS.out.kept hbl) _)).mono ?_; rw [h0]; rintro e w1 ⟨rfl, hb1⟩; have hown1 := (hown.alloc (.cells #[.int .i64 k, .int .i64 0, .int .i64 0, .int .i64 0, .int .i64 1] 42)).kept (grown_of_below hb1) (own_none _); have hB1 := stp (stA hbl (.cells #[.int .i64 k, .int .i64 0, .int .i64 0, .int .i64 0, .int .i64 1] 42)) hb1)
          | (at_builtin; refine wpList_append_lies _ (by rfl) _ _ _ (by rfl) w.heap.size 150 i0 _ 1 8 Tryz.underlying148 hi0 hz0 hz1 hz2 rfl (by omega) _ (pcs k 2).length _ (by rfl) (hown1.alloc _) ⟨w1.heap.size, 0, none⟩ 1 1 [.int .i64 2] (by rfl) (by rfl) (World.news_of_block (cs := #[.int .i64 2]) (t := 150) (fr := (0, 0)) (heap_alloc_new w1 _)) (by simp [Value.oneCell']) (by omega) (by have := pcs_le k 2; unfold maxLen; omega) (by have := pcs_le k 2; omega) (by have := hB1.size; simp; omega) (w1.heap.size + 1) (by simp) ?_; intro gg cp w3 hown3 hgrow hat hlt3))
        go_roundw
        case rel => exact ⟨3, by omega, by go_num, by rw [pcs_yes (j := 2) h0, List.length_append]; exact hown3, (stA hB1 _).grown hgrow (stA hB1 _).size (fun j hj => (hown.lt j hj).1)⟩
        case measure => simp [intOf]
    · cases h0 : O.hasC k 110
      · go_wp2_with (first
          | (go_at_call 97; refine (of_3 _ _).mono ?_; rintro e w' ⟨rfl, rfl⟩)
          | (go_at_call 94; refine (check_p3 k hk h30 _ (shapes_alloc (HS.out.kept hbl) _)).mono ?_; rw [h0]; rintro e w1 ⟨rfl, hb1⟩))
        go_roundw
        case rel => exact ⟨4, by omega, by go_num, by rw [pcs_no (j := 3) h0]; exact (hown.alloc _).kept (grown_of_below hb1) (own_none _), stp (stA hbl _) hb1⟩
        case measure => simp [intOf]
      · go_wp2_with (first
          | (go_at_call 97; refine (of_3 _ _).mono ?_; rintro e w' ⟨rfl, rfl⟩)
          | (go_at_call 94; refine (check_p3 k hk h30 _ (shapes_alloc (HS.out.kept hbl) _)).mono ?_; rw [h0]; rintro e w1 ⟨rfl, hb1⟩; have hown1 := (hown.alloc (.cells #[.int .i64 k, .int .i64 0, .int .i64 0, .int .i64 1, .int .i64 0] 42)).kept (grown_of_below hb1) (own_none _); have hB1 := stp (stA hbl (.cells #[.int .i64 k, .int .i64 0, .int .i64 0, .int .i64 1, .int .i64 0] 42)) hb1)
          | (at_builtin; refine wpList_append_lies _ (by rfl) _ _ _ (by rfl) w.heap.size 150 i0 _ 1 8 Tryz.underlying148 hi0 hz0 hz1 hz2 rfl (by omega) _ (pcs k 3).length _ (by rfl) (hown1.alloc _) ⟨w1.heap.size, 0, none⟩ 1 1 [.int .i64 3] (by rfl) (by rfl) (World.news_of_block (cs := #[.int .i64 3]) (t := 150) (fr := (0, 0)) (heap_alloc_new w1 _)) (by simp [Value.oneCell']) (by omega) (by have := pcs_le k 3; unfold maxLen; omega) (by have := pcs_le k 3; omega) (by have := hB1.size; simp; omega) (w1.heap.size + 1) (by simp) ?_; intro gg cp w3 hown3 hgrow hat hlt3))
        go_roundw
        case rel => exact ⟨4, by omega, by go_num, by rw [pcs_yes (j := 3) h0, List.length_append]; exact hown3, (stA hB1 _).grown hgrow (stA hB1 _).size (fun j hj => (hown.lt j hj).1)⟩
        case measure => simp [intOf]
    · go_wp2
      go_ret
      exact ⟨_, rfl, hown, hbl⟩
end Go.Proofs.YtdjhlfoapieohaaGreatDoor
