/-
  What the reference's Kinds answers: a new slice of the table's 32 orders; nothing old is written.
-/
import Derived.Test.YtpjohnjjjoobjabGreatDoorRows
import Derived.Test.YtpjohnjjjoobjabGreatDoorAsmC
import Derived.Test.YtpjohnjjjoobjabGreatDoorShelf
import Derived.Test.YtpjohnjjjoobjabGreatDoorShelfR
import Derived.WalkKit
import Derived.ProofKit
import Derived.OpenShut
import Derived.WalkSpells
import Derived.Outline
import Derived.Lib.SmallJoins
import Derived.Deep.RegionHeld3
import Derived.Deep.AppendLies
namespace Go.Proofs.YtpjohnjjjoobjabGreatDoor
open Go.ChangeShapes Go.WideShapes Go.ChangeAt Go.RowKit
set_option linter.unusedVariables false

/-- The row of the fields. -/
def fieldRow : Array Value := ((List.range 32).map (fun k => Value.string (K.text k))).toArray
theorem fields_any (w : World) (htab : Lib.TabIs Tryz.prog w "strings.asciiSpace" .u8 Lib.asciiSpaceTab) :
    Calls Tryz.prog 51 #[.string K.table] w fun e w' => e = .returned (.slice (some ⟨w.heap.size, 0, none⟩) 32 32) ∧ w' = w.alloc (.cells fieldRow 9) := by
  have h := Tryz.strings_Fields_laid K.table w (by rw [K.size_table]; omega) K.ascii_table htab
  rw [K.fields_table] at h
  refine h.mono fun e w' hh => ⟨hh.1.trans (by simp), hh.2.trans ?_⟩
  simp [fieldRow, Function.comp_def]
theorem split_any (k : Nat) (hk : k < 32) (m : Int) (w : World) (hm : w.cell? ⟨0, 0, none⟩ = some (.int .i64 m)) :
    Calls Tryz.prog 17 #[.string (K.text k), .string ⟨#[58]⟩] w fun e w' => e = .returned (.slice (some ⟨w.heap.size, 0, none⟩) 3 3) ∧ w' = w.alloc (.cells #[.string (K.name k), .string (K.has k), .string (K.num k)] 9) := by
  have hs := K.sizes k hk
  have h := Tryz.strings_Split (K.text k) K.colon m w (by omega) hm (by decide)
  rw [(K.split_text k hk).1, (K.split_text k hk).2] at h
  exact h.mono fun e w' hh => ⟨hh.1, hh.2.trans (by simp)⟩
theorem parse_any (k : Nat) (hk : k < 32) (w : World) :
    Calls Tryz.prog 49 #[.string (K.num k), .int .i64 10, .int .i64 64] w fun e w' => e = .returned (.tuple #[.int .i64 (K.cyc k), .nilIface]) ∧ Below w.heap.size w w' := by
  have hs := K.sizes k hk
  refine (Tryz.strconv_ParseInt_10_at64_ok (K.num k) (by omega) (K.cyc k) (K.parse_num k hk) w).mono fun e w' hh => ⟨hh.1, ?_⟩
  rcases hh.2 with rfl | ⟨t, rfl⟩
  · exact Below.refl _ _
  · exact Joins.below_bytesWorld _ _ _ _ (Nat.le_refl _)
theorem info_kind : (Tryz.prog.info? 51).map (fun i => (i.zero, i.size, i.bytes)) = some (some (.agg #[.string ⟨#[]⟩, .string ⟨#[]⟩, .int .i64 0]), 3, 40) := by kernel_rfl
theorem field_at (k : Nat) (hk : k < 32) : fieldRow[k]? = some (.string (K.text k)) := by
  unfold fieldRow
  rw [List.getElem?_toArray, List.getElem?_map, List.getElem?_range hk]
  rfl
theorem field_cell (w : World) (k : Nat) (hk : k < 32) : (w.alloc (.cells fieldRow 9)).cell? ⟨w.heap.size, k, none⟩ = some (.string (K.text k)) := by
  rw [World.cell?_alloc_new]; exact field_at k hk

set_option maxRecDepth 100000 in
set_option maxHeartbeats 1600000 in
theorem kinds_any (w : World) (htab : Lib.TabIs Tryz.prog w "strings.asciiSpace" .u8 Lib.asciiSpaceTab) (m : Int) (hm : w.cell? ⟨0, 0, none⟩ = some (.int .i64 m)) :
    Calls Tryz.prog 23 #[] w fun e w' => ∃ v, e = .returned v ∧ w'.ownsRow (w.heap.size + 1) 51 3 v 32 (K.cells 32) ∧ Below w.heap.size w w' := by
  obtain ⟨i0, hi0, hz0, hz1, hz2⟩ := info_parts info_kind
  have HT := hid htab
  clear htab
  have hm4 := World.block_lt_of_cell? w _ hm
  go_enter Tryz.func23, Tryz.ntmps23
  go_wp2_with (go_at_call 51; refine (fields_any _ HT.out).mono ?_; rintro e w' ⟨rfl, rfl⟩)
  go_loopw [1, 9] (fun l i wr => ∃ k : Nat, k ≤ 32 ∧ i = .int .i64 k ∧ wr.ownsRow (w.heap.size + 1) 51 3 l k (K.cells k) ∧ Below (w.heap.size + 1) (w.alloc (.cells fieldRow 9)) wr) (fun _ i _ => 32 - (intOf i).toNat)
  case atStart => exact ⟨0, by omega, rfl, ⟨rfl, Or.inl ⟨rfl, rfl⟩⟩, Below.refl _ _⟩
  case round =>
    obtain ⟨k, hk, rfl, hown, hbl⟩ := hrel
    by_cases hlt : k < 32
    · have hc0 := (hbl.cell (p := ⟨w.heap.size, k, none⟩) (by simp)).trans (field_cell w k hlt)
      have hm1 := ((hbl.cell (p := ⟨0, 0, none⟩) (Nat.lt_succ_of_lt hm4)).trans (World.cell?_alloc_lt w _ _ (by simpa using hm4))).trans hm
      go_wp2_with (first
        | (go_at_call 17; refine (split_any k hlt m _ (by exact hm1)).mono ?_; rintro e w' ⟨rfl, rfl⟩)
        | (go_at_call 49; refine (parse_any k hlt _).mono ?_; rintro e w2 ⟨rfl, hb2⟩))
      have hn0 : w2.cell? ⟨wr.heap.size, 0, none⟩ = some (.string (K.name k)) := (hb2.cell (p := ⟨wr.heap.size, 0, none⟩) (by simp)).trans (by simp)
      have hn1 : w2.cell? ⟨wr.heap.size, 1, none⟩ = some (.string (K.has k)) := (hb2.cell (p := ⟨wr.heap.size, 1, none⟩) (by simp)).trans (by simp)
      have hown2 := (hown.alloc (.cells #[.string (K.name k), .string (K.has k), .string (K.num k)] 9)).kept (grown_of_below hb2) (by cases u1.ownBlock with | none => exact Or.inl rfl | some g => exact Or.inr (by simp))
      have hsz : wr.heap.size + 1 ≤ w2.heap.size := by have := hb2.size; simpa using this
      have hsw : w.heap.size + 1 ≤ wr.heap.size := by have := hbl.size; simpa using this
      have hne : u1.ownBlock ≠ some wr.heap.size := fun e => by have := hown.lt _ e; omega
      go_region_held3 (fun w' => w'.cell? ⟨wr.heap.size, 0, none⟩ = some (.string (K.name k)) ∧ w'.cell? ⟨wr.heap.size, 1, none⟩ = some (.string (K.has k)))
        (first
          | go_keep
          | (go_split_ands
             refine ⟨?_, ?_⟩
             · (rw [hgrow.cell_far _ (by simp; omega) (Ne.symm hne)]; assumption)
             · (rw [hgrow.cell_far _ (by simp; omega) (Ne.symm hne)]; assumption)))
        ((refine step_append_lies _ (by rfl) _ _ _ (by rfl) (w.heap.size + 1) 51 i0 _ 3 40 Tryz.underlying48 hi0 hz0 hz1 hz2 rfl (by omega) u1 k (K.cells k) (by rfl) ((hown2.alloc _).drew)
            ⟨w2.heap.size, 0, none⟩ 1 1 [.string (K.name k), .string (K.has k), .int .i64 (K.cyc k)] (by rfl) (by rfl) (World.news_of_block (cs := #[.string (K.name k), .string (K.has k), .int .i64 (K.cyc k)]) (t := 51) (fr := (0, 0)) (heap_alloc_new w2 _)) (by simp [Value.oneCell'])
            (by omega) (by unfold maxLen; omega) (by omega) (by simp; omega) (w2.heap.size + 1) (by simp) ?_; intro gg cap w3 hown3 hgrow hat hlt3))
      go_wp2
      go_roundw
      case rel => exact ⟨k + 1, by omega, by go_num, hown3, (((hbl.alloc hsw _).trans (hb2.mono (by simp; omega))).alloc (by omega) _).drew.grown hgrow (by simp; omega) (fun j hj => (hown.lt j hj).1)⟩
      case measure => simp [intOf]; omega
    · go_wp2
      go_ret
      have hk32 : k = 32 := by omega
      subst hk32
      exact ⟨_, rfl, hown, ((Below.refl _ _).alloc (Nat.le_refl _) _).trans (hbl.mono (by omega))⟩
/-- Block g of w is a row of the table's 32 orders. -/
def tableAt (w : World) (g : Nat) : Prop := ∀ k, k < 32 → w.cell? ⟨g, k * 3, none⟩ = some (.string (K.name k)) ∧ w.cell? ⟨g, k * 3 + 1, none⟩ = some (.string (K.has k)) ∧ w.cell? ⟨g, k * 3 + 2, none⟩ = some (.int .i64 (K.cyc k))
theorem tableAt.kept {w w' : World} {g B : Nat} (h : tableAt w g) (hb : Below B w w') (hg : g < B) : tableAt w' g := fun k hk => by
  obtain ⟨h1, h2, h3⟩ := h k hk
  exact ⟨(hb.cell hg).trans h1, (hb.cell hg).trans h2, (hb.cell hg).trans h3⟩
theorem kinds_cells (w : World) (htab : Lib.TabIs Tryz.prog w "strings.asciiSpace" .u8 Lib.asciiSpaceTab) (m : Int) (hm : w.cell? ⟨0, 0, none⟩ = some (.int .i64 m)) :
    Calls Tryz.prog 23 #[] w fun e w' => ∃ g cap, e = .returned (.slice (some ⟨g, 0, none⟩) 32 cap) ∧ tableAt w' g ∧ w.heap.size ≤ g ∧ g < w'.heap.size ∧ Below w.heap.size w w' := by
  refine (kinds_any w htab m hm).mono fun e w' ⟨v, he, hown, hb⟩ => ?_
  obtain ⟨g, cap, hv, hbg, hgl⟩ := hown.form (by omega)
  subst hv
  have hadd : ∀ j, (⟨g, 0, none⟩ : Addr).add j = ⟨g, j, none⟩ := fun j => by unfold Addr.add; split <;> simp_all
  refine ⟨g, cap, he, fun k hk => ?_, by omega, hgl, hb⟩
  obtain ⟨h1, h2, h3⟩ := K.cells_at 32 k hk
  exact ⟨hadd _ ▸ hown.cells rfl _ _ h1, hadd _ ▸ hown.cells rfl _ _ h2, hadd _ ▸ hown.cells rfl _ _ h3⟩
theorem kinds_of (w : World) (h : Facts w) :
    Calls Tryz.prog 23 #[] w fun e w' => ∃ g cap, e = .returned (.slice (some ⟨g, 0, none⟩) 32 cap) ∧ tableAt w' g ∧ w.heap.size ≤ g ∧ g < w'.heap.size ∧ Below w.heap.size w w' := by
  obtain ⟨m, hm⟩ := h.len
  exact kinds_cells w h.tab m hm
end Go.Proofs.YtpjohnjjjoobjabGreatDoor
