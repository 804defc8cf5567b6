/-
  The reference's table of orders, its CheckOrder and its WordsOf.
-/
import Derived.Test.YtdjhlfoapieohaaGreatDoorRows
import Derived.Test.YtdjhlfoapieohaaGreatDoorAsmC
import Derived.Test.YtdjhlfoapieohaaGreatDoorShelf
import Derived.Test.YtdjhlfoapieohaaGreatDoorShelfR
import Derived.WalkKit
import Derived.ProofKit
import Derived.OpenShut
import Derived.WalkSpells
import Derived.Outline
import Derived.Lib.SmallJoins
import Derived.Deep.RegionHeld3
import Derived.Deep.AppendLies
import Derived.Test.YtdjhlfoapieohaaGreatDoorOrdB
import Derived.Deep.DeepCutAuto
import Derived.Test.YtdjhlfoapieohaaGreatDoorOrdD
import Derived.Laws.OwnMore
namespace Go.Proofs.YtdjhlfoapieohaaGreatDoor
open Go.ChangeShapes Go.WideShapes Go.ChangeAt Go.RowKit
set_option linter.unusedVariables false

/-- The row of the fields. -/
def fieldRow : Array Value := ((List.range 32).map (fun k => Value.string (K.text k))).toArray
theorem fields_any (w : World) (htab : Lib.TabIs Tryz.prog w "strings.asciiSpace" .u8 Lib.asciiSpaceTab) :
    Calls Tryz.prog 38 #[.string K.table] w fun e w' => e = .returned (.slice (some ⟨w.heap.size, 0, none⟩) 32 32) ∧ w' = w.alloc (.cells fieldRow 9) := by
  have h := Tryz.strings_Fields_laid K.table w (by rw [K.size_table]; omega) K.ascii_table htab
  rw [K.fields_table] at h
  refine h.mono fun e w' hh => ⟨hh.1.trans (by simp), hh.2.trans ?_⟩
  simp [fieldRow, Function.comp_def]
theorem split_any (k : Nat) (hk : k < 32) (m : Int) (w : World) (hm : w.cell? ⟨0, 0, none⟩ = some (.int .i64 m)) :
    Calls Tryz.prog 12 #[.string (K.text k), .string ⟨#[58]⟩] w fun e w' => e = .returned (.slice (some ⟨w.heap.size, 0, none⟩) 3 3) ∧ w' = w.alloc (.cells #[.string (K.name k), .string (K.has k), .string (K.num k)] 9) := by
  have hs := K.sizes k hk
  have h := Tryz.strings_Split (K.text k) K.colon m w (by omega) hm (by decide)
  rw [(K.split_text k hk).1, (K.split_text k hk).2] at h
  exact h.mono fun e w' hh => ⟨hh.1, hh.2.trans (by simp)⟩
theorem parse_any (k : Nat) (hk : k < 32) (w : World) :
    Calls Tryz.prog 36 #[.string (K.num k), .int .i64 10, .int .i64 64] w fun e w' => e = .returned (.tuple #[.int .i64 (K.cyc k), .nilIface]) ∧ Below w.heap.size w w' := by
  have hs := K.sizes k hk
  refine (Tryz.strconv_ParseInt_10_at64_ok (K.num k) (by omega) (K.cyc k) (K.parse_num k hk) w).mono fun e w' hh => ⟨hh.1, ?_⟩
  rcases hh.2 with rfl | ⟨t, rfl⟩
  · exact Below.refl _ _
  · exact Joins.below_bytesWorld _ _ _ _ (Nat.le_refl _)
theorem info_kind : (Tryz.prog.info? 46).map (fun i => (i.zero, i.size, i.bytes)) = some (some (.agg #[.string ⟨#[]⟩, .string ⟨#[]⟩, .int .i64 0]), 3, 40) := by kernel_rfl
theorem field_at (k : Nat) (hk : k < 32) : fieldRow[k]? = some (.string (K.text k)) := by
  unfold fieldRow
  rw [List.getElem?_toArray, List.getElem?_map, List.getElem?_range hk]
  rfl
theorem field_cell (w : World) (k : Nat) (hk : k < 32) : (w.alloc (.cells fieldRow 9)).cell? ⟨w.heap.size, k, none⟩ = some (.string (K.text k)) := by
  rw [World.cell?_alloc_new]; exact field_at k hk

set_option maxRecDepth 100000 in
set_option maxHeartbeats 1600000 in
theorem kinds_any (w : World) (htab : Lib.TabIs Tryz.prog w "strings.asciiSpace" .u8 Lib.asciiSpaceTab) (m : Int) (hm : w.cell? ⟨0, 0, none⟩ = some (.int .i64 m)) :
    Calls Tryz.prog 18 #[] w fun e w' => ∃ v, e = .returned v ∧ w'.ownsRow (w.heap.size + 1) 46 3 v 32 (K.cells 32) ∧ Below w.heap.size w w' := by
  obtain ⟨i0, hi0, hz0, hz1, hz2⟩ := info_parts info_kind
  have HT := hid htab
  clear htab
  have hm4 := World.block_lt_of_cell? w _ hm
  go_enter Tryz.func18, Tryz.ntmps18
  go_wp2_with (go_at_call 38; refine (fields_any _ HT.out).mono ?_; rintro e w' ⟨rfl, rfl⟩)
  go_loopw [1, 9] (fun l i wr => ∃ k : Nat, k ≤ 32 ∧ i = .int .i64 k ∧ wr.ownsRow (w.heap.size + 1) 46 3 l k (K.cells k) ∧ Below (w.heap.size + 1) (w.alloc (.cells fieldRow 9)) wr) (fun _ i _ => 32 - (intOf i).toNat)
  case atStart => exact ⟨0, by omega, rfl, ⟨rfl, Or.inl ⟨rfl, rfl⟩⟩, Below.refl _ _⟩
  case round =>
    obtain ⟨k, hk, rfl, hown, hbl⟩ := hrel
    by_cases hlt : k < 32
    · have hc0 := (hbl.cell (p := ⟨w.heap.size, k, none⟩) (by simp)).trans (field_cell w k hlt)
      have hm1 := ((hbl.cell (p := ⟨0, 0, none⟩) (Nat.lt_succ_of_lt hm4)).trans (World.cell?_alloc_lt w _ _ (by simpa using hm4))).trans hm
      go_wp2_with (first
        | (go_at_call 12; refine (split_any k hlt m _ (by exact hm1)).mono ?_; rintro e w' ⟨rfl, rfl⟩)
        | (go_at_call 36; refine (parse_any k hlt _).mono ?_; rintro e w2 ⟨rfl, hb2⟩))
      have hn0 : w2.cell? ⟨wr.heap.size, 0, none⟩ = some (.string (K.name k)) := (hb2.cell (p := ⟨wr.heap.size, 0, none⟩) (by simp)).trans (by simp)
      have hn1 : w2.cell? ⟨wr.heap.size, 1, none⟩ = some (.string (K.has k)) := (hb2.cell (p := ⟨wr.heap.size, 1, none⟩) (by simp)).trans (by simp)
      have hown2 := (hown.alloc (.cells #[.string (K.name k), .string (K.has k), .string (K.num k)] 9)).kept (grown_of_below hb2) (by cases u1.ownBlock with | none => exact Or.inl rfl | some g => exact Or.inr (by simp))
      have hsz : wr.heap.size + 1 ≤ w2.heap.size := by have := hb2.size; simpa using this
      have hsw : w.heap.size + 1 ≤ wr.heap.size := by have := hbl.size; simpa using this
      have hne : u1.ownBlock ≠ some wr.heap.size := fun e => by have := hown.lt _ e; omega
      go_region_held3 (fun w' => w'.cell? ⟨wr.heap.size, 0, none⟩ = some (.string (K.name k)) ∧ w'.cell? ⟨wr.heap.size, 1, none⟩ = some (.string (K.has k)))
        (first
          | go_keep
          | (go_split_ands
             refine ⟨?_, ?_⟩
             · (rw [hgrow.cell_far _ (by simp; omega) (Ne.symm hne)]; assumption)
             · (rw [hgrow.cell_far _ (by simp; omega) (Ne.symm hne)]; assumption)))
        ((refine step_append_lies _ (by rfl) _ _ _ (by rfl) (w.heap.size + 1) 46 i0 _ 3 40 Tryz.underlying43 hi0 hz0 hz1 hz2 rfl (by omega) u1 k (K.cells k) (by rfl) ((hown2.alloc _).drew)
            ⟨w2.heap.size, 0, none⟩ 1 1 [.string (K.name k), .string (K.has k), .int .i64 (K.cyc k)] (by rfl) (by rfl) (World.news_of_block (cs := #[.string (K.name k), .string (K.has k), .int .i64 (K.cyc k)]) (t := 46) (fr := (0, 0)) (heap_alloc_new w2 _)) (by simp [Value.oneCell'])
            (by omega) (by unfold maxLen; omega) (by omega) (by simp; omega) (w2.heap.size + 1) (by simp) ?_; intro gg cap w3 hown3 hgrow hat hlt3))
      go_wp2
      go_roundw
      case rel => exact ⟨k + 1, by omega, by go_num, hown3, (((hbl.alloc hsw _).trans (hb2.mono (by simp; omega))).alloc (by omega) _).drew.grown hgrow (by simp; omega) (fun j hj => (hown.lt j hj).1)⟩
      case measure => simp [intOf]; omega
    · go_wp2
      go_ret
      have hk32 : k = 32 := by omega
      subst hk32
      exact ⟨_, rfl, hown, ((Below.refl _ _).alloc (Nat.le_refl _) _).trans (hbl.mono (by omega))⟩
/-- Block g of w is a row of the table's 32 orders. -/
def tableAt (w : World) (g : Nat) : Prop := ∀ k, k < 32 → w.cell? ⟨g, k * 3, none⟩ = some (.string (K.name k)) ∧ w.cell? ⟨g, k * 3 + 1, none⟩ = some (.string (K.has k)) ∧ w.cell? ⟨g, k * 3 + 2, none⟩ = some (.int .i64 (K.cyc k))
theorem tableAt.kept {w w' : World} {g B : Nat} (h : tableAt w g) (hb : Below B w w') (hg : g < B) : tableAt w' g := fun k hk => by
  obtain ⟨h1, h2, h3⟩ := h k hk
  exact ⟨(hb.cell hg).trans h1, (hb.cell hg).trans h2, (hb.cell hg).trans h3⟩
theorem kinds_cells (w : World) (htab : Lib.TabIs Tryz.prog w "strings.asciiSpace" .u8 Lib.asciiSpaceTab) (m : Int) (hm : w.cell? ⟨0, 0, none⟩ = some (.int .i64 m)) :
    Calls Tryz.prog 18 #[] w fun e w' => ∃ g cap, e = .returned (.slice (some ⟨g, 0, none⟩) 32 cap) ∧ tableAt w' g ∧ w.heap.size ≤ g ∧ g < w'.heap.size ∧ Below w.heap.size w w' := by
  refine (kinds_any w htab m hm).mono fun e w' ⟨v, he, hown, hb⟩ => ?_
  obtain ⟨g, cap, hv, hbg, hgl⟩ := hown.form (by omega)
  subst hv
  have hadd : ∀ j, (⟨g, 0, none⟩ : Addr).add j = ⟨g, j, none⟩ := fun j => by unfold Addr.add; split <;> simp_all
  refine ⟨g, cap, he, fun k hk => ?_, by omega, hgl, hb⟩
  obtain ⟨h1, h2, h3⟩ := K.cells_at 32 k hk
  exact ⟨hadd _ ▸ hown.cells rfl _ _ h1, hadd _ ▸ hown.cells rfl _ _ h2, hadd _ ▸ hown.cells rfl _ _ h3⟩
theorem kinds_of (w : World) (h : Facts w) :
    Calls Tryz.prog 18 #[] w fun e w' => ∃ g cap, e = .returned (.slice (some ⟨g, 0, none⟩) 32 cap) ∧ tableAt w' g ∧ w.heap.size ≤ g ∧ g < w'.heap.size ∧ Below w.heap.size w w' := by
  obtain ⟨m, hm⟩ := h.len
  exact kinds_cells w h.tab m hm
theorem isOp_any (op : Int) (w : World) : Calls Tryz.prog 39 #[.int .i64 op] w fun e w' => e = .returned (.bool (O.isOp op)) ∧ w' = w := by
  have e : ∀ b, O.isOp op = b → Hid (O.isOp op = b) := fun _ h => h
  by_cases h1 : 0 ≤ op
  · by_cases h2 : op ≤ 31
    · by_cases h3 : op = 30
      · subst h3
        have e := e false (by decide)
        go_enter Tryz.func39, Tryz.ntmps39
        go_wp2
        go_ret
        rw [e.out]
        exact ⟨rfl, rfl⟩
      · have e := e true ((O.isOp_iff op).2 ⟨h1, h2, h3⟩)
        have h3' : (op != 30) = true := by simpa using h3
        go_enter Tryz.func39, Tryz.ntmps39
        go_wp2
        go_ret
        rw [e.out]
        exact ⟨rfl, rfl⟩
    · have e := e false (by rw [Bool.eq_false_iff]; intro h; exact h2 ((O.isOp_iff op).1 h).2.1)
      go_enter Tryz.func39, Tryz.ntmps39
      go_wp2
      go_ret
      rw [e.out]
      exact ⟨rfl, rfl⟩
  · have e := e false (by rw [Bool.eq_false_iff]; intro h; exact h1 ((O.isOp_iff op).1 h).1)
    go_enter Tryz.func39, Tryz.ntmps39
    go_wp2
    go_ret
    rw [e.out]
    exact ⟨rfl, rfl⟩
theorem facts_alloc {w : World} (h : Facts w) {o : Obj} : Facts (w.alloc o) := h.kept (stA (st0 _) _)
theorem facts_drew {w : World} (h : Facts w) : Facts w.drew := h.kept (st0 _).drew
/-- Block b holds the kind of order k, block c the order that came in. -/
structure refAt (w : World) (b c k : Nat) (d s n ww : Int) : Prop where
  k0 : w.cell? ⟨b, 0, none⟩ = some (.string (K.name k))
  k1 : w.cell? ⟨b, 1, none⟩ = some (.string (K.has k))
  k2 : w.cell? ⟨b, 2, none⟩ = some (.int .i64 (K.cyc k))
  o0 : w.cell? ⟨c, 0, none⟩ = some (.int .i64 k)
  o1 : w.cell? ⟨c, 1, none⟩ = some (.int .i64 d)
  o2 : w.cell? ⟨c, 2, none⟩ = some (.int .i64 s)
  o3 : w.cell? ⟨c, 3, none⟩ = some (.int .i64 n)
  o4 : w.cell? ⟨c, 4, none⟩ = some (.int .i64 ww)
  blt : b < w.heap.size
  clt : c < w.heap.size
theorem boxKept {w X w1 : World} {k : Nat} {d s n ww : Int} {t : TypeId} (hX : Below (w.alloc (.cells #[.int .i64 k, .int .i64 d, .int .i64 s, .int .i64 n, .int .i64 ww] t)).heap.size (w.alloc (.cells #[.int .i64 k, .int .i64 d, .int .i64 s, .int .i64 n, .int .i64 ww] t)) X) (hb : Below X.heap.size X w1) :
    w1.cell? ⟨w.heap.size, 0, none⟩ = some (.int .i64 k) ∧ w.heap.size < w1.heap.size ∧ Below (w.alloc (.cells #[.int .i64 k, .int .i64 d, .int .i64 s, .int .i64 n, .int .i64 ww] t)).heap.size (w.alloc (.cells #[.int .i64 k, .int .i64 d, .int .i64 s, .int .i64 n, .int .i64 ww] t)) w1 := by
  have hB := stp hX hb
  exact ⟨(hB.cell (by simp)).trans (by simp), by have := hB.size; simp at this; omega, hB⟩
theorem boxCells {w w1 : World} {k : Nat} {d s n ww : Int} {t : TypeId} (hB : Below (w.alloc (.cells #[.int .i64 k, .int .i64 d, .int .i64 s, .int .i64 n, .int .i64 ww] t)).heap.size (w.alloc (.cells #[.int .i64 k, .int .i64 d, .int .i64 s, .int .i64 n, .int .i64 ww] t)) w1) :
    w1.cell? ⟨w.heap.size, 0, none⟩ = some (.int .i64 k) ∧ w1.cell? ⟨w.heap.size, 1, none⟩ = some (.int .i64 d) ∧ w1.cell? ⟨w.heap.size, 2, none⟩ = some (.int .i64 s) ∧ w1.cell? ⟨w.heap.size, 3, none⟩ = some (.int .i64 n) ∧ w1.cell? ⟨w.heap.size, 4, none⟩ = some (.int .i64 ww) ∧ w.heap.size < w1.heap.size ∧ Below w.heap.size w w1 :=
  ⟨(hB.cell (by simp)).trans (by simp), (hB.cell (by simp)).trans (by simp), (hB.cell (by simp)).trans (by simp), (hB.cell (by simp)).trans (by simp), (hB.cell (by simp)).trans (by simp), by have := hB.size; simp at this; omega, stp (stA (st0 _) _) hB⟩
theorem meetA {w w1 : World} {k : Nat} {d s n ww : Int} {t t' : TypeId} (hB : Below (w.alloc (.cells #[.int .i64 k, .int .i64 d, .int .i64 s, .int .i64 n, .int .i64 ww] t)).heap.size (w.alloc (.cells #[.int .i64 k, .int .i64 d, .int .i64 s, .int .i64 n, .int .i64 ww] t)) w1) :
    ∃ b, Value.pointer (some ⟨w1.heap.size, 0, none⟩) = Value.pointer (some ⟨b, 0, none⟩) ∧ refAt (w1.alloc (.cells #[.string (K.name k), .string (K.has k), .int .i64 (K.cyc k)] t')) b w.heap.size k d s n ww ∧ Below w.heap.size w (w1.alloc (.cells #[.string (K.name k), .string (K.has k), .int .i64 (K.cyc k)] t')) := by
  obtain ⟨h0, h1, h2, h3, h4, hz, hb⟩ := boxCells hB
  have f : ∀ i v, w1.cell? ⟨w.heap.size, i, none⟩ = some v → (w1.alloc (.cells #[.string (K.name k), .string (K.has k), .int .i64 (K.cyc k)] t')).cell? ⟨w.heap.size, i, none⟩ = some v := fun i v h => (World.cell?_alloc_lt _ _ _ hz).trans h
  exact ⟨_, rfl, ⟨cell_new _ _ _ _ rfl, cell_new _ _ _ _ rfl, cell_new _ _ _ _ rfl, f _ _ h0, f _ _ h1, f _ _ h2, f _ _ h3, f _ _ h4, by simp, by simp; omega⟩, stA hb _⟩
theorem meetB {w w1 : World} {k : Nat} {d s n ww : Int} {t : TypeId} {a b c : Value} (hB : Below (w.alloc (.cells #[.int .i64 k, .int .i64 d, .int .i64 s, .int .i64 n, .int .i64 ww] t)).heap.size (w.alloc (.cells #[.int .i64 k, .int .i64 d, .int .i64 s, .int .i64 n, .int .i64 ww] t)) w1)
    (z0 : w1.cell? ⟨w.heap.size + 1, 0, none⟩ = some a) (z1 : w1.cell? ⟨w.heap.size + 1, 1, none⟩ = some b) (z2 : w1.cell? ⟨w.heap.size + 1, 2, none⟩ = some c) :
    ∃ b, Value.pointer (some ⟨w.heap.size + 1, 0, none⟩) = Value.pointer (some ⟨b, 0, none⟩) ∧ refAt (((w1.setCell ⟨w.heap.size + 1, 0, none⟩ (.string (K.name k))).setCell ⟨w.heap.size + 1, 1, none⟩ (.string (K.has k))).setCell ⟨w.heap.size + 1, 2, none⟩ (.int .i64 (K.cyc k))) b w.heap.size k d s n ww ∧
      Below w.heap.size w (((w1.setCell ⟨w.heap.size + 1, 0, none⟩ (.string (K.name k))).setCell ⟨w.heap.size + 1, 1, none⟩ (.string (K.has k))).setCell ⟨w.heap.size + 1, 2, none⟩ (.int .i64 (K.cyc k))) := by
  obtain ⟨h0, h1, h2, h3, h4, hz, hb⟩ := boxCells hB
  have hz2 : w.heap.size + 1 < w1.heap.size := World.block_lt_of_cell? w1 _ z0
  have f : ∀ i v, w1.cell? ⟨w.heap.size, i, none⟩ = some v → (((w1.setCell ⟨w.heap.size + 1, 0, none⟩ (.string (K.name k))).setCell ⟨w.heap.size + 1, 1, none⟩ (.string (K.has k))).setCell ⟨w.heap.size + 1, 2, none⟩ (.int .i64 (K.cyc k))).cell? ⟨w.heap.size, i, none⟩ = some v := fun i v h => by
    rw [World.cell?_setCell_far _ _ _ _ (by simp), World.cell?_setCell_far _ _ _ _ (by simp), World.cell?_setCell_far _ _ _ _ (by simp)]
    exact h
  have e1 : (w1.setCell ⟨w.heap.size + 1, 0, none⟩ (.string (K.name k))).cell? ⟨w.heap.size + 1, 1, none⟩ = some b := (World.cell?_setCell_other _ _ _ _ (by simp)).trans z1
  have e2 : ((w1.setCell ⟨w.heap.size + 1, 0, none⟩ (.string (K.name k))).setCell ⟨w.heap.size + 1, 1, none⟩ (.string (K.has k))).cell? ⟨w.heap.size + 1, 2, none⟩ = some c := (World.cell?_setCell_other _ _ _ _ (by simp)).trans ((World.cell?_setCell_other _ _ _ _ (by simp)).trans z2)
  refine ⟨_, rfl, ⟨?_, ?_, World.cell?_setCell_same _ _ _ e2, f _ _ h0, f _ _ h1, f _ _ h2, f _ _ h3, f _ _ h4, by simpa using hz2, by simpa using hz⟩, ((hb.setCell (Nat.le_succ _) _).setCell (Nat.le_succ _) _).setCell (Nat.le_succ _) _⟩
  · rw [World.cell?_setCell_other _ _ _ _ (by simp), World.cell?_setCell_other _ _ _ _ (by simp)]
    exact World.cell?_setCell_same _ _ _ z0
  · rw [World.cell?_setCell_other _ _ _ _ (by simp)]
    exact World.cell?_setCell_same _ _ _ e1
theorem sh_cases (k : Nat) (hk : k < 32) : ((K.name k).toList = [115, 104, 108] ∧ O.lowN k = 0) ∨ (((K.name k).toList == [115, 104, 108]) = false ∧ ((K.name k).toList == [115, 104, 114]) = true ∧ O.lowN k = 0) ∨
    (((K.name k).toList == [115, 104, 108]) = false ∧ ((K.name k).toList == [115, 104, 114]) = false ∧ O.lowN k = -16) := by
  revert k
  decide +kernel
theorem ckr_no (op d s n ww : Int) (h : O.isOp op = false) (w : World) :
    Calls Tryz.prog 19 #[.agg #[.int .i64 op, .int .i64 d, .int .i64 s, .int .i64 n, .int .i64 ww]] w fun e w' => e = .returned (.int .i64 5) ∧ Below w.heap.size w w' := by
  have H := hid h
  clear h
  go_enter Tryz.func19, Tryz.ntmps19
  go_wp2_with (go_at_call 39; refine (isOp_any op _).mono ?_; rw [H.out]; rintro e w' ⟨rfl, rfl⟩)
  go_ret
  exact ⟨rfl, stA (st0 _) _⟩
/-- What a round of the check reads: the four parts with their limits, and the order's letters. -/
structure RA (w0 wr : World) (B kb k : Nat) (d s n ww low : Int) : Prop where
  c0 : wr.cell? ⟨B, 0, none⟩ = some (.string ⟨#[100]⟩)
  c1 : wr.cell? ⟨B, 1, none⟩ = some (.int .i64 d)
  c2 : wr.cell? ⟨B, 2, none⟩ = some (.int .i64 0)
  c3 : wr.cell? ⟨B, 3, none⟩ = some (.int .i64 7)
  c4 : wr.cell? ⟨B, 4, none⟩ = some (.string ⟨#[115]⟩)
  c5 : wr.cell? ⟨B, 5, none⟩ = some (.int .i64 s)
  c6 : wr.cell? ⟨B, 6, none⟩ = some (.int .i64 0)
  c7 : wr.cell? ⟨B, 7, none⟩ = some (.int .i64 7)
  c8 : wr.cell? ⟨B, 8, none⟩ = some (.string ⟨#[110]⟩)
  c9 : wr.cell? ⟨B, 9, none⟩ = some (.int .i64 n)
  c10 : wr.cell? ⟨B, 10, none⟩ = some (.int .i64 low)
  c11 : wr.cell? ⟨B, 11, none⟩ = some (.int .i64 15)
  c12 : wr.cell? ⟨B, 12, none⟩ = some (.string ⟨#[119]⟩)
  c13 : wr.cell? ⟨B, 13, none⟩ = some (.int .i64 ww)
  c14 : wr.cell? ⟨B, 14, none⟩ = some (.int .i64 0)
  c15 : wr.cell? ⟨B, 15, none⟩ = some (.int .i64 65535)
  hs : wr.cell? ⟨kb, 1, none⟩ = some (.string (K.has k))
  bl : B < wr.heap.size
  kl : kb < wr.heap.size
  be : Below w0.heap.size w0 wr
theorem RA.alloc {w0 wr : World} {B kb k : Nat} {d s n ww low : Int} (h : RA w0 wr B kb k d s n ww low) (o : Obj) : RA w0 (wr.alloc o) B kb k d s n ww low := by
  have f : ∀ i v, wr.cell? ⟨B, i, none⟩ = some v → (wr.alloc o).cell? ⟨B, i, none⟩ = some v := fun i v e => (World.cell?_alloc_lt _ _ _ h.bl).trans e
  exact ⟨f _ _ h.c0, f _ _ h.c1, f _ _ h.c2, f _ _ h.c3, f _ _ h.c4, f _ _ h.c5, f _ _ h.c6, f _ _ h.c7, f _ _ h.c8, f _ _ h.c9, f _ _ h.c10, f _ _ h.c11, f _ _ h.c12, f _ _ h.c13, f _ _ h.c14, f _ _ h.c15, (World.cell?_alloc_lt _ _ _ h.kl).trans h.hs, Nat.lt_of_lt_of_le h.bl (by simp), Nat.lt_of_lt_of_le h.kl (by simp), stA h.be _⟩
def cells16 (d s n ww low : Int) : Array Value := #[.string ⟨#[100]⟩, .int .i64 d, .int .i64 0, .int .i64 7, .string ⟨#[115]⟩, .int .i64 s, .int .i64 0, .int .i64 7, .string ⟨#[110]⟩, .int .i64 n, .int .i64 low, .int .i64 15, .string ⟨#[119]⟩, .int .i64 ww, .int .i64 0, .int .i64 65535]
theorem RA_start {w0 wc : World} {kb k : Nat} {d s n ww low : Int} {t : TypeId} (h1 : wc.cell? ⟨kb, 1, none⟩ = some (.string (K.has k))) (hkl : kb < wc.heap.size) (hb : Below w0.heap.size w0 wc) :
    RA w0 (wc.alloc (.cells (cells16 d s n ww low) t)) wc.heap.size kb k d s n ww low := by
  have e : ∀ i, (wc.alloc (.cells (cells16 d s n ww low) t)).cell? ⟨wc.heap.size, i, none⟩ = (cells16 d s n ww low)[i]? := fun i => cell_new _ _ _ _ rfl
  exact ⟨e 0, e 1, e 2, e 3, e 4, e 5, e 6, e 7, e 8, e 9, e 10, e 11, e 12, e 13, e 14, e 15, (World.cell?_alloc_lt _ _ _ hkl).trans h1, by simp, by simp; omega, stA hb _⟩
/-- The first j parts are right. -/
def okR (k : Nat) (d s n ww : Int) (j : Nat) : Prop := (0 < j → O.part (O.hasC k 100) d 0 7 = true) ∧ (1 < j → O.part (O.hasC k 115) s 0 7 = true) ∧ (2 < j → O.part (O.hasC k 110) n (O.lowN k) 15 = true) ∧ (3 < j → O.part (O.hasC k 119) ww 0 65535 = true)
theorem okR_4 {k : Nat} {d s n ww : Int} (h : okR k d s n ww 4) : O.okB k d s n ww = true := by
  obtain ⟨h1, h2, h3, h4⟩ := h
  unfold O.okB
  rw [h1 (by omega), h2 (by omega), h3 (by omega), h4 (by omega)]; rfl
theorem part_t {x l u : Int} (h : l ≤ x ∧ x ≤ u) : O.part true x l u = true := by unfold O.part; simp [h]
theorem part_f {x l u : Int} (h : ¬ (l ≤ x ∧ x ≤ u)) : O.part true x l u = false := by unfold O.part; simp; omega
theorem part_0 {x l u : Int} (h : x = 0) : O.part false x l u = true := by unfold O.part; simp [h]
theorem part_1 {x l u : Int} (h : ¬ x = 0) : O.part false x l u = false := by unfold O.part; simp [h]
theorem okR_no0 {k : Nat} {d s n ww : Int} (h : O.part (O.hasC k 100) d 0 7 = false) : O.okB k d s n ww = false := by unfold O.okB; rw [h]; simp
theorem okR_s0 {k : Nat} {d s n ww : Int} (a : okR k d s n ww 0) (h : O.part (O.hasC k 100) d 0 7 = true) : okR k d s n ww 1 := by
  obtain ⟨h1, h2, h3, h4⟩ := a
  exact ⟨fun _ => h, fun hh => absurd hh (by omega), fun hh => absurd hh (by omega), fun hh => absurd hh (by omega)⟩
theorem has_0 : ∀ k, k < 32 → decide (0 ≤ Lib.indexByte (K.has k).data.toList 100) = O.hasC k 100 := by decide +kernel
theorem contains_0 (k : Nat) (hk : k < 32) (w : World) : Calls Tryz.prog 25 #[.string (K.has k), .string ⟨#[100]⟩] w fun e w' => e = .returned (.bool (O.hasC k 100)) ∧ w' = w := by
  have h := Tryz.strings_Contains_one (K.has k) 100 w
  rw [has_0 k hk] at h
  exact h
theorem okR_no1 {k : Nat} {d s n ww : Int} (h : O.part (O.hasC k 115) s 0 7 = false) : O.okB k d s n ww = false := by unfold O.okB; rw [h]; simp
theorem okR_s1 {k : Nat} {d s n ww : Int} (a : okR k d s n ww 1) (h : O.part (O.hasC k 115) s 0 7 = true) : okR k d s n ww 2 := by
  obtain ⟨h1, h2, h3, h4⟩ := a
  exact ⟨fun _ => h1 (by omega), fun _ => h, fun hh => absurd hh (by omega), fun hh => absurd hh (by omega)⟩
theorem has_1 : ∀ k, k < 32 → decide (0 ≤ Lib.indexByte (K.has k).data.toList 115) = O.hasC k 115 := by decide +kernel
theorem contains_1 (k : Nat) (hk : k < 32) (w : World) : Calls Tryz.prog 25 #[.string (K.has k), .string ⟨#[115]⟩] w fun e w' => e = .returned (.bool (O.hasC k 115)) ∧ w' = w := by
  have h := Tryz.strings_Contains_one (K.has k) 115 w
  rw [has_1 k hk] at h
  exact h
theorem okR_no2 {k : Nat} {d s n ww : Int} (h : O.part (O.hasC k 110) n (O.lowN k) 15 = false) : O.okB k d s n ww = false := by unfold O.okB; rw [h]; simp
theorem okR_s2 {k : Nat} {d s n ww : Int} (a : okR k d s n ww 2) (h : O.part (O.hasC k 110) n (O.lowN k) 15 = true) : okR k d s n ww 3 := by
  obtain ⟨h1, h2, h3, h4⟩ := a
  exact ⟨fun _ => h1 (by omega), fun _ => h2 (by omega), fun _ => h, fun hh => absurd hh (by omega)⟩
theorem has_2 : ∀ k, k < 32 → decide (0 ≤ Lib.indexByte (K.has k).data.toList 110) = O.hasC k 110 := by decide +kernel
theorem contains_2 (k : Nat) (hk : k < 32) (w : World) : Calls Tryz.prog 25 #[.string (K.has k), .string ⟨#[110]⟩] w fun e w' => e = .returned (.bool (O.hasC k 110)) ∧ w' = w := by
  have h := Tryz.strings_Contains_one (K.has k) 110 w
  rw [has_2 k hk] at h
  exact h
theorem okR_no3 {k : Nat} {d s n ww : Int} (h : O.part (O.hasC k 119) ww 0 65535 = false) : O.okB k d s n ww = false := by unfold O.okB; rw [h]; simp
theorem okR_s3 {k : Nat} {d s n ww : Int} (a : okR k d s n ww 3) (h : O.part (O.hasC k 119) ww 0 65535 = true) : okR k d s n ww 4 := by
  obtain ⟨h1, h2, h3, h4⟩ := a
  exact ⟨fun _ => h1 (by omega), fun _ => h2 (by omega), fun _ => h3 (by omega), fun _ => h⟩
theorem has_3 : ∀ k, k < 32 → decide (0 ≤ Lib.indexByte (K.has k).data.toList 119) = O.hasC k 119 := by decide +kernel
theorem contains_3 (k : Nat) (hk : k < 32) (w : World) : Calls Tryz.prog 25 #[.string (K.has k), .string ⟨#[119]⟩] w fun e w' => e = .returned (.bool (O.hasC k 119)) ∧ w' = w := by
  have h := Tryz.strings_Contains_one (K.has k) 119 w
  rw [has_3 k hk] at h
  exact h
theorem info_u16 : (Tryz.prog.info? 40).map (fun i => (i.zero, i.size, i.bytes)) = some (some (.int .u16 0), 1, 2) := by kernel_rfl
theorem boxD {w w1 X : World} {k : Nat} {d s n ww f : Int} {t t' : TypeId} (hX : Below ((w.alloc (.cells #[.int .i64 k, .int .i64 d, .int .i64 s, .int .i64 n, .int .i64 ww] t)).alloc (.cells #[.int .u16 f] t')).heap.size ((w.alloc (.cells #[.int .i64 k, .int .i64 d, .int .i64 s, .int .i64 n, .int .i64 ww] t)).alloc (.cells #[.int .u16 f] t')) X) (hb : Below X.heap.size X w1) :
    w1.cell? ⟨w.heap.size, 0, none⟩ = some (.int .i64 k) ∧ Below ((w.alloc (.cells #[.int .i64 k, .int .i64 d, .int .i64 s, .int .i64 n, .int .i64 ww] t)).alloc (.cells #[.int .u16 f] t')).heap.size ((w.alloc (.cells #[.int .i64 k, .int .i64 d, .int .i64 s, .int .i64 n, .int .i64 ww] t)).alloc (.cells #[.int .u16 f] t')) w1 := by
  have hB := stp hX hb
  exact ⟨(hB.cell (by simp; omega)).trans (by simp), hB⟩
theorem own_cap {w : World} {base : Nat} {e : TypeId} {size n cap g : Nat} {xs : List Value} (h : w.ownsRow base e size (.slice (some ⟨g, 0, none⟩) n cap) n xs) : n ≤ cap := by
  rcases h.2 with ⟨hv, _⟩ | ⟨g', cap', cur, hv, _, _, hn, _⟩
  · cases hv
  · cases hv; exact hn
set_option maxRecDepth 100000 in
set_option maxHeartbeats 1600000 in
theorem wordsOf_1 (k : Nat) (hk : k < 32) (h30 : k ≠ 30) (d s n ww : Int) (hok : O.okB k d s n ww = true) (hc : O.hasC k 119 = false) (w : World) (hF : Facts w) :
    Calls Tryz.prog 20 #[.agg #[.int .i64 k, .int .i64 d, .int .i64 s, .int .i64 n, .int .i64 ww]] w fun e w' => ∃ g c, e = .returned (.slice (some ⟨g, 0, none⟩) 1 c) ∧ 1 ≤ c ∧ wordsAt w' g [O.first k d s n] ∧ g < w'.heap.size ∧ Below w.heap.size w w' := by
  obtain ⟨⟨d0, d1⟩, ⟨s0, s1⟩, ⟨n0, n1⟩, ⟨w0, ww1⟩⟩ := O.ok_bd hok
  have hf : O.first k d s n = k * 2048 + d * 256 + s * 32 + n % 32 := by unfold O.first; omega
  have HFst := hid hf
  have HF := hid hF
  have HC := hid hc
  clear hF hok hc hf
  have hki : (0 : Int) ≤ k := by omega
  have hki2 : (k : Int) < 32 := by omega
  obtain ⟨i0, hi0, hz0, hz1, hz2⟩ := info_parts info_u16
  go_enter Tryz.func20, Tryz.ntmps20
  go_upto_region 2 with fail
  go_cut [28] (fun b28 wx => b28 = .bool false ∧ Below ((w.alloc (.cells #[.int .i64 k, .int .i64 d, .int .i64 s, .int .i64 n, .int .i64 ww] 42)).alloc (.cells #[.int .u16 (k * 2048 + d * 256 + s * 32 + n % 32)] 40)).heap.size ((w.alloc (.cells #[.int .i64 k, .int .i64 d, .int .i64 s, .int .i64 n, .int .i64 ww] 42)).alloc (.cells #[.int .u16 (k * 2048 + d * 256 + s * 32 + n % 32)] 40)) wx)
  case first =>
    have ad : ∀ (W : World) (o : Obj), W.drew.alloc o = (W.alloc o).drew := fun _ _ => rfl
    go_region_with (first
      | (go_at_call 18; refine (kinds_of _ (by repeat first | exact HF.out | apply facts_drew | apply facts_alloc)).mono ?_; rintro e w1 ⟨g, cap, rfl, htb, hg1, hg2, hb1⟩; obtain ⟨c0, c1, c2⟩ := htb k hk; clear htb; obtain ⟨q0, hB⟩ := boxD (w := w) (k := k) (d := d) (s := s) (n := n) (ww := ww) (f := (k * 2048 + d * 256 + s * 32 + n % 32)) (t := 42) (t' := 40) (by repeat first | with_reducible exact st0 _ | apply Below.drew | apply stA) hb1)
      | (go_at_call 25; refine (contains_3 k hk _).mono ?_; rw [HC.out]; rintro e w' ⟨rfl, rfl⟩))
    all_goals (go_wp2_with fail; go_meet)
    all_goals first | exact ⟨rfl, hB⟩ | exact ⟨rfl, hB.drew⟩ | exact ⟨rfl, hB.drew.drew⟩
  case rest =>
  obtain ⟨rfl, hBw⟩ := hcut
  go_wp2
  go_ret
  refine ⟨w.heap.size + 1, 1, rfl, by omega, fun i hi => ?_, by have := hBw.size; simp at this; omega, stp (stA (stA (st0 _) _) _) hBw⟩
  obtain rfl : i = 0 := by simpa using hi
  rw [hBw.cell (by simp), HFst.out]
  exact cell_new _ _ _ _ (by simp)
set_option maxRecDepth 100000 in
set_option maxHeartbeats 1600000 in
theorem wordsOf_2 (k : Nat) (hk : k < 32) (h30 : k ≠ 30) (d s n ww : Int) (hok : O.okB k d s n ww = true) (hc : O.hasC k 119 = true) (w : World) (hF : Facts w) :
    Calls Tryz.prog 20 #[.agg #[.int .i64 k, .int .i64 d, .int .i64 s, .int .i64 n, .int .i64 ww]] w fun e w' => ∃ g c, e = .returned (.slice (some ⟨g, 0, none⟩) 2 c) ∧ 2 ≤ c ∧ wordsAt w' g [O.first k d s n, ww] ∧ g < w'.heap.size ∧ Below w.heap.size w w' := by
  obtain ⟨⟨d0, d1⟩, ⟨s0, s1⟩, ⟨n0, n1⟩, ⟨w0, ww1⟩⟩ := O.ok_bd hok
  have hf : O.first k d s n = k * 2048 + d * 256 + s * 32 + n % 32 := by unfold O.first; omega
  have HFst := hid hf
  have HF := hid hF
  have HC := hid hc
  clear hF hok hc hf
  have hki : (0 : Int) ≤ k := by omega
  have hki2 : (k : Int) < 32 := by omega
  obtain ⟨i0, hi0, hz0, hz1, hz2⟩ := info_parts info_u16
  go_enter Tryz.func20, Tryz.ntmps20
  go_upto_region 2 with fail
  go_cut [28] (fun b28 wx => b28 = .bool true ∧ Below ((w.alloc (.cells #[.int .i64 k, .int .i64 d, .int .i64 s, .int .i64 n, .int .i64 ww] 42)).alloc (.cells #[.int .u16 (k * 2048 + d * 256 + s * 32 + n % 32)] 40)).heap.size ((w.alloc (.cells #[.int .i64 k, .int .i64 d, .int .i64 s, .int .i64 n, .int .i64 ww] 42)).alloc (.cells #[.int .u16 (k * 2048 + d * 256 + s * 32 + n % 32)] 40)) wx)
  case first =>
    have ad : ∀ (W : World) (o : Obj), W.drew.alloc o = (W.alloc o).drew := fun _ _ => rfl
    go_region_with (first
      | (go_at_call 18; refine (kinds_of _ (by repeat first | exact HF.out | apply facts_drew | apply facts_alloc)).mono ?_; rintro e w1 ⟨g, cap, rfl, htb, hg1, hg2, hb1⟩; obtain ⟨c0, c1, c2⟩ := htb k hk; clear htb; obtain ⟨q0, hB⟩ := boxD (w := w) (k := k) (d := d) (s := s) (n := n) (ww := ww) (f := (k * 2048 + d * 256 + s * 32 + n % 32)) (t := 42) (t' := 40) (by repeat first | with_reducible exact st0 _ | apply Below.drew | apply stA) hb1)
      | (go_at_call 25; refine (contains_3 k hk _).mono ?_; rw [HC.out]; rintro e w' ⟨rfl, rfl⟩))
    all_goals (go_wp2_with fail; go_meet)
    all_goals first | exact ⟨rfl, hB⟩ | exact ⟨rfl, hB.drew⟩ | exact ⟨rfl, hB.drew.drew⟩
  case rest =>
  obtain ⟨rfl, hBw⟩ := hcut
  have q4 : wc.cell? ⟨w.heap.size, 4, none⟩ = some (.int .i64 ww) := (hBw.cell (by simp; omega)).trans (by simp)
  have hown := (World.ownsRow_lit (base := w.heap.size) (e := 40) (size := 1) (w.alloc (.cells #[.int .i64 k, .int .i64 d, .int .i64 s, .int .i64 n, .int .i64 ww] 42)) #[.int .u16 (k * 2048 + d * 256 + s * 32 + n % 32)] 1 (by simp) (by unfold maxLen; omega) rfl).kept (grown_of_below hBw) (Or.inr (fun h => by simp [Value.ownBlock] at h))
  rw [show (w.alloc (.cells #[.int .i64 k, .int .i64 d, .int .i64 s, .int .i64 n, .int .i64 ww] 42)).heap.size = w.heap.size + 1 by simp] at hown
  have hz : w.heap.size + 1 < wc.heap.size := by have := hBw.size; simp at this; omega
  go_wp2_with (at_builtin; refine wpList_append_lies _ (by rfl) _ _ _ (by rfl) w.heap.size 40 i0 _ 1 2 Tryz.underlying38 hi0 hz0 hz1 hz2 rfl (by omega) _ 1 _ (by rfl) (hown.alloc _) ⟨wc.heap.size, 0, none⟩ 1 1 [.int .u16 ww] (by rfl) (by rfl) (World.news_of_block (cs := #[.int .u16 ww]) (t := 40) (fr := (0, 0)) (heap_alloc_new wc _)) (by simp [Value.oneCell']) (by omega) (by unfold maxLen; omega) (by omega) (by simp; omega) (wc.heap.size + 1) (by simp) ?_; intro gg cp w3 hown3 hgrow hat hlt3)
  go_ret
  have hb0 := stA (stp (stA (stA (st0 w) _) _) hBw) (.cells #[.int .u16 ww] 40)
  refine ⟨gg, cp, rfl, own_cap hown3, fun i hi => ?_, hlt3, hb0.grown hgrow hb0.size (fun j hj => by simp [Value.ownBlock] at hj; omega)⟩
  have hi' : i = 0 ∨ i = 1 := by simp at hi; omega
  rw [hown3.cellAt i (by omega), HFst.out]
  rcases hi' with rfl | rfl <;> rfl
theorem wordsOf_any (op d s n ww : Int) (h1 : O.isOp op = true) (hok : O.okB op.toNat d s n ww = true) (w : World) (hF : Facts w) :
    Calls Tryz.prog 20 #[.agg #[.int .i64 op, .int .i64 d, .int .i64 s, .int .i64 n, .int .i64 ww]] w fun e w' => ∃ g c, e = .returned (.slice (some ⟨g, 0, none⟩) (O.words op d s n ww).length c) ∧ (O.words op d s n ww).length ≤ c ∧ wordsAt w' g (O.words op d s n ww) ∧ g < w'.heap.size ∧ Below w.heap.size w w' := by
  obtain ⟨a1, a2, a3⟩ := (O.isOp_iff op).1 h1
  obtain ⟨k, rfl⟩ := Int.eq_ofNat_of_zero_le a1
  rw [Int.toNat_natCast] at hok
  unfold O.words
  rw [Int.toNat_natCast]
  cases hc : O.hasC k 119
  · exact wordsOf_1 k (by omega) (by omega) d s n ww hok hc w hF
  · exact wordsOf_2 k (by omega) (by omega) d s n ww hok hc w hF
set_option maxRecDepth 100000 in
set_option maxHeartbeats 1600000 in
theorem ckr_k1 (k : Nat) (hk : k < 32) (h30 : k ≠ 30) (e1 : (K.name k).toList = [115, 104, 108]) (hl : O.lowN k = 0) (d s n ww : Int) (w : World) (hF : Facts w) :
    Calls Tryz.prog 19 #[.agg #[.int .i64 k, .int .i64 d, .int .i64 s, .int .i64 n, .int .i64 ww]] w fun e w' => e = .returned (.int .i64 (O.ck k d s n ww)) ∧ Below w.heap.size w w' := by
  have H := hid ((O.isOp_iff k).2 (by omega))
  have HF := hid hF
  clear hF
  have hki : (0 : Int) ≤ k := by omega
  have hki2 : (k : Int) < 32 := by omega
  go_enter Tryz.func19, Tryz.ntmps19
  go_upto_region 3 with (go_at_call 39; refine (isOp_any _ _).mono ?_; rw [H.out]; rintro e w' ⟨rfl, rfl⟩)
  go_cut [3] (fun p wx => ∃ b, p = .pointer (some ⟨b, 0, none⟩) ∧ refAt wx b w.heap.size k d s n ww ∧ Below w.heap.size w wx)
  case first =>
    have ad : ∀ (W : World) (o : Obj), W.drew.alloc o = (W.alloc o).drew := fun _ _ => rfl
    have sd : ∀ (W : World) (x : Addr) (v : Value), W.drew.setCell x v = (W.setCell x v).drew := fun _ _ _ => rfl
    go_region_with (go_at_call 18; refine (kinds_of _ (by repeat first | exact HF.out | apply facts_drew | apply facts_alloc)).mono ?_; rintro e w1 ⟨g, cap, rfl, htb, hg1, hg2, hb1⟩; obtain ⟨c0, c1, c2⟩ := htb k hk; clear htb; obtain ⟨hcX, hfX⟩ := bcell hb1; obtain ⟨q0, hz1, hB⟩ := boxKept (w := w) (k := k) (d := d) (s := s) (n := n) (ww := ww) (t := 42) (by repeat first | with_reducible exact st0 _ | apply Below.drew | apply stA) hb1)
    all_goals (go_wp2_with fail; go_meet)
    all_goals first
      | exact meetA hB
      | (refine meetB hB (a := .string ⟨#[]⟩) (b := .string ⟨#[]⟩) (c := .int .i64 0) ?_ ?_ ?_
         · (rw [hcX _ _ (by simp)]; exact cell_new (w.alloc _) _ _ _ (by simp))
         · (rw [hcX _ _ (by simp)]; exact cell_new (w.alloc _) _ _ _ (by simp))
         · (rw [hcX _ _ (by simp)]; exact cell_new (w.alloc _) _ _ _ (by simp)))
  case rest =>
  obtain ⟨kb, rfl, hR, hBw⟩ := hcut
  obtain ⟨k0, k1, k2, o0, o1, o2, o3, o4, blt, clt⟩ := hR
  · go_wp2
    have HRA := RA_start (w0 := w) (d := d) (s := s) (n := n) (ww := ww) (low := 0) (t := 72) k1 blt hBw
    clear k0 k1 k2 o0 o1 o2 o3 o4
    go_loopw [39] (fun i wr => ∃ j : Nat, j ≤ 4 ∧ i = .int .i64 j ∧ okR k d s n ww j ∧ RA w wr wc.heap.size kb k d s n ww 0) (fun i _ => 4 - (intOf i).toNat)
    case atStart => exact ⟨0, by omega, rfl, ⟨fun h => by omega, fun h => by omega, fun h => by omega, fun h => by omega⟩, HRA⟩
    case round =>
      obtain ⟨j, hj, rfl, hok, hra⟩ := hrel
      have OK := hid hok
      have RR := hid hra
      clear hok hra HRA
      have hcs : j = 0 ∨ j = 1 ∨ j = 2 ∨ j = 3 ∨ j = 4 := by omega
      rcases hcs with rfl | rfl | rfl | rfl | rfl
      · have a0 := RR.out.c0
        have a1 := RR.out.c1
        have a2 := RR.out.c2
        have a3 := RR.out.c3
        have a4 := RR.out.hs
        have a5 := RR.out.bl
        have a6 := RR.out.kl
        cases hc : O.hasC k 100
        · have HC := hid hc
          clear hc
          by_cases hx : d = 0
          · have HP := hid (show O.part (O.hasC k 100) d 0 7 = true from by rw [HC.out]; exact part_0 hx)
            have hx' : (d != 0) = false := by simpa using hx
            clear hx
            go_wp2_with (go_at_call 25; refine (contains_0 k hk _).mono ?_; rw [HC.out]; rintro e w' ⟨rfl, rfl⟩)
            go_roundw
            case rel => exact ⟨1, by omega, by go_num, okR_s0 OK.out HP.out, RR.out.alloc _⟩
            case measure => simp [intOf]
          · have HP := hid (okR_no0 (k := k) (d := d) (s := s) (n := n) (ww := ww) (show O.part (O.hasC k 100) d 0 7 = false from by rw [HC.out]; exact part_1 hx))
            have hx' : (d != 0) = true := by simpa using hx
            clear hx
            go_wp2_with (go_at_call 25; refine (contains_0 k hk _).mono ?_; rw [HC.out]; rintro e w' ⟨rfl, rfl⟩)
            go_ret
            rw [ck_yes hk h30, HP.out]
            exact ⟨rfl, stA RR.out.be _⟩
        · have HC := hid hc
          clear hc
          by_cases hx : 0 ≤ d
          · by_cases hy : d ≤ 7
            · have HP := hid (show O.part (O.hasC k 100) d 0 7 = true from by rw [HC.out]; exact part_t ⟨hx, hy⟩)
              go_wp2_with (go_at_call 25; refine (contains_0 k hk _).mono ?_; rw [HC.out]; rintro e w' ⟨rfl, rfl⟩)
              go_roundw
              case rel => exact ⟨1, by omega, by go_num, okR_s0 OK.out HP.out, RR.out.alloc _⟩
              case measure => simp [intOf]
            · have HP := hid (okR_no0 (k := k) (d := d) (s := s) (n := n) (ww := ww) (show O.part (O.hasC k 100) d 0 7 = false from by rw [HC.out]; exact part_f (by omega)))
              go_wp2_with (go_at_call 25; refine (contains_0 k hk _).mono ?_; rw [HC.out]; rintro e w' ⟨rfl, rfl⟩)
              go_ret
              rw [ck_yes hk h30, HP.out]
              exact ⟨rfl, stA RR.out.be _⟩
          · have HP := hid (okR_no0 (k := k) (d := d) (s := s) (n := n) (ww := ww) (show O.part (O.hasC k 100) d 0 7 = false from by rw [HC.out]; exact part_f (by omega)))
            go_wp2_with (go_at_call 25; refine (contains_0 k hk _).mono ?_; rw [HC.out]; rintro e w' ⟨rfl, rfl⟩)
            go_ret
            rw [ck_yes hk h30, HP.out]
            exact ⟨rfl, stA RR.out.be _⟩
      · have a0 := RR.out.c4
        have a1 := RR.out.c5
        have a2 := RR.out.c6
        have a3 := RR.out.c7
        have a4 := RR.out.hs
        have a5 := RR.out.bl
        have a6 := RR.out.kl
        cases hc : O.hasC k 115
        · have HC := hid hc
          clear hc
          by_cases hx : s = 0
          · have HP := hid (show O.part (O.hasC k 115) s 0 7 = true from by rw [HC.out]; exact part_0 hx)
            have hx' : (s != 0) = false := by simpa using hx
            clear hx
            go_wp2_with (go_at_call 25; refine (contains_1 k hk _).mono ?_; rw [HC.out]; rintro e w' ⟨rfl, rfl⟩)
            go_roundw
            case rel => exact ⟨2, by omega, by go_num, okR_s1 OK.out HP.out, RR.out.alloc _⟩
            case measure => simp [intOf]
          · have HP := hid (okR_no1 (k := k) (d := d) (s := s) (n := n) (ww := ww) (show O.part (O.hasC k 115) s 0 7 = false from by rw [HC.out]; exact part_1 hx))
            have hx' : (s != 0) = true := by simpa using hx
            clear hx
            go_wp2_with (go_at_call 25; refine (contains_1 k hk _).mono ?_; rw [HC.out]; rintro e w' ⟨rfl, rfl⟩)
            go_ret
            rw [ck_yes hk h30, HP.out]
            exact ⟨rfl, stA RR.out.be _⟩
        · have HC := hid hc
          clear hc
          by_cases hx : 0 ≤ s
          · by_cases hy : s ≤ 7
            · have HP := hid (show O.part (O.hasC k 115) s 0 7 = true from by rw [HC.out]; exact part_t ⟨hx, hy⟩)
              go_wp2_with (go_at_call 25; refine (contains_1 k hk _).mono ?_; rw [HC.out]; rintro e w' ⟨rfl, rfl⟩)
              go_roundw
              case rel => exact ⟨2, by omega, by go_num, okR_s1 OK.out HP.out, RR.out.alloc _⟩
              case measure => simp [intOf]
            · have HP := hid (okR_no1 (k := k) (d := d) (s := s) (n := n) (ww := ww) (show O.part (O.hasC k 115) s 0 7 = false from by rw [HC.out]; exact part_f (by omega)))
              go_wp2_with (go_at_call 25; refine (contains_1 k hk _).mono ?_; rw [HC.out]; rintro e w' ⟨rfl, rfl⟩)
              go_ret
              rw [ck_yes hk h30, HP.out]
              exact ⟨rfl, stA RR.out.be _⟩
          · have HP := hid (okR_no1 (k := k) (d := d) (s := s) (n := n) (ww := ww) (show O.part (O.hasC k 115) s 0 7 = false from by rw [HC.out]; exact part_f (by omega)))
            go_wp2_with (go_at_call 25; refine (contains_1 k hk _).mono ?_; rw [HC.out]; rintro e w' ⟨rfl, rfl⟩)
            go_ret
            rw [ck_yes hk h30, HP.out]
            exact ⟨rfl, stA RR.out.be _⟩
      · have a0 := RR.out.c8
        have a1 := RR.out.c9
        have a2 := RR.out.c10
        have a3 := RR.out.c11
        have a4 := RR.out.hs
        have a5 := RR.out.bl
        have a6 := RR.out.kl
        cases hc : O.hasC k 110
        · have HC := hid hc
          clear hc
          by_cases hx : n = 0
          · have HP := hid (show O.part (O.hasC k 110) n (O.lowN k) 15 = true from by rw [HC.out, hl]; exact part_0 hx)
            have hx' : (n != 0) = false := by simpa using hx
            clear hx
            go_wp2_with (go_at_call 25; refine (contains_2 k hk _).mono ?_; rw [HC.out]; rintro e w' ⟨rfl, rfl⟩)
            go_roundw
            case rel => exact ⟨3, by omega, by go_num, okR_s2 OK.out HP.out, RR.out.alloc _⟩
            case measure => simp [intOf]
          · have HP := hid (okR_no2 (k := k) (d := d) (s := s) (n := n) (ww := ww) (show O.part (O.hasC k 110) n (O.lowN k) 15 = false from by rw [HC.out, hl]; exact part_1 hx))
            have hx' : (n != 0) = true := by simpa using hx
            clear hx
            go_wp2_with (go_at_call 25; refine (contains_2 k hk _).mono ?_; rw [HC.out]; rintro e w' ⟨rfl, rfl⟩)
            go_ret
            rw [ck_yes hk h30, HP.out]
            exact ⟨rfl, stA RR.out.be _⟩
        · have HC := hid hc
          clear hc
          by_cases hx : 0 ≤ n
          · by_cases hy : n ≤ 15
            · have HP := hid (show O.part (O.hasC k 110) n (O.lowN k) 15 = true from by rw [HC.out, hl]; exact part_t ⟨hx, hy⟩)
              go_wp2_with (go_at_call 25; refine (contains_2 k hk _).mono ?_; rw [HC.out]; rintro e w' ⟨rfl, rfl⟩)
              go_roundw
              case rel => exact ⟨3, by omega, by go_num, okR_s2 OK.out HP.out, RR.out.alloc _⟩
              case measure => simp [intOf]
            · have HP := hid (okR_no2 (k := k) (d := d) (s := s) (n := n) (ww := ww) (show O.part (O.hasC k 110) n (O.lowN k) 15 = false from by rw [HC.out, hl]; exact part_f (by omega)))
              go_wp2_with (go_at_call 25; refine (contains_2 k hk _).mono ?_; rw [HC.out]; rintro e w' ⟨rfl, rfl⟩)
              go_ret
              rw [ck_yes hk h30, HP.out]
              exact ⟨rfl, stA RR.out.be _⟩
          · have HP := hid (okR_no2 (k := k) (d := d) (s := s) (n := n) (ww := ww) (show O.part (O.hasC k 110) n (O.lowN k) 15 = false from by rw [HC.out, hl]; exact part_f (by omega)))
            go_wp2_with (go_at_call 25; refine (contains_2 k hk _).mono ?_; rw [HC.out]; rintro e w' ⟨rfl, rfl⟩)
            go_ret
            rw [ck_yes hk h30, HP.out]
            exact ⟨rfl, stA RR.out.be _⟩
      · have a0 := RR.out.c12
        have a1 := RR.out.c13
        have a2 := RR.out.c14
        have a3 := RR.out.c15
        have a4 := RR.out.hs
        have a5 := RR.out.bl
        have a6 := RR.out.kl
        cases hc : O.hasC k 119
        · have HC := hid hc
          clear hc
          by_cases hx : ww = 0
          · have HP := hid (show O.part (O.hasC k 119) ww 0 65535 = true from by rw [HC.out]; exact part_0 hx)
            have hx' : (ww != 0) = false := by simpa using hx
            clear hx
            go_wp2_with (go_at_call 25; refine (contains_3 k hk _).mono ?_; rw [HC.out]; rintro e w' ⟨rfl, rfl⟩)
            go_roundw
            case rel => exact ⟨4, by omega, by go_num, okR_s3 OK.out HP.out, RR.out.alloc _⟩
            case measure => simp [intOf]
          · have HP := hid (okR_no3 (k := k) (d := d) (s := s) (n := n) (ww := ww) (show O.part (O.hasC k 119) ww 0 65535 = false from by rw [HC.out]; exact part_1 hx))
            have hx' : (ww != 0) = true := by simpa using hx
            clear hx
            go_wp2_with (go_at_call 25; refine (contains_3 k hk _).mono ?_; rw [HC.out]; rintro e w' ⟨rfl, rfl⟩)
            go_ret
            rw [ck_yes hk h30, HP.out]
            exact ⟨rfl, stA RR.out.be _⟩
        · have HC := hid hc
          clear hc
          by_cases hx : 0 ≤ ww
          · by_cases hy : ww ≤ 65535
            · have HP := hid (show O.part (O.hasC k 119) ww 0 65535 = true from by rw [HC.out]; exact part_t ⟨hx, hy⟩)
              go_wp2_with (go_at_call 25; refine (contains_3 k hk _).mono ?_; rw [HC.out]; rintro e w' ⟨rfl, rfl⟩)
              go_roundw
              case rel => exact ⟨4, by omega, by go_num, okR_s3 OK.out HP.out, RR.out.alloc _⟩
              case measure => simp [intOf]
            · have HP := hid (okR_no3 (k := k) (d := d) (s := s) (n := n) (ww := ww) (show O.part (O.hasC k 119) ww 0 65535 = false from by rw [HC.out]; exact part_f (by omega)))
              go_wp2_with (go_at_call 25; refine (contains_3 k hk _).mono ?_; rw [HC.out]; rintro e w' ⟨rfl, rfl⟩)
              go_ret
              rw [ck_yes hk h30, HP.out]
              exact ⟨rfl, stA RR.out.be _⟩
          · have HP := hid (okR_no3 (k := k) (d := d) (s := s) (n := n) (ww := ww) (show O.part (O.hasC k 119) ww 0 65535 = false from by rw [HC.out]; exact part_f (by omega)))
            go_wp2_with (go_at_call 25; refine (contains_3 k hk _).mono ?_; rw [HC.out]; rintro e w' ⟨rfl, rfl⟩)
            go_ret
            rw [ck_yes hk h30, HP.out]
            exact ⟨rfl, stA RR.out.be _⟩
      · have HP := hid (okR_4 OK.out)
        go_wp2
        go_ret
        rw [ck_yes hk h30, HP.out]
        exact ⟨rfl, RR.out.be⟩
set_option maxRecDepth 100000 in
set_option maxHeartbeats 1600000 in
theorem ckr_k2 (k : Nat) (hk : k < 32) (h30 : k ≠ 30) (e1 : ((K.name k).toList == [115, 104, 108]) = false) (e2 : ((K.name k).toList == [115, 104, 114]) = true) (hl : O.lowN k = 0) (d s n ww : Int) (w : World) (hF : Facts w) :
    Calls Tryz.prog 19 #[.agg #[.int .i64 k, .int .i64 d, .int .i64 s, .int .i64 n, .int .i64 ww]] w fun e w' => e = .returned (.int .i64 (O.ck k d s n ww)) ∧ Below w.heap.size w w' := by
  have H := hid ((O.isOp_iff k).2 (by omega))
  have HF := hid hF
  clear hF
  have hki : (0 : Int) ≤ k := by omega
  have hki2 : (k : Int) < 32 := by omega
  go_enter Tryz.func19, Tryz.ntmps19
  go_upto_region 3 with (go_at_call 39; refine (isOp_any _ _).mono ?_; rw [H.out]; rintro e w' ⟨rfl, rfl⟩)
  go_cut [3] (fun p wx => ∃ b, p = .pointer (some ⟨b, 0, none⟩) ∧ refAt wx b w.heap.size k d s n ww ∧ Below w.heap.size w wx)
  case first =>
    have ad : ∀ (W : World) (o : Obj), W.drew.alloc o = (W.alloc o).drew := fun _ _ => rfl
    have sd : ∀ (W : World) (x : Addr) (v : Value), W.drew.setCell x v = (W.setCell x v).drew := fun _ _ _ => rfl
    go_region_with (go_at_call 18; refine (kinds_of _ (by repeat first | exact HF.out | apply facts_drew | apply facts_alloc)).mono ?_; rintro e w1 ⟨g, cap, rfl, htb, hg1, hg2, hb1⟩; obtain ⟨c0, c1, c2⟩ := htb k hk; clear htb; obtain ⟨hcX, hfX⟩ := bcell hb1; obtain ⟨q0, hz1, hB⟩ := boxKept (w := w) (k := k) (d := d) (s := s) (n := n) (ww := ww) (t := 42) (by repeat first | with_reducible exact st0 _ | apply Below.drew | apply stA) hb1)
    all_goals (go_wp2_with fail; go_meet)
    all_goals first
      | exact meetA hB
      | (refine meetB hB (a := .string ⟨#[]⟩) (b := .string ⟨#[]⟩) (c := .int .i64 0) ?_ ?_ ?_
         · (rw [hcX _ _ (by simp)]; exact cell_new (w.alloc _) _ _ _ (by simp))
         · (rw [hcX _ _ (by simp)]; exact cell_new (w.alloc _) _ _ _ (by simp))
         · (rw [hcX _ _ (by simp)]; exact cell_new (w.alloc _) _ _ _ (by simp)))
  case rest =>
  obtain ⟨kb, rfl, hR, hBw⟩ := hcut
  obtain ⟨k0, k1, k2, o0, o1, o2, o3, o4, blt, clt⟩ := hR
  · go_wp2
    have HRA := RA_start (w0 := w) (d := d) (s := s) (n := n) (ww := ww) (low := 0) (t := 72) k1 blt hBw
    clear k0 k1 k2 o0 o1 o2 o3 o4
    go_loopw [39] (fun i wr => ∃ j : Nat, j ≤ 4 ∧ i = .int .i64 j ∧ okR k d s n ww j ∧ RA w wr wc.heap.size kb k d s n ww 0) (fun i _ => 4 - (intOf i).toNat)
    case atStart => exact ⟨0, by omega, rfl, ⟨fun h => by omega, fun h => by omega, fun h => by omega, fun h => by omega⟩, HRA⟩
    case round =>
      obtain ⟨j, hj, rfl, hok, hra⟩ := hrel
      have OK := hid hok
      have RR := hid hra
      clear hok hra HRA
      have hcs : j = 0 ∨ j = 1 ∨ j = 2 ∨ j = 3 ∨ j = 4 := by omega
      rcases hcs with rfl | rfl | rfl | rfl | rfl
      · have a0 := RR.out.c0
        have a1 := RR.out.c1
        have a2 := RR.out.c2
        have a3 := RR.out.c3
        have a4 := RR.out.hs
        have a5 := RR.out.bl
        have a6 := RR.out.kl
        cases hc : O.hasC k 100
        · have HC := hid hc
          clear hc
          by_cases hx : d = 0
          · have HP := hid (show O.part (O.hasC k 100) d 0 7 = true from by rw [HC.out]; exact part_0 hx)
            have hx' : (d != 0) = false := by simpa using hx
            clear hx
            go_wp2_with (go_at_call 25; refine (contains_0 k hk _).mono ?_; rw [HC.out]; rintro e w' ⟨rfl, rfl⟩)
            go_roundw
            case rel => exact ⟨1, by omega, by go_num, okR_s0 OK.out HP.out, RR.out.alloc _⟩
            case measure => simp [intOf]
          · have HP := hid (okR_no0 (k := k) (d := d) (s := s) (n := n) (ww := ww) (show O.part (O.hasC k 100) d 0 7 = false from by rw [HC.out]; exact part_1 hx))
            have hx' : (d != 0) = true := by simpa using hx
            clear hx
            go_wp2_with (go_at_call 25; refine (contains_0 k hk _).mono ?_; rw [HC.out]; rintro e w' ⟨rfl, rfl⟩)
            go_ret
            rw [ck_yes hk h30, HP.out]
            exact ⟨rfl, stA RR.out.be _⟩
        · have HC := hid hc
          clear hc
          by_cases hx : 0 ≤ d
          · by_cases hy : d ≤ 7
            · have HP := hid (show O.part (O.hasC k 100) d 0 7 = true from by rw [HC.out]; exact part_t ⟨hx, hy⟩)
              go_wp2_with (go_at_call 25; refine (contains_0 k hk _).mono ?_; rw [HC.out]; rintro e w' ⟨rfl, rfl⟩)
              go_roundw
              case rel => exact ⟨1, by omega, by go_num, okR_s0 OK.out HP.out, RR.out.alloc _⟩
              case measure => simp [intOf]
            · have HP := hid (okR_no0 (k := k) (d := d) (s := s) (n := n) (ww := ww) (show O.part (O.hasC k 100) d 0 7 = false from by rw [HC.out]; exact part_f (by omega)))
              go_wp2_with (go_at_call 25; refine (contains_0 k hk _).mono ?_; rw [HC.out]; rintro e w' ⟨rfl, rfl⟩)
              go_ret
              rw [ck_yes hk h30, HP.out]
              exact ⟨rfl, stA RR.out.be _⟩
          · have HP := hid (okR_no0 (k := k) (d := d) (s := s) (n := n) (ww := ww) (show O.part (O.hasC k 100) d 0 7 = false from by rw [HC.out]; exact part_f (by omega)))
            go_wp2_with (go_at_call 25; refine (contains_0 k hk _).mono ?_; rw [HC.out]; rintro e w' ⟨rfl, rfl⟩)
            go_ret
            rw [ck_yes hk h30, HP.out]
            exact ⟨rfl, stA RR.out.be _⟩
      · have a0 := RR.out.c4
        have a1 := RR.out.c5
        have a2 := RR.out.c6
        have a3 := RR.out.c7
        have a4 := RR.out.hs
        have a5 := RR.out.bl
        have a6 := RR.out.kl
        cases hc : O.hasC k 115
        · have HC := hid hc
          clear hc
          by_cases hx : s = 0
          · have HP := hid (show O.part (O.hasC k 115) s 0 7 = true from by rw [HC.out]; exact part_0 hx)
            have hx' : (s != 0) = false := by simpa using hx
            clear hx
            go_wp2_with (go_at_call 25; refine (contains_1 k hk _).mono ?_; rw [HC.out]; rintro e w' ⟨rfl, rfl⟩)
            go_roundw
            case rel => exact ⟨2, by omega, by go_num, okR_s1 OK.out HP.out, RR.out.alloc _⟩
            case measure => simp [intOf]
          · have HP := hid (okR_no1 (k := k) (d := d) (s := s) (n := n) (ww := ww) (show O.part (O.hasC k 115) s 0 7 = false from by rw [HC.out]; exact part_1 hx))
            have hx' : (s != 0) = true := by simpa using hx
            clear hx
            go_wp2_with (go_at_call 25; refine (contains_1 k hk _).mono ?_; rw [HC.out]; rintro e w' ⟨rfl, rfl⟩)
            go_ret
            rw [ck_yes hk h30, HP.out]
            exact ⟨rfl, stA RR.out.be _⟩
        · have HC := hid hc
          clear hc
          by_cases hx : 0 ≤ s
          · by_cases hy : s ≤ 7
            · have HP := hid (show O.part (O.hasC k 115) s 0 7 = true from by rw [HC.out]; exact part_t ⟨hx, hy⟩)
              go_wp2_with (go_at_call 25; refine (contains_1 k hk _).mono ?_; rw [HC.out]; rintro e w' ⟨rfl, rfl⟩)
              go_roundw
              case rel => exact ⟨2, by omega, by go_num, okR_s1 OK.out HP.out, RR.out.alloc _⟩
              case measure => simp [intOf]
            · have HP := hid (okR_no1 (k := k) (d := d) (s := s) (n := n) (ww := ww) (show O.part (O.hasC k 115) s 0 7 = false from by rw [HC.out]; exact part_f (by omega)))
              go_wp2_with (go_at_call 25; refine (contains_1 k hk _).mono ?_; rw [HC.out]; rintro e w' ⟨rfl, rfl⟩)
              go_ret
              rw [ck_yes hk h30, HP.out]
              exact ⟨rfl, stA RR.out.be _⟩
          · have HP := hid (okR_no1 (k := k) (d := d) (s := s) (n := n) (ww := ww) (show O.part (O.hasC k 115) s 0 7 = false from by rw [HC.out]; exact part_f (by omega)))
            go_wp2_with (go_at_call 25; refine (contains_1 k hk _).mono ?_; rw [HC.out]; rintro e w' ⟨rfl, rfl⟩)
            go_ret
            rw [ck_yes hk h30, HP.out]
            exact ⟨rfl, stA RR.out.be _⟩
      · have a0 := RR.out.c8
        have a1 := RR.out.c9
        have a2 := RR.out.c10
        have a3 := RR.out.c11
        have a4 := RR.out.hs
        have a5 := RR.out.bl
        have a6 := RR.out.kl
        cases hc : O.hasC k 110
        · have HC := hid hc
          clear hc
          by_cases hx : n = 0
          · have HP := hid (show O.part (O.hasC k 110) n (O.lowN k) 15 = true from by rw [HC.out, hl]; exact part_0 hx)
            have hx' : (n != 0) = false := by simpa using hx
            clear hx
            go_wp2_with (go_at_call 25; refine (contains_2 k hk _).mono ?_; rw [HC.out]; rintro e w' ⟨rfl, rfl⟩)
            go_roundw
            case rel => exact ⟨3, by omega, by go_num, okR_s2 OK.out HP.out, RR.out.alloc _⟩
            case measure => simp [intOf]
          · have HP := hid (okR_no2 (k := k) (d := d) (s := s) (n := n) (ww := ww) (show O.part (O.hasC k 110) n (O.lowN k) 15 = false from by rw [HC.out, hl]; exact part_1 hx))
            have hx' : (n != 0) = true := by simpa using hx
            clear hx
            go_wp2_with (go_at_call 25; refine (contains_2 k hk _).mono ?_; rw [HC.out]; rintro e w' ⟨rfl, rfl⟩)
            go_ret
            rw [ck_yes hk h30, HP.out]
            exact ⟨rfl, stA RR.out.be _⟩
        · have HC := hid hc
          clear hc
          by_cases hx : 0 ≤ n
          · by_cases hy : n ≤ 15
            · have HP := hid (show O.part (O.hasC k 110) n (O.lowN k) 15 = true from by rw [HC.out, hl]; exact part_t ⟨hx, hy⟩)
              go_wp2_with (go_at_call 25; refine (contains_2 k hk _).mono ?_; rw [HC.out]; rintro e w' ⟨rfl, rfl⟩)
              go_roundw
              case rel => exact ⟨3, by omega, by go_num, okR_s2 OK.out HP.out, RR.out.alloc _⟩
              case measure => simp [intOf]
            · have HP := hid (okR_no2 (k := k) (d := d) (s := s) (n := n) (ww := ww) (show O.part (O.hasC k 110) n (O.lowN k) 15 = false from by rw [HC.out, hl]; exact part_f (by omega)))
              go_wp2_with (go_at_call 25; refine (contains_2 k hk _).mono ?_; rw [HC.out]; rintro e w' ⟨rfl, rfl⟩)
              go_ret
              rw [ck_yes hk h30, HP.out]
              exact ⟨rfl, stA RR.out.be _⟩
          · have HP := hid (okR_no2 (k := k) (d := d) (s := s) (n := n) (ww := ww) (show O.part (O.hasC k 110) n (O.lowN k) 15 = false from by rw [HC.out, hl]; exact part_f (by omega)))
            go_wp2_with (go_at_call 25; refine (contains_2 k hk _).mono ?_; rw [HC.out]; rintro e w' ⟨rfl, rfl⟩)
            go_ret
            rw [ck_yes hk h30, HP.out]
            exact ⟨rfl, stA RR.out.be _⟩
      · have a0 := RR.out.c12
        have a1 := RR.out.c13
        have a2 := RR.out.c14
        have a3 := RR.out.c15
        have a4 := RR.out.hs
        have a5 := RR.out.bl
        have a6 := RR.out.kl
        cases hc : O.hasC k 119
        · have HC := hid hc
          clear hc
          by_cases hx : ww = 0
          · have HP := hid (show O.part (O.hasC k 119) ww 0 65535 = true from by rw [HC.out]; exact part_0 hx)
            have hx' : (ww != 0) = false := by simpa using hx
            clear hx
            go_wp2_with (go_at_call 25; refine (contains_3 k hk _).mono ?_; rw [HC.out]; rintro e w' ⟨rfl, rfl⟩)
            go_roundw
            case rel => exact ⟨4, by omega, by go_num, okR_s3 OK.out HP.out, RR.out.alloc _⟩
            case measure => simp [intOf]
          · have HP := hid (okR_no3 (k := k) (d := d) (s := s) (n := n) (ww := ww) (show O.part (O.hasC k 119) ww 0 65535 = false from by rw [HC.out]; exact part_1 hx))
            have hx' : (ww != 0) = true := by simpa using hx
            clear hx
            go_wp2_with (go_at_call 25; refine (contains_3 k hk _).mono ?_; rw [HC.out]; rintro e w' ⟨rfl, rfl⟩)
            go_ret
            rw [ck_yes hk h30, HP.out]
            exact ⟨rfl, stA RR.out.be _⟩
        · have HC := hid hc
          clear hc
          by_cases hx : 0 ≤ ww
          · by_cases hy : ww ≤ 65535
            · have HP := hid (show O.part (O.hasC k 119) ww 0 65535 = true from by rw [HC.out]; exact part_t ⟨hx, hy⟩)
              go_wp2_with (go_at_call 25; refine (contains_3 k hk _).mono ?_; rw [HC.out]; rintro e w' ⟨rfl, rfl⟩)
              go_roundw
              case rel => exact ⟨4, by omega, by go_num, okR_s3 OK.out HP.out, RR.out.alloc _⟩
              case measure => simp [intOf]
            · have HP := hid (okR_no3 (k := k) (d := d) (s := s) (n := n) (ww := ww) (show O.part (O.hasC k 119) ww 0 65535 = false from by rw [HC.out]; exact part_f (by omega)))
              go_wp2_with (go_at_call 25; refine (contains_3 k hk _).mono ?_; rw [HC.out]; rintro e w' ⟨rfl, rfl⟩)
              go_ret
              rw [ck_yes hk h30, HP.out]
              exact ⟨rfl, stA RR.out.be _⟩
          · have HP := hid (okR_no3 (k := k) (d := d) (s := s) (n := n) (ww := ww) (show O.part (O.hasC k 119) ww 0 65535 = false from by rw [HC.out]; exact part_f (by omega)))
            go_wp2_with (go_at_call 25; refine (contains_3 k hk _).mono ?_; rw [HC.out]; rintro e w' ⟨rfl, rfl⟩)
            go_ret
            rw [ck_yes hk h30, HP.out]
            exact ⟨rfl, stA RR.out.be _⟩
      · have HP := hid (okR_4 OK.out)
        go_wp2
        go_ret
        rw [ck_yes hk h30, HP.out]
        exact ⟨rfl, RR.out.be⟩
set_option maxRecDepth 100000 in
set_option maxHeartbeats 1600000 in
theorem ckr_k3 (k : Nat) (hk : k < 32) (h30 : k ≠ 30) (e1 : ((K.name k).toList == [115, 104, 108]) = false) (e2 : ((K.name k).toList == [115, 104, 114]) = false) (hl : O.lowN k = -16) (d s n ww : Int) (w : World) (hF : Facts w) :
    Calls Tryz.prog 19 #[.agg #[.int .i64 k, .int .i64 d, .int .i64 s, .int .i64 n, .int .i64 ww]] w fun e w' => e = .returned (.int .i64 (O.ck k d s n ww)) ∧ Below w.heap.size w w' := by
  have H := hid ((O.isOp_iff k).2 (by omega))
  have HF := hid hF
  clear hF
  have hki : (0 : Int) ≤ k := by omega
  have hki2 : (k : Int) < 32 := by omega
  go_enter Tryz.func19, Tryz.ntmps19
  go_upto_region 3 with (go_at_call 39; refine (isOp_any _ _).mono ?_; rw [H.out]; rintro e w' ⟨rfl, rfl⟩)
  go_cut [3] (fun p wx => ∃ b, p = .pointer (some ⟨b, 0, none⟩) ∧ refAt wx b w.heap.size k d s n ww ∧ Below w.heap.size w wx)
  case first =>
    have ad : ∀ (W : World) (o : Obj), W.drew.alloc o = (W.alloc o).drew := fun _ _ => rfl
    have sd : ∀ (W : World) (x : Addr) (v : Value), W.drew.setCell x v = (W.setCell x v).drew := fun _ _ _ => rfl
    go_region_with (go_at_call 18; refine (kinds_of _ (by repeat first | exact HF.out | apply facts_drew | apply facts_alloc)).mono ?_; rintro e w1 ⟨g, cap, rfl, htb, hg1, hg2, hb1⟩; obtain ⟨c0, c1, c2⟩ := htb k hk; clear htb; obtain ⟨hcX, hfX⟩ := bcell hb1; obtain ⟨q0, hz1, hB⟩ := boxKept (w := w) (k := k) (d := d) (s := s) (n := n) (ww := ww) (t := 42) (by repeat first | with_reducible exact st0 _ | apply Below.drew | apply stA) hb1)
    all_goals (go_wp2_with fail; go_meet)
    all_goals first
      | exact meetA hB
      | (refine meetB hB (a := .string ⟨#[]⟩) (b := .string ⟨#[]⟩) (c := .int .i64 0) ?_ ?_ ?_
         · (rw [hcX _ _ (by simp)]; exact cell_new (w.alloc _) _ _ _ (by simp))
         · (rw [hcX _ _ (by simp)]; exact cell_new (w.alloc _) _ _ _ (by simp))
         · (rw [hcX _ _ (by simp)]; exact cell_new (w.alloc _) _ _ _ (by simp)))
  case rest =>
  obtain ⟨kb, rfl, hR, hBw⟩ := hcut
  obtain ⟨k0, k1, k2, o0, o1, o2, o3, o4, blt, clt⟩ := hR
  · go_wp2
    have HRA := RA_start (w0 := w) (d := d) (s := s) (n := n) (ww := ww) (low := (-16)) (t := 72) k1 blt hBw
    clear k0 k1 k2 o0 o1 o2 o3 o4
    go_loopw [39] (fun i wr => ∃ j : Nat, j ≤ 4 ∧ i = .int .i64 j ∧ okR k d s n ww j ∧ RA w wr wc.heap.size kb k d s n ww (-16)) (fun i _ => 4 - (intOf i).toNat)
    case atStart => exact ⟨0, by omega, rfl, ⟨fun h => by omega, fun h => by omega, fun h => by omega, fun h => by omega⟩, HRA⟩
    case round =>
      obtain ⟨j, hj, rfl, hok, hra⟩ := hrel
      have OK := hid hok
      have RR := hid hra
      clear hok hra HRA
      have hcs : j = 0 ∨ j = 1 ∨ j = 2 ∨ j = 3 ∨ j = 4 := by omega
      rcases hcs with rfl | rfl | rfl | rfl | rfl
      · have a0 := RR.out.c0
        have a1 := RR.out.c1
        have a2 := RR.out.c2
        have a3 := RR.out.c3
        have a4 := RR.out.hs
        have a5 := RR.out.bl
        have a6 := RR.out.kl
        cases hc : O.hasC k 100
        · have HC := hid hc
          clear hc
          by_cases hx : d = 0
          · have HP := hid (show O.part (O.hasC k 100) d 0 7 = true from by rw [HC.out]; exact part_0 hx)
            have hx' : (d != 0) = false := by simpa using hx
            clear hx
            go_wp2_with (go_at_call 25; refine (contains_0 k hk _).mono ?_; rw [HC.out]; rintro e w' ⟨rfl, rfl⟩)
            go_roundw
            case rel => exact ⟨1, by omega, by go_num, okR_s0 OK.out HP.out, RR.out.alloc _⟩
            case measure => simp [intOf]
          · have HP := hid (okR_no0 (k := k) (d := d) (s := s) (n := n) (ww := ww) (show O.part (O.hasC k 100) d 0 7 = false from by rw [HC.out]; exact part_1 hx))
            have hx' : (d != 0) = true := by simpa using hx
            clear hx
            go_wp2_with (go_at_call 25; refine (contains_0 k hk _).mono ?_; rw [HC.out]; rintro e w' ⟨rfl, rfl⟩)
            go_ret
            rw [ck_yes hk h30, HP.out]
            exact ⟨rfl, stA RR.out.be _⟩
        · have HC := hid hc
          clear hc
          by_cases hx : 0 ≤ d
          · by_cases hy : d ≤ 7
            · have HP := hid (show O.part (O.hasC k 100) d 0 7 = true from by rw [HC.out]; exact part_t ⟨hx, hy⟩)
              go_wp2_with (go_at_call 25; refine (contains_0 k hk _).mono ?_; rw [HC.out]; rintro e w' ⟨rfl, rfl⟩)
              go_roundw
              case rel => exact ⟨1, by omega, by go_num, okR_s0 OK.out HP.out, RR.out.alloc _⟩
              case measure => simp [intOf]
            · have HP := hid (okR_no0 (k := k) (d := d) (s := s) (n := n) (ww := ww) (show O.part (O.hasC k 100) d 0 7 = false from by rw [HC.out]; exact part_f (by omega)))
              go_wp2_with (go_at_call 25; refine (contains_0 k hk _).mono ?_; rw [HC.out]; rintro e w' ⟨rfl, rfl⟩)
              go_ret
              rw [ck_yes hk h30, HP.out]
              exact ⟨rfl, stA RR.out.be _⟩
          · have HP := hid (okR_no0 (k := k) (d := d) (s := s) (n := n) (ww := ww) (show O.part (O.hasC k 100) d 0 7 = false from by rw [HC.out]; exact part_f (by omega)))
            go_wp2_with (go_at_call 25; refine (contains_0 k hk _).mono ?_; rw [HC.out]; rintro e w' ⟨rfl, rfl⟩)
            go_ret
            rw [ck_yes hk h30, HP.out]
            exact ⟨rfl, stA RR.out.be _⟩
      · have a0 := RR.out.c4
        have a1 := RR.out.c5
        have a2 := RR.out.c6
        have a3 := RR.out.c7
        have a4 := RR.out.hs
        have a5 := RR.out.bl
        have a6 := RR.out.kl
        cases hc : O.hasC k 115
        · have HC := hid hc
          clear hc
          by_cases hx : s = 0
          · have HP := hid (show O.part (O.hasC k 115) s 0 7 = true from by rw [HC.out]; exact part_0 hx)
            have hx' : (s != 0) = false := by simpa using hx
            clear hx
            go_wp2_with (go_at_call 25; refine (contains_1 k hk _).mono ?_; rw [HC.out]; rintro e w' ⟨rfl, rfl⟩)
            go_roundw
            case rel => exact ⟨2, by omega, by go_num, okR_s1 OK.out HP.out, RR.out.alloc _⟩
            case measure => simp [intOf]
          · have HP := hid (okR_no1 (k := k) (d := d) (s := s) (n := n) (ww := ww) (show O.part (O.hasC k 115) s 0 7 = false from by rw [HC.out]; exact part_1 hx))
            have hx' : (s != 0) = true := by simpa using hx
            clear hx
            go_wp2_with (go_at_call 25; refine (contains_1 k hk _).mono ?_; rw [HC.out]; rintro e w' ⟨rfl, rfl⟩)
            go_ret
            rw [ck_yes hk h30, HP.out]
            exact ⟨rfl, stA RR.out.be _⟩
        · have HC := hid hc
          clear hc
          by_cases hx : 0 ≤ s
          · by_cases hy : s ≤ 7
            · have HP := hid (show O.part (O.hasC k 115) s 0 7 = true from by rw [HC.out]; exact part_t ⟨hx, hy⟩)
              go_wp2_with (go_at_call 25; refine (contains_1 k hk _).mono ?_; rw [HC.out]; rintro e w' ⟨rfl, rfl⟩)
              go_roundw
              case rel => exact ⟨2, by omega, by go_num, okR_s1 OK.out HP.out, RR.out.alloc _⟩
              case measure => simp [intOf]
            · have HP := hid (okR_no1 (k := k) (d := d) (s := s) (n := n) (ww := ww) (show O.part (O.hasC k 115) s 0 7 = false from by rw [HC.out]; exact part_f (by omega)))
              go_wp2_with (go_at_call 25; refine (contains_1 k hk _).mono ?_; rw [HC.out]; rintro e w' ⟨rfl, rfl⟩)
              go_ret
              rw [ck_yes hk h30, HP.out]
              exact ⟨rfl, stA RR.out.be _⟩
          · have HP := hid (okR_no1 (k := k) (d := d) (s := s) (n := n) (ww := ww) (show O.part (O.hasC k 115) s 0 7 = false from by rw [HC.out]; exact part_f (by omega)))
            go_wp2_with (go_at_call 25; refine (contains_1 k hk _).mono ?_; rw [HC.out]; rintro e w' ⟨rfl, rfl⟩)
            go_ret
            rw [ck_yes hk h30, HP.out]
            exact ⟨rfl, stA RR.out.be _⟩
      · have a0 := RR.out.c8
        have a1 := RR.out.c9
        have a2 := RR.out.c10
        have a3 := RR.out.c11
        have a4 := RR.out.hs
        have a5 := RR.out.bl
        have a6 := RR.out.kl
        cases hc : O.hasC k 110
        · have HC := hid hc
          clear hc
          by_cases hx : n = 0
          · have HP := hid (show O.part (O.hasC k 110) n (O.lowN k) 15 = true from by rw [HC.out, hl]; exact part_0 hx)
            have hx' : (n != 0) = false := by simpa using hx
            clear hx
            go_wp2_with (go_at_call 25; refine (contains_2 k hk _).mono ?_; rw [HC.out]; rintro e w' ⟨rfl, rfl⟩)
            go_roundw
            case rel => exact ⟨3, by omega, by go_num, okR_s2 OK.out HP.out, RR.out.alloc _⟩
            case measure => simp [intOf]
          · have HP := hid (okR_no2 (k := k) (d := d) (s := s) (n := n) (ww := ww) (show O.part (O.hasC k 110) n (O.lowN k) 15 = false from by rw [HC.out, hl]; exact part_1 hx))
            have hx' : (n != 0) = true := by simpa using hx
            clear hx
            go_wp2_with (go_at_call 25; refine (contains_2 k hk _).mono ?_; rw [HC.out]; rintro e w' ⟨rfl, rfl⟩)
            go_ret
            rw [ck_yes hk h30, HP.out]
            exact ⟨rfl, stA RR.out.be _⟩
        · have HC := hid hc
          clear hc
          by_cases hx : (-16) ≤ n
          · by_cases hy : n ≤ 15
            · have HP := hid (show O.part (O.hasC k 110) n (O.lowN k) 15 = true from by rw [HC.out, hl]; exact part_t ⟨hx, hy⟩)
              go_wp2_with (go_at_call 25; refine (contains_2 k hk _).mono ?_; rw [HC.out]; rintro e w' ⟨rfl, rfl⟩)
              go_roundw
              case rel => exact ⟨3, by omega, by go_num, okR_s2 OK.out HP.out, RR.out.alloc _⟩
              case measure => simp [intOf]
            · have HP := hid (okR_no2 (k := k) (d := d) (s := s) (n := n) (ww := ww) (show O.part (O.hasC k 110) n (O.lowN k) 15 = false from by rw [HC.out, hl]; exact part_f (by omega)))
              go_wp2_with (go_at_call 25; refine (contains_2 k hk _).mono ?_; rw [HC.out]; rintro e w' ⟨rfl, rfl⟩)
              go_ret
              rw [ck_yes hk h30, HP.out]
              exact ⟨rfl, stA RR.out.be _⟩
          · have HP := hid (okR_no2 (k := k) (d := d) (s := s) (n := n) (ww := ww) (show O.part (O.hasC k 110) n (O.lowN k) 15 = false from by rw [HC.out, hl]; exact part_f (by omega)))
            go_wp2_with (go_at_call 25; refine (contains_2 k hk _).mono ?_; rw [HC.out]; rintro e w' ⟨rfl, rfl⟩)
            go_ret
            rw [ck_yes hk h30, HP.out]
            exact ⟨rfl, stA RR.out.be _⟩
      · have a0 := RR.out.c12
        have a1 := RR.out.c13
        have a2 := RR.out.c14
        have a3 := RR.out.c15
        have a4 := RR.out.hs
        have a5 := RR.out.bl
        have a6 := RR.out.kl
        cases hc : O.hasC k 119
        · have HC := hid hc
          clear hc
          by_cases hx : ww = 0
          · have HP := hid (show O.part (O.hasC k 119) ww 0 65535 = true from by rw [HC.out]; exact part_0 hx)
            have hx' : (ww != 0) = false := by simpa using hx
            clear hx
            go_wp2_with (go_at_call 25; refine (contains_3 k hk _).mono ?_; rw [HC.out]; rintro e w' ⟨rfl, rfl⟩)
            go_roundw
            case rel => exact ⟨4, by omega, by go_num, okR_s3 OK.out HP.out, RR.out.alloc _⟩
            case measure => simp [intOf]
          · have HP := hid (okR_no3 (k := k) (d := d) (s := s) (n := n) (ww := ww) (show O.part (O.hasC k 119) ww 0 65535 = false from by rw [HC.out]; exact part_1 hx))
            have hx' : (ww != 0) = true := by simpa using hx
            clear hx
            go_wp2_with (go_at_call 25; refine (contains_3 k hk _).mono ?_; rw [HC.out]; rintro e w' ⟨rfl, rfl⟩)
            go_ret
            rw [ck_yes hk h30, HP.out]
            exact ⟨rfl, stA RR.out.be _⟩
        · have HC := hid hc
          clear hc
          by_cases hx : 0 ≤ ww
          · by_cases hy : ww ≤ 65535
            · have HP := hid (show O.part (O.hasC k 119) ww 0 65535 = true from by rw [HC.out]; exact part_t ⟨hx, hy⟩)
              go_wp2_with (go_at_call 25; refine (contains_3 k hk _).mono ?_; rw [HC.out]; rintro e w' ⟨rfl, rfl⟩)
              go_roundw
              case rel => exact ⟨4, by omega, by go_num, okR_s3 OK.out HP.out, RR.out.alloc _⟩
              case measure => simp [intOf]
            · have HP := hid (okR_no3 (k := k) (d := d) (s := s) (n := n) (ww := ww) (show O.part (O.hasC k 119) ww 0 65535 = false from by rw [HC.out]; exact part_f (by omega)))
              go_wp2_with (go_at_call 25; refine (contains_3 k hk _).mono ?_; rw [HC.out]; rintro e w' ⟨rfl, rfl⟩)
              go_ret
              rw [ck_yes hk h30, HP.out]
              exact ⟨rfl, stA RR.out.be _⟩
          · have HP := hid (okR_no3 (k := k) (d := d) (s := s) (n := n) (ww := ww) (show O.part (O.hasC k 119) ww 0 65535 = false from by rw [HC.out]; exact part_f (by omega)))
            go_wp2_with (go_at_call 25; refine (contains_3 k hk _).mono ?_; rw [HC.out]; rintro e w' ⟨rfl, rfl⟩)
            go_ret
            rw [ck_yes hk h30, HP.out]
            exact ⟨rfl, stA RR.out.be _⟩
      · have HP := hid (okR_4 OK.out)
        go_wp2
        go_ret
        rw [ck_yes hk h30, HP.out]
        exact ⟨rfl, RR.out.be⟩
theorem ckr_yes (k : Nat) (hk : k < 32) (h30 : k ≠ 30) (d s n ww : Int) (w : World) (hF : Facts w) :
    Calls Tryz.prog 19 #[.agg #[.int .i64 k, .int .i64 d, .int .i64 s, .int .i64 n, .int .i64 ww]] w fun e w' => e = .returned (.int .i64 (O.ck k d s n ww)) ∧ Below w.heap.size w w' := by
  rcases sh_cases k hk with ⟨e1, hl⟩ | ⟨e1, e2, hl⟩ | ⟨e1, e2, hl⟩
  · exact ckr_k1 k hk h30 e1 hl d s n ww w hF
  · exact ckr_k2 k hk h30 e1 e2 hl d s n ww w hF
  · exact ckr_k3 k hk h30 e1 e2 hl d s n ww w hF
theorem ckr_any (op d s n ww : Int) (w : World) (hF : Facts w) :
    Calls Tryz.prog 19 #[.agg #[.int .i64 op, .int .i64 d, .int .i64 s, .int .i64 n, .int .i64 ww]] w fun e w' => e = .returned (.int .i64 (O.ck op d s n ww)) ∧ Below w.heap.size w w' := by
  cases h : O.isOp op
  · refine (ckr_no op d s n ww h w).mono fun e w' hh => ⟨hh.1.trans ?_, hh.2⟩
    unfold O.ck; rw [h]; rfl
  · obtain ⟨h1, h2, h3⟩ := (O.isOp_iff op).1 h
    obtain ⟨k, rfl⟩ := Int.eq_ofNat_of_zero_le h1
    exact ckr_yes k (by omega) (by omega) d s n ww w hF
end Go.Proofs.YtdjhlfoapieohaaGreatDoor
