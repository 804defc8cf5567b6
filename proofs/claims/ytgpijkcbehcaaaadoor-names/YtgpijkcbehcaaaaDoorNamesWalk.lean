/-
  The law Names of the program returns true; its condition: the library's listed tables hold what the program's text lays (the card ties them).
-/
import Derived.Test.YtgpijkcbehcaaaaDoorKinds
import Derived.Test.YtgpijkcbehcaaaaDoorOrdN
import Derived.Test.YtgpijkcbehcaaaaDoorNamesFrame
namespace Go.Proofs.YtgpijkcbehcaaaaDoor
open Go.ChangeShapes Go.WideShapes Go.ChangeAt Go.RowKit
set_option linter.unusedVariables false

/-- The literal slices of the law. -/
theorem errs_cell (w : World) (k : Nat) (hk : k < 8) : (w.alloc (.cells #[.int .i64 0, .int .i64 1, .int .i64 2, .int .i64 3, .int .i64 4, .int .i64 5, .int .i64 6, .int .i64 7] 22)).cell? ⟨w.heap.size, k, none⟩ = some (.int .i64 k) := by
  rw [World.cell?_alloc_new]
  have h : k = 0 ∨ k = 1 ∨ k = 2 ∨ k = 3 ∨ k = 4 ∨ k = 5 ∨ k = 6 ∨ k = 7 := by omega
  rcases h with rfl | rfl | rfl | rfl | rfl | rfl | rfl | rfl <;> rfl
theorem ops_cell (w : World) (k : Nat) (hk : k < 32) : (w.alloc (.cells #[.int .i64 0, .int .i64 1, .int .i64 2, .int .i64 3, .int .i64 4, .int .i64 5, .int .i64 6, .int .i64 7, .int .i64 8, .int .i64 9, .int .i64 10, .int .i64 11, .int .i64 12, .int .i64 13, .int .i64 14, .int .i64 15, .int .i64 16, .int .i64 17, .int .i64 18, .int .i64 19, .int .i64 20, .int .i64 21, .int .i64 22, .int .i64 23, .int .i64 24, .int .i64 25, .int .i64 26, .int .i64 27, .int .i64 28, .int .i64 29, .int .i64 30, .int .i64 31] 3)).cell? ⟨w.heap.size, k, none⟩ = some (.int .i64 k) := by
  rw [World.cell?_alloc_new]
  have h : ∀ k, k < 32 → (List.range 32)[k]? = some k := by decide
  have e : (#[.int .i64 0, .int .i64 1, .int .i64 2, .int .i64 3, .int .i64 4, .int .i64 5, .int .i64 6, .int .i64 7, .int .i64 8, .int .i64 9, .int .i64 10, .int .i64 11, .int .i64 12, .int .i64 13, .int .i64 14, .int .i64 15, .int .i64 16, .int .i64 17, .int .i64 18, .int .i64 19, .int .i64 20, .int .i64 21, .int .i64 22, .int .i64 23, .int .i64 24, .int .i64 25, .int .i64 26, .int .i64 27, .int .i64 28, .int .i64 29, .int .i64 30, .int .i64 31] : Array Value) = ((List.range 32).map (fun z : Nat => Value.int .i64 (z : Int))).toArray := rfl
  rw [e, List.getElem?_toArray, List.getElem?_map, h k hk]
  rfl
theorem nameS_eq (k : Nat) (h : k ≠ 30) : O.nameS k = K.name k := by unfold O.nameS; rw [if_neg h]
theorem shapesAt.kept' {w w' : World} (h : shapesAt w) (hb : Below w.heap.size w w') {o : Obj} : shapesAt (w'.alloc o) := (h.kept hb).kept (stA (st0 _) _)
def limits : List Int := [1024, 128, 64, 256, 8, 16, 64, 10, 16, 3, 5, 20000, 20, 4000, 300, 12, 500, 40, 200000]
theorem limits_at (k : Nat) (hk : k < 19) : (#[.int .i64 1024, .int .i64 128, .int .i64 64, .int .i64 256, .int .i64 8, .int .i64 16, .int .i64 64, .int .i64 10, .int .i64 16, .int .i64 3, .int .i64 5, .int .i64 20000, .int .i64 20, .int .i64 4000, .int .i64 300, .int .i64 12, .int .i64 500, .int .i64 40, .int .i64 200000] : Array Value)[k]? = some (.int .i64 (limits.getD k 0)) := by
  have h : ∀ k, k < 19 → ([1024, 128, 64, 256, 8, 16, 64, 10, 16, 3, 5, 20000, 20, 4000, 300, 12, 500, 40, 200000] : List Int)[k]? = some (limits.getD k 0) := by decide
  have e : (#[.int .i64 1024, .int .i64 128, .int .i64 64, .int .i64 256, .int .i64 8, .int .i64 16, .int .i64 64, .int .i64 10, .int .i64 16, .int .i64 3, .int .i64 5, .int .i64 20000, .int .i64 20, .int .i64 4000, .int .i64 300, .int .i64 12, .int .i64 500, .int .i64 40, .int .i64 200000] : Array Value) = (limits.map (fun z => Value.int .i64 z)).toArray := rfl
  rw [e, List.getElem?_toArray, List.getElem?_map]
  have := h k hk
  rw [show limits[k]? = some (limits.getD k 0) from this]
  rfl
theorem lim_of {w w3 : World} {o : Obj} (hb : Below ((w.alloc o).alloc (.cells #[.int .i64 1024, .int .i64 128, .int .i64 64, .int .i64 256, .int .i64 8, .int .i64 16, .int .i64 64, .int .i64 10, .int .i64 16, .int .i64 3, .int .i64 5, .int .i64 20000, .int .i64 20, .int .i64 4000, .int .i64 300, .int .i64 12, .int .i64 500, .int .i64 40, .int .i64 200000] 3)).heap.size ((w.alloc o).alloc (.cells #[.int .i64 1024, .int .i64 128, .int .i64 64, .int .i64 256, .int .i64 8, .int .i64 16, .int .i64 64, .int .i64 10, .int .i64 16, .int .i64 3, .int .i64 5, .int .i64 20000, .int .i64 20, .int .i64 4000, .int .i64 300, .int .i64 12, .int .i64 500, .int .i64 40, .int .i64 200000] 3)) w3) :
    Hid (∀ k, k < 19 → w3.cell? ⟨w.heap.size + 1, k, none⟩ = some (.int .i64 (limits.getD k 0))) ∧ Below w.heap.size w w3 ∧ w.heap.size + 2 ≤ w3.heap.size := by
  refine ⟨fun k hk => ?_, (((Below.refl w.heap.size w).alloc (Nat.le_refl _) o).alloc (by simp) _).trans (hb.mono (by simp; omega)), by have := hb.size; simpa using this⟩
  rw [hb.cell (by simp)]
  have e : w.heap.size + 1 = (w.alloc o).heap.size := by simp
  rw [e, World.cell?_alloc_new]
  exact limits_at k hk
theorem equal_lim {w w3 wr : World} {o : Obj} (hlim : ∀ k, k < 19 → w3.cell? ⟨w.heap.size + 1, k, none⟩ = some (.int .i64 (limits.getD k 0))) (hbl : Below w3.heap.size w3 wr) (hsz : w.heap.size + 2 ≤ w3.heap.size) :
    Calls Tryd.prog 8 #[.slice (some ⟨w.heap.size + 1, 0, none⟩) 19 19, .slice (some ⟨wr.heap.size + 1, 0, none⟩) 19 19] ((wr.alloc o).alloc (.cells #[.int .i64 1024, .int .i64 128, .int .i64 64, .int .i64 256, .int .i64 8, .int .i64 16, .int .i64 64, .int .i64 10, .int .i64 16, .int .i64 3, .int .i64 5, .int .i64 20000, .int .i64 20, .int .i64 4000, .int .i64 300, .int .i64 12, .int .i64 500, .int .i64 40, .int .i64 200000] 3)) fun e w' => e = .returned (.bool true) ∧ ∃ q, w' = ((wr.alloc o).alloc (.cells #[.int .i64 1024, .int .i64 128, .int .i64 64, .int .i64 256, .int .i64 8, .int .i64 16, .int .i64 64, .int .i64 10, .int .i64 16, .int .i64 3, .int .i64 5, .int .i64 20000, .int .i64 20, .int .i64 4000, .int .i64 300, .int .i64 12, .int .i64 500, .int .i64 40, .int .i64 200000] 3)).drewN q := by
  have hs := hbl.size
  have hl : limits.length = 19 := rfl
  refine (Tryd.slices_Equal_int (w.heap.size + 1) 0 19 19 (wr.heap.size + 1) 0 19 19 limits limits _ (by omega) (by omega) (by omega) (by omega) (fun j hj => ?_) (fun j hj => ?_)).mono fun e w' hh => ⟨hh.1.trans (by simp), hh.2⟩
  · rw [Nat.zero_add, World.cell?_alloc_lt _ _ _ (by simp; omega), World.cell?_alloc_lt _ _ _ (by simp; omega), hbl.cell (by simp; omega)]
    exact hlim j (by omega)
  · have e : wr.heap.size + 1 = (wr.alloc o).heap.size := by simp
    rw [Nat.zero_add, e, World.cell?_alloc_new]
    exact limits_at j (by omega)
set_option maxRecDepth 100000 in
set_option maxHeartbeats 1600000 in
theorem names_walk : NamesWalk := by
  intro w hF
  have HF := hid hF
  clear hF
  have hc := errs_cell w
  go_enter Tryd.func3, Tryd.ntmps3
  go_wp2
  go_loop [15] (fun i => ∃ k : Nat, k ≤ 8 ∧ i = .int .i64 k) (fun i => 8 - (intOf i).toNat)
  case atStart => exact ⟨0, by omega, rfl⟩
  case round =>
    obtain ⟨k, hk, rfl⟩ := hrel
    by_cases hlt : k < 8
    · have hck := hc k hlt
      clear hc
      go_wp2
      go_round
      case rel => exact ⟨k + 1, by omega, by go_num⟩
      case measure => simp [intOf]; omega
    · clear hc
      have ek : decide ((k : Int) < 8) = false := by simp; omega
      go_wp2_with (go_at_call 5; refine (kinds_of _ (HF.out.kept (stA (stA (st0 _) _) _))).mono ?_; rintro e w3 ⟨g, cap, rfl, htb, hg1, hg2, hb3⟩; obtain ⟨hlim, hbw, hsz⟩ := lim_of hb3; have hsh3 := hid ((HF.out.kept hbw).shapes); clear hb3 hg1)
      clear HF
      go_loopw [27] (fun i wr => ∃ k : Nat, k ≤ 32 ∧ i = .int .i64 k ∧ Below w3.heap.size w3 wr) (fun i _ => 32 - (intOf i).toNat)
      case atStart => exact ⟨0, by omega, rfl, Below.refl _ _⟩
      case round =>
        obtain ⟨n, hn, rfl, hbl⟩ := hrel
        by_cases hlt2 : n < 32
        · obtain ⟨c1, c2, c3⟩ := (htb.kept hbl hg2) n hlt2
          clear htb
          by_cases h30 : n = 30
          · subst h30
            go_wp2_with (go_at_call 6; refine (name_no 30 (by decide) _ (hsh3.out.kept' hbl)).mono ?_; rintro e w4 ⟨rfl, hb4⟩)
            exact ⟨⟨31, by omega, rfl, stp (stA hbl _) hb4⟩, by simp [intOf]⟩
          · have hnm := nameS_eq n h30
            rw [← hnm] at c1
            have h30' : ((n : Int) == 30) = false := by simp; omega
            go_wp2_with (go_at_call 6; refine (name_yes n hlt2 h30 _ (hsh3.out.kept' hbl)).mono ?_; rintro e w4 ⟨rfl, hb4⟩; obtain ⟨hc4, hf4⟩ := bcell hb4)
            exact ⟨⟨n + 1, by omega, by go_num, stp (stA hbl _) hb4⟩, by simp [intOf]; omega⟩
        · have en : decide ((n : Int) < 32) = false := by simp; omega
          have hoc := ops_cell wr
          clear htb
          go_wp2
          go_loop [56] (fun i => ∃ k : Nat, k ≤ 32 ∧ i = .int .i64 k) (fun i => 32 - (intOf i).toNat)
          case atStart => exact ⟨0, by omega, rfl⟩
          case round =>
            obtain ⟨j, hj, rfl⟩ := hrel
            by_cases hlt3 : j < 32
            · have hcj := hoc j hlt3
              clear hoc
              go_wp2
              go_round
              case rel => exact ⟨j + 1, by omega, by go_num⟩
              case measure => simp [intOf]; omega
            · clear hoc
              have ej : decide ((j : Int) < 32) = false := by simp; omega
              go_wp2_with (go_at_call 8; refine (equal_lim hlim.out hbl hsz).mono ?_; rintro e w5 ⟨rfl, q5, rfl⟩)
              go_ret
              exact ⟨rfl, hbw.trans (below_draws ((((Below.refl w.heap.size w3).trans (hbl.mono (by omega))).alloc (by have := hbl.size; omega) _).alloc (by have := hbl.size; simp; omega) _) _)⟩
theorem names_holds : Rows.NamesCardSaid := names_card names_walk
end Go.Proofs.YtgpijkcbehcaaaaDoor
