/-
  What the library's Concat answers of a row of two slices of bytes.
-/
import Derived.Test.YtknhnfpjghaopaaGreatDoorAsmW
namespace Go.Proofs.YtknhnfpjghaopaaGreatDoor
open Go.ChangeShapes Go.WideShapes Go.ChangeAt Go.RowKit
set_option linter.unusedVariables false

set_option maxRecDepth 100000 in
set_option maxHeartbeats 1600000 in
theorem concat_two (g : Nat) (v1 v2 : Value) (l1 l2 : List UInt8) (w : World) (h1 : sliceAt w v1 l1) (h2 : sliceAt w v2 l2) (c1 : w.cell? ⟨g, 0, none⟩ = some v1) (c2 : w.cell? ⟨g, 1, none⟩ = some v2) (hl : l1.length + l2.length ≤ 1024) :
    Calls Tryz.prog 13 #[.slice (some ⟨g, 0, none⟩) 2 2] w fun e w' => ∃ v, e = .returned v ∧ sliceAt w' v (l1 ++ l2) ∧ Below w.heap.size w w' := by
  have hg : g < w.heap.size := World.block_lt_of_cell? w _ c1
  have H1 := hid h1
  have H2 := hid h2
  obtain ⟨a1, k1, e1⟩ := slice_len h1
  obtain ⟨a2, k2, e2⟩ := slice_len h2
  subst e1 e2
  clear h1 h2
  have b1 : ¬ (l1.length : Int) < 0 := by omega
  have b2 : ¬ ((l1.length : Int) + l2.length) < 0 := by omega
  go_enter Tryz.func13, Tryz.ntmps13
  go_wp2
  go_loop [3, 11] (fun n i => (i = .int .i64 0 ∧ n = .int .i64 0) ∨ (i = .int .i64 1 ∧ n = .int .i64 l1.length) ∨ (i = .int .i64 2 ∧ n = .int .i64 (l1.length + l2.length))) (fun _ i => 2 - (intOf i).toNat)
  case atStart => exact Or.inl ⟨rfl, rfl⟩
  case round =>
    rcases hrel with ⟨rfl, rfl⟩ | ⟨rfl, rfl⟩ | ⟨rfl, rfl⟩
    · go_wp2
      exact ⟨Or.inr (Or.inl ⟨rfl, rfl⟩), by decide⟩
    · go_wp2
      exact ⟨Or.inr (Or.inr ⟨rfl, rfl⟩), by decide⟩
    · have HG : Hid (∀ W : World, Calls Tryz.prog 35 #[.slice none 0 0, .int .i64 ((l1.length : Int) + l2.length)] W fun e w' => ∃ v, e = .returned v ∧ w'.ownsRow W.heap.size 5 1 v 0 [] ∧ Below W.heap.size W w') := by
        intro W
        by_cases h0 : l1.length + l2.length = 0
        · have e0 : ((l1.length : Int) + l2.length) = 0 := by omega
          rw [e0]
          exact (grow_zero W).mono fun e w' hh => ⟨_, hh.1, ⟨rfl, Or.inl ⟨rfl, rfl⟩⟩, hh.2 ▸ st0 W⟩
        · have e0 : ((l1.length : Int) + l2.length) = ((l1.length + l2.length : Nat) : Int) := by omega
          rw [e0]
          exact (grow_some _ (by omega) hl W).mono fun e w' ⟨cap, he, ho, hb⟩ => ⟨_, he, ho, hb⟩
      go_wp2_with (go_at_call 35; refine (HG.out _).mono ?_; rintro e w1 ⟨v, rfl, hv, hb1⟩; have HV := hid hv; clear hv)
      go_loopw [6, 27] (fun s i wr => ∃ xs : List UInt8, wr.ownsRow w.heap.size 5 1 s xs.length (Lib.byteCells xs) ∧ Below w.heap.size w wr ∧ ((i = .int .i64 0 ∧ xs = []) ∨ (i = .int .i64 1 ∧ xs = l1) ∨ (i = .int .i64 2 ∧ xs = l1 ++ l2))) (fun _ i _ => 2 - (intOf i).toNat)
      case atStart => exact ⟨[], HV.out, hb1, Or.inl ⟨rfl, rfl⟩⟩
      case round =>
        obtain ⟨xs, hown, hbl, hcase⟩ := hrel
        have HO := hid hown
        have hsz := hbl.size
        obtain ⟨kk, ff⟩ := bcell hbl
        clear hown
        rcases hcase with ⟨rfl, hx0⟩ | ⟨rfl, hx0⟩ | ⟨rfl, hx0⟩
        · have hxs := hid hx0
          have hbd : xs.length + l1.length ≤ 1024 := by rw [hx0]; simp; omega
          clear hx0
          go_wp2_with (at_builtin; refine wpList_append_slice (by rfl) _ _ (by rfl) w.heap.size _ xs (by rfl) HO.out _ (by rfl) l1 (H1.out.kept hbl) hbd hsz ?_; intro v' w' hown' hb')
          refine ⟨⟨l1, ?_, hbl.trans hb', Or.inr (Or.inl ⟨rfl, rfl⟩)⟩, by decide⟩
          rw [hxs.out] at hown'
          exact hown'
        · have hxs := hid hx0
          have hbd : xs.length + l2.length ≤ 1024 := by rw [hx0]; omega
          clear hx0
          go_wp2_with (at_builtin; refine wpList_append_slice (by rfl) _ _ (by rfl) w.heap.size _ xs (by rfl) HO.out _ (by rfl) l2 (H2.out.kept hbl) hbd hsz ?_; intro v' w' hown' hb')
          refine ⟨⟨l1 ++ l2, ?_, hbl.trans hb', Or.inr (Or.inr ⟨rfl, rfl⟩)⟩, by decide⟩
          rw [hxs.out] at hown'
          exact hown'
        · have hxs := hid hx0
          clear hx0
          go_wp2
          go_ret
          have ho := HO.out
          rw [hxs.out] at ho
          exact ⟨_, rfl, slice_of_own ho, hbl⟩
end Go.Proofs.YtknhnfpjghaopaaGreatDoor
