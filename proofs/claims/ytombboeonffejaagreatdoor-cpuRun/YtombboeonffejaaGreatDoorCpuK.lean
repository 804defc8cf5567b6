/-
  What package cpu's table of acts holds, and what a processor reads at PC.
-/
import Derived.Test.YtombboeonffejaaGreatDoorCpuJ
import Derived.Test.YtombboeonffejaaGreatDoorOrdE3
import Derived.Deep.MidRow
namespace Go.Proofs.YtombboeonffejaaGreatDoor
open Go.ChangeShapes Go.WideShapes Go.ChangeAt Go.RowKit
set_option linter.unusedVariables false

/-- The acts, over the boxes of the closures. -/
abbrev actsL (b12 b13 b16 b17 b18 b19 b29 : Nat) : Array Value :=
  #[fv 72 #[], fv 73 #[], fv 74 #[], fv 75 #[], fv 77 #[], fv 79 #[], fv 80 #[], fv 82 #[], fv 82 #[], fv 82 #[], fv 82 #[], fv 82 #[],
    fv 117 #[.pointer (some ⟨b12, 0, none⟩)], fv 117 #[.pointer (some ⟨b13, 0, none⟩)], fv 86 #[], fv 88 #[],
    fv 121 #[.pointer (some ⟨b16, 0, none⟩)], fv 121 #[.pointer (some ⟨b17, 0, none⟩)], fv 121 #[.pointer (some ⟨b18, 0, none⟩)], fv 121 #[.pointer (some ⟨b19, 0, none⟩)],
    fv 94 #[], fv 95 #[], fv 97 #[], fv 98 #[], fv 99 #[], fv 100 #[], fv 101 #[], fv 103 #[], fv 82 #[],
    fv 121 #[.pointer (some ⟨b29, 0, none⟩)], .nilFunc, fv 105 #[]]
theorem shiftF_any (g : Nat) (w : World) : Calls Tryz.prog 83 #[fv g #[]] w fun e w' => e = .returned (fv 117 #[.pointer (some ⟨w.heap.size, 0, none⟩)]) ∧ w' = w.alloc (.cells #[fv g #[]] 120) := by
  go_enter Tryz.func83, Tryz.ntmps83
  go_wp2
  go_ret
  exact ⟨rfl, rfl⟩
theorem jumpF_any (g : Nat) (w : World) : Calls Tryz.prog 89 #[fv g #[]] w fun e w' => e = .returned (fv 121 #[.pointer (some ⟨w.heap.size, 0, none⟩)]) ∧ w' = w.alloc (.cells #[fv g #[]] 123) := by
  go_enter Tryz.func89, Tryz.ntmps89
  go_wp2
  go_ret
  exact ⟨rfl, rfl⟩
theorem there_new (w : World) (cs : Array Value) (t : TypeId) (n : Nat) (h : cs.size = n) : (w.alloc (.cells cs t)).there w.heap.size 0 n := fun j hj => by
  refine ⟨?_, Lib.frozen_of_heap (heap_alloc_new w _) _⟩
  rw [cell_new _ _ _ _ rfl, Array.getElem?_eq_getElem (by omega)]
  rfl
theorem below_setCells {n : Nat} {a : World} {b : Nat} (hb : n ≤ b) : ∀ (vs : List Value) (o : Nat) (w : World), Below n a w → Below n a (w.setCells b o vs)
  | [], o, w, h => h
  | v :: vs, o, w, h => below_setCells hb vs (o + 1) _ (h.setCell hb v)
theorem cutL {P : Program} {ops : Array Oper} {rest : List Oper} {Q : Exit → Act → World → Prop} {a : Act} {w : World} (K : World → Prop) (h : K w) (k : ∀ w', K w' → wpList P ops Q rest a w') : wpList P ops Q rest a w := k w h
theorem actsL_one (a b c d e f g : Nat) : (actsL a b c d e f g).all (·.oneCell') = true := by simp [actsL, Value.oneCell']
theorem info_acts : (Tryz.prog.info? 104).map (·.size) = some 32 := by kernel_rfl
theorem under_acts : Tryz.prog.underlying 104 = some (.array 32 103) := by kernel_rfl
/-- The seven boxes. -/
def boxes (W : World) (b12 b13 b16 b17 b18 b19 b29 : Nat) : Prop :=
  W.cell? ⟨b12, 0, none⟩ = some (fv 84 #[]) ∧ W.cell? ⟨b13, 0, none⟩ = some (fv 85 #[]) ∧ W.cell? ⟨b16, 0, none⟩ = some (fv 90 #[]) ∧ W.cell? ⟨b17, 0, none⟩ = some (fv 91 #[]) ∧ W.cell? ⟨b18, 0, none⟩ = some (fv 92 #[]) ∧ W.cell? ⟨b19, 0, none⟩ = some (fv 93 #[]) ∧ W.cell? ⟨b29, 0, none⟩ = some (fv 104 #[])
theorem boxes_at (w : World) (L : List Value) (z : Obj) (t t' : TypeId) : boxes (((((((((w.alloc z).alloc (.cells #[fv 84 #[]] t)).alloc (.cells #[fv 85 #[]] t)).alloc (.cells #[fv 90 #[]] t')).alloc (.cells #[fv 91 #[]] t')).alloc (.cells #[fv 92 #[]] t')).alloc (.cells #[fv 93 #[]] t')).alloc (.cells #[fv 104 #[]] t')).setCells w.heap.size 0 L)
    (w.heap.size + 1) (w.heap.size + 1 + 1) (w.heap.size + 1 + 1 + 1) (w.heap.size + 1 + 1 + 1 + 1) (w.heap.size + 1 + 1 + 1 + 1 + 1) (w.heap.size + 1 + 1 + 1 + 1 + 1 + 1) (w.heap.size + 1 + 1 + 1 + 1 + 1 + 1 + 1) := by
  have out : ∀ (X : World) (b' : Nat), b' ≠ w.heap.size → (X.setCells w.heap.size 0 L).cell? ⟨b', 0, none⟩ = X.cell? ⟨b', 0, none⟩ := fun X b' h => World.cell?_setCells_out _ L 0 X _ (fun e => absurd e h)
  unfold boxes
  refine ⟨?_, ?_, ?_, ?_, ?_, ?_, ?_⟩ <;> rw [out _ _ (by omega)]
  · rw [World.cell?_alloc_lt _ _ _ (by simp <;> omega), World.cell?_alloc_lt _ _ _ (by simp <;> omega), World.cell?_alloc_lt _ _ _ (by simp <;> omega), World.cell?_alloc_lt _ _ _ (by simp <;> omega), World.cell?_alloc_lt _ _ _ (by simp <;> omega), World.cell?_alloc_lt _ _ _ (by simp <;> omega), cell_new _ _ _ _ (by simp)]; rfl
  · rw [World.cell?_alloc_lt _ _ _ (by simp <;> omega), World.cell?_alloc_lt _ _ _ (by simp <;> omega), World.cell?_alloc_lt _ _ _ (by simp <;> omega), World.cell?_alloc_lt _ _ _ (by simp <;> omega), World.cell?_alloc_lt _ _ _ (by simp <;> omega), cell_new _ _ _ _ (by simp)]; rfl
  · rw [World.cell?_alloc_lt _ _ _ (by simp <;> omega), World.cell?_alloc_lt _ _ _ (by simp <;> omega), World.cell?_alloc_lt _ _ _ (by simp <;> omega), World.cell?_alloc_lt _ _ _ (by simp <;> omega), cell_new _ _ _ _ (by simp)]; rfl
  · rw [World.cell?_alloc_lt _ _ _ (by simp <;> omega), World.cell?_alloc_lt _ _ _ (by simp <;> omega), World.cell?_alloc_lt _ _ _ (by simp <;> omega), cell_new _ _ _ _ (by simp)]; rfl
  · rw [World.cell?_alloc_lt _ _ _ (by simp <;> omega), World.cell?_alloc_lt _ _ _ (by simp <;> omega), cell_new _ _ _ _ (by simp)]; rfl
  · rw [World.cell?_alloc_lt _ _ _ (by simp <;> omega), cell_new _ _ _ _ (by simp)]; rfl
  · rw [cell_new _ _ _ _ (by simp)]; rfl
set_option maxRecDepth 100000 in
set_option maxHeartbeats 1600000 in
theorem acts_any (w : World) : Calls Tryz.prog 58 #[] w fun e w' => ∃ b12 b13 b16 b17 b18 b19 b29, e = .returned (.agg (actsL b12 b13 b16 b17 b18 b19 b29)) ∧ boxes w' b12 b13 b16 b17 b18 b19 b29 ∧ Below w.heap.size w w' := by
  have hload : ∀ W : World, W.rangeAt w.heap.size 0 (actsL (w.heap.size + 1) (w.heap.size + 1 + 1) (w.heap.size + 1 + 1 + 1) (w.heap.size + 1 + 1 + 1 + 1) (w.heap.size + 1 + 1 + 1 + 1 + 1) (w.heap.size + 1 + 1 + 1 + 1 + 1 + 1) (w.heap.size + 1 + 1 + 1 + 1 + 1 + 1 + 1)).toList → (loadVar 104 ⟨w.heap.size, 0, none⟩).run Tryz.prog W = .ok (.agg (actsL (w.heap.size + 1) (w.heap.size + 1 + 1) (w.heap.size + 1 + 1 + 1) (w.heap.size + 1 + 1 + 1 + 1) (w.heap.size + 1 + 1 + 1 + 1 + 1) (w.heap.size + 1 + 1 + 1 + 1 + 1 + 1) (w.heap.size + 1 + 1 + 1 + 1 + 1 + 1 + 1))) W := fun W h =>
    run_loadVar_mid W w.heap.size 0 104 _ (.array 32 103) h under_acts rfl info_acts
  have HL := hid hload
  clear hload
  go_enter Tryz.func58, Tryz.ntmps58
  go_wp2_with (first
    | (go_at_call 83; refine (shiftF_any _ _).mono ?_; rintro e w' ⟨rfl, rfl⟩)
    | (go_at_call 89; refine (jumpF_any _ _).mono ?_; rintro e w' ⟨rfl, rfl⟩)
    | (refine wpList_store_mid rfl 104 (.tmp 0) (.tmp 8) rfl w.heap.size 0 _ rfl rfl ?_ ?_ ?_ ?_
       · exact World.there_alloc (World.there_alloc (World.there_alloc (World.there_alloc (World.there_alloc (World.there_alloc (World.there_alloc (there_new w _ _ 32 rfl) _) _) _) _) _) _) _
       · exact info_acts
       · exact actsL_one (w.heap.size + 1) (w.heap.size + 1 + 1) (w.heap.size + 1 + 1 + 1) (w.heap.size + 1 + 1 + 1 + 1) (w.heap.size + 1 + 1 + 1 + 1 + 1) (w.heap.size + 1 + 1 + 1 + 1 + 1 + 1) (w.heap.size + 1 + 1 + 1 + 1 + 1 + 1 + 1)
       refine cutL (fun W => W.rangeAt w.heap.size 0 (actsL (w.heap.size + 1) (w.heap.size + 1 + 1) (w.heap.size + 1 + 1 + 1) (w.heap.size + 1 + 1 + 1 + 1) (w.heap.size + 1 + 1 + 1 + 1 + 1) (w.heap.size + 1 + 1 + 1 + 1 + 1 + 1) (w.heap.size + 1 + 1 + 1 + 1 + 1 + 1 + 1)).toList ∧ boxes W (w.heap.size + 1) (w.heap.size + 1 + 1) (w.heap.size + 1 + 1 + 1) (w.heap.size + 1 + 1 + 1 + 1) (w.heap.size + 1 + 1 + 1 + 1 + 1) (w.heap.size + 1 + 1 + 1 + 1 + 1 + 1) (w.heap.size + 1 + 1 + 1 + 1 + 1 + 1 + 1) ∧ Below w.heap.size w W) ⟨?_, ?_, ?_⟩ ?_
       · exact World.rangeAt_setCells_same _ _ _ _ (World.there_alloc (World.there_alloc (World.there_alloc (World.there_alloc (World.there_alloc (World.there_alloc (World.there_alloc (there_new w _ _ 32 rfl) _) _) _) _) _) _) _)
       · exact boxes_at w _ _ _ _
       · exact below_setCells (Nat.le_refl _) _ _ _ (stA (stA (stA (stA (stA (stA (stA (stA (st0 w) _) _) _) _) _) _) _) _)
       rintro W ⟨hR, hX, hB⟩
       have HRG := hid hR
       have HX := hid hX
       have HB := hid hB
       clear hR hX hB))
  have hl := HL.out W HRG.out
  exact bodyPost_ret (v := .agg (actsL (w.heap.size + 1) (w.heap.size + 1 + 1) (w.heap.size + 1 + 1 + 1) (w.heap.size + 1 + 1 + 1 + 1) (w.heap.size + 1 + 1 + 1 + 1 + 1) (w.heap.size + 1 + 1 + 1 + 1 + 1 + 1) (w.heap.size + 1 + 1 + 1 + 1 + 1 + 1 + 1))) (by simp only [results, Tryz.results58]; simp; exact hl) rfl ⟨_, _, _, _, _, _, _, rfl, HX.out, HB.out⟩
end Go.Proofs.YtombboeonffejaaGreatDoor
