/-
  What Flags of package word answers, for any order and any words: the sums of the text Math; nothing old is written.
-/
import Derived.Test.YtombboeonffejaaGreatDoorWordB
import Derived.Test.YtombboeonffejaaGreatDoorFlMap
import Derived.Deep.RegionWith
namespace Go.Proofs.YtombboeonffejaaGreatDoor
open Go.ChangeShapes Go.WideShapes Go.ChangeAt Go.RowKit
set_option linter.unusedVariables false

/-- A function that is no closure; and the closure that bitwise makes over the box c. -/
def fnV (n : Nat) : Value := .func (.func n) #[] #[]
def cloV (c : Nat) : Value := .func (.func 151) #[] #[.pointer (some ⟨c, 0, none⟩)]
def table (c9 c10 c11 : Nat) : List (Int × Value) := [(7, fnV 140), (15, fnV 140), (8, fnV 141), (14, fnV 141), (9, cloV c9), (10, cloV c10), (11, cloV c11), (28, fnV 146)]

theorem bitwise_any (g : Nat) (w : World) :
    Calls Tryz.prog 142 #[.func (.func g) #[] #[]] w fun e w' => e = .returned (cloV w.heap.size) ∧ w' = w.alloc (.cells #[fnV g] 184) := by
  go_enter Tryz.func142, Tryz.ntmps142
  go_wp2
  go_ret
  exact ⟨rfl, rfl⟩
theorem under_map : Tryz.prog.underlying 174 = some (.map 3 172) := by kernel_rfl
theorem cell_kept {w : World} {p : Addr} {v : Value} (h : w.cell? p = some v) (o : Obj) : (w.alloc o).cell? p = some v := by
  rw [World.cell?_alloc_lt]
  · exact h
  · unfold World.cell? at h
    split at h
    · rename_i hb; exact (Array.getElem?_eq_some_iff.1 hb).1
    · cases h
theorem cell_one (w : World) (v : Value) (t : TypeId) : (w.alloc (.cells #[v] t)).cell? ⟨w.heap.size, 0, none⟩ = some v := by simp
theorem reckoners_any (w : World) : Calls Tryz.prog 133 #[] w fun e w' => ∃ b c9 c10 c11, e = .returned (.map (some b)) ∧ mapAt w' b (table c9 c10 c11) ∧
    w'.cell? ⟨c9, 0, none⟩ = some (fnV 143) ∧ w'.cell? ⟨c10, 0, none⟩ = some (fnV 144) ∧ w'.cell? ⟨c11, 0, none⟩ = some (fnV 145) ∧ Below w.heap.size w w' := by
  have hmm := @run_makeMap Tryz.prog
  have hm0 := mapAt_made w
  go_enter Tryz.func133, Tryz.ntmps133
  go_wp2_with (first
    | (go_at_call 142; refine (bitwise_any _ _).mono ?_; rintro e w' ⟨rfl, rfl⟩)
    | (refine wpList_insert _ rfl _ _ _ 174 rfl 3 172 under_map Tryz.underlying3 w.heap.size [] rfl hm0 7 (fnV 140) rfl rfl rfl ?_; intro w1 hm1 hs1)
    | (refine wpList_insert _ rfl _ _ _ 174 rfl 3 172 under_map Tryz.underlying3 w.heap.size [(7, fnV 140)] rfl hm1 15 (fnV 140) rfl rfl rfl ?_; intro w2 hm2 hs2)
    | (refine wpList_insert _ rfl _ _ _ 174 rfl 3 172 under_map Tryz.underlying3 w.heap.size [(7, fnV 140), (15, fnV 140)] rfl hm2 8 (fnV 141) rfl rfl rfl ?_; intro w3 hm3 hs3)
    | (refine wpList_insert _ rfl _ _ _ 174 rfl 3 172 under_map Tryz.underlying3 w.heap.size [(7, fnV 140), (15, fnV 140), (8, fnV 141)] rfl hm3 14 (fnV 141) rfl rfl rfl ?_; intro w4 hm4 hs4)
    | (refine wpList_insert _ rfl _ _ _ 174 rfl 3 172 under_map Tryz.underlying3 w.heap.size [(7, fnV 140), (15, fnV 140), (8, fnV 141), (14, fnV 141)] rfl (hm4.alloc _) 9 (cloV w4.heap.size) rfl rfl rfl ?_; intro w5 hm5 hs5)
    | (refine wpList_insert _ rfl _ _ _ 174 rfl 3 172 under_map Tryz.underlying3 w.heap.size [(7, fnV 140), (15, fnV 140), (8, fnV 141), (14, fnV 141), (9, cloV w4.heap.size)] rfl (hm5.alloc _) 10 (cloV w5.heap.size) rfl rfl rfl ?_; intro w6 hm6 hs6)
    | (refine wpList_insert _ rfl _ _ _ 174 rfl 3 172 under_map Tryz.underlying3 w.heap.size [(7, fnV 140), (15, fnV 140), (8, fnV 141), (14, fnV 141), (9, cloV w4.heap.size), (10, cloV w5.heap.size)] rfl (hm6.alloc _) 11 (cloV w6.heap.size) rfl rfl rfl ?_; intro w7 hm7 hs7)
    | (refine wpList_insert _ rfl _ _ _ 174 rfl 3 172 under_map Tryz.underlying3 w.heap.size [(7, fnV 140), (15, fnV 140), (8, fnV 141), (14, fnV 141), (9, cloV w4.heap.size), (10, cloV w5.heap.size), (11, cloV w6.heap.size)] rfl hm7 28 (fnV 146) rfl rfl rfl ?_; intro w8 hm8 hs8))
  go_ret
  have k9 := hs8.cell _ _ (hs7.cell _ _ (cell_kept (hs6.cell _ _ (cell_kept (hs5.cell _ _ (cell_one w4 (fnV 143) 184)) (.cells #[fnV 144] 184))) (.cells #[fnV 145] 184)))
  have k10 := hs8.cell _ _ (hs7.cell _ _ (cell_kept (hs6.cell _ _ (cell_one w5 (fnV 144) 184)) (.cells #[fnV 145] 184)))
  have k11 := hs8.cell _ _ (hs7.cell _ _ (cell_one w6 (fnV 145) 184))
  have hg0 : Below w.heap.size w (w.alloc (.map #[] 0)) := stA (st0 w) _
  have hg4 := hs4.grown w (hs3.grown w (hs2.grown w (hs1.grown w hg0 (Nat.le_refl _)) (Nat.le_refl _)) (Nat.le_refl _)) (Nat.le_refl _)
  have hg5 := hs5.grown w (stA hg4 _) (Nat.le_refl _)
  have hg6 := hs6.grown w (stA hg5 _) (Nat.le_refl _)
  have hg7 := hs7.grown w (stA hg6 _) (Nat.le_refl _)
  exact ⟨w.heap.size, w4.heap.size, w5.heap.size, w6.heap.size, rfl, hm8, k9, k10, k11, hs8.grown w hg7 (Nat.le_refl _)⟩
end Go.Proofs.YtombboeonffejaaGreatDoor
