/-
  What package asm's Build answers of a text in which nothing is wrong; the library's Equal and Count of bytes; and the closed fact that the statements ask for first.
-/
import Derived.Test.YtdjhlfoapieohaaGreatDoorAsmR
import Derived.Test.YtdjhlfoapieohaaGreatDoorShelfQ
import Derived.Laws.BytesArg
namespace Go.Proofs.YtdjhlfoapieohaaGreatDoor
open Go.ChangeShapes Go.WideShapes Go.ChangeAt Go.RowKit
set_option linter.unusedVariables false

theorem text_inv {s rom : S.By} (h : S.readText s = .ok rom) : ∃ stF, S.readLines s.length s 0 S.St.zero = .ok stF ∧ S.lay stF.places stF.uses stF.rom = .ok rom := by
  unfold S.readText at h
  split at h
  · rename_i st hst
    exact ⟨st, hst, h⟩
  · cases h
theorem count_feeds (s : S.By) (w : World) : Calls Tryz.prog 10 #[.string (mk s), .string ⟨#[10]⟩] w fun e w' => e = .returned (.int .i64 (s.count 10 : Nat)) ∧ w = w' :=
  (Tryz.strings_Count_one (mk s) 10 w).mono fun e w' hh => ⟨hh.1, hh.2.symm⟩
theorem build_ok (s rom : S.By) (hl : s.length ≤ 4000) (hc : s.count 10 ≤ 300) (hS : S.readText s = .ok rom) (w : World) (hF : AF w) :
    Calls Tryz.prog 4 #[.string (mk s)] w fun e w' => ∃ v, e = .returned (.tuple #[v, .int .i64 0, .int .i64 0]) ∧ sliceAt w' v rom ∧ Below w.heap.size w w' := by
  obtain ⟨stF, h1, h2⟩ := text_inv hS
  have HT := hid (readText_ok s hl stF rom h1 h2 w hF)
  have hl1 : ¬ (4000 : Int) < (mk s).size := by rw [mk_size]; omega
  have hc1 : ¬ (300 : Int) < (s.count 10 : Nat) := by omega
  clear hF hS h1 h2
  go_enter Tryz.func4, Tryz.ntmps4
  go_wp2_with (first
    | (go_at_call 10; refine (count_feeds s _).mono ?_; rintro e w' ⟨rfl, rfl⟩)
    | (go_at_call 11; refine HT.out.mono ?_; rintro e w1 ⟨v, rfl, hv, hb1⟩))
  go_ret3
  exact ⟨v, rfl, hv, hb1⟩

/-! ### bytes -/
theorem mk_nums (l : S.By) : strOfNums (l.map (fun c => (c.toNat : Int))) = mk l := by
  unfold strOfNums mk
  rw [List.map_map]
  congr 2
  have : ((fun n : Int => UInt8.ofNat n.toNat) ∘ fun c : UInt8 => (c.toNat : Int)) = id := by funext c; simp
  rw [this, List.map_id]
theorem getD_nums (l : S.By) (i : Nat) (hi : i < l.length) : ∃ c, l[i]? = some c ∧ (l.map (fun c => (c.toNat : Int))).getD i 0 = (c.toNat : Int) := by
  refine ⟨l[i], List.getElem?_eq_getElem hi, ?_⟩
  simp [List.getD, List.getElem?_eq_getElem hi]
theorem conv_any {w : World} {v : Value} {l : S.By} (h : sliceAt w v l) : (convert 22 9 v).run Tryz.prog w = .ok (.string (mk l)) w := by
  rcases h with ⟨a, cap, rfl, rfl⟩ | ⟨g, o, cap, rfl, h2, h3, h4⟩
  · cases a with
    | none => exact run_convert_bytes_nil w 22 5 Tryz.underlying22 Tryz.underlying5 0 cap 9 Tryz.underlying9
    | some a =>
      have hl : (loadCells a 0).run Tryz.prog w = .ok (([] : List Int).map (Value.int .u8)).toArray w := run_loadCells_list (P := Tryz.prog) w a [] (fun j v hj => by simp at hj)
      rw [run_convert_bytes_string w 22 9 5 _ 0 cap Tryz.underlying22 Tryz.underlying5 Tryz.underlying9, run_bytesToString w a 0 cap [] hl]
      rfl
  · have := run_convert_bytes_arg (P := Tryz.prog) w 22 5 Tryz.underlying22 Tryz.underlying5 g o l.length cap (l.map (fun c => (c.toNat : Int))) (by simp) (fun i hi => by
      obtain ⟨c, hc, hg⟩ := getD_nums l i hi
      rw [hg]; exact h4 i c hc) 9 Tryz.underlying9
    rw [mk_nums] at this
    exact this
theorem equal_any (v1 v2 : Value) (l1 l2 : S.By) (w : World) (h1 : sliceAt w v1 l1) (h2 : sliceAt w v2 l2) :
    Calls Tryz.prog 9 #[v1, v2] w fun e w' => e = .returned (.bool (l1 == l2)) ∧ w = w' := by
  refine (Tryz.bytes_Equal_strs v1 v2 (mk l1) (mk l2) w (conv_any h1) (conv_any h2)).mono fun e w' hh => ⟨?_, hh.2.symm⟩
  rw [hh.1, mk_toList, mk_toList]
/-! ### the closed fact -/
def goText : S.By := [103, 111, 58, 10, 97, 100, 100, 105, 32, 114, 49, 44, 32, 45, 49, 10, 106, 110, 122, 32, 103, 111, 10, 46, 119, 111, 114, 100, 32, 55, 10]
def goRom : S.By := [121, 31, 232, 0, 0, 0, 0, 7]
def goList : S.By := [97, 100, 100, 105, 32, 114, 49, 44, 32, 45, 49, 10, 106, 110, 122, 32, 48, 10, 46, 119, 111, 114, 100, 32, 55, 10]
theorem go_build : S.readText goText = .ok goRom := by
  have h : (match S.readText goText with | .ok r => r == goRom | .error _ => false) = true := by decide +kernel
  split at h
  · rename_i r hr
    rw [hr, beq_iff_eq.1 h]
  · cases h
theorem go_list : listRes goRom = (goList, 0) := by decide +kernel
theorem list_res (v : Value) (l : S.By) (t : S.By) (e0 : Int) (hr : listRes l = (t, e0)) (w : World) (h : sliceAt w v l) (hF : AF w) :
    Calls Tryz.prog 21 #[v] w fun e w' => e = .returned (.tuple #[.string (mk t), .int .i64 e0]) ∧ Below w.heap.size w w' := by
  have := list_any v l w h hF
  rw [hr] at this
  exact this
theorem bytesAt_lit (w : World) (l : S.By) (cs : Array Value) (h : ∀ (j : Nat) (c : UInt8), l[j]? = some c → cs[j]? = some (.int .u8 c.toNat)) (t : TypeId) (hc : cs.size = l.length) : sliceAt (w.alloc (.cells cs t)) (.slice (some ⟨w.heap.size, 0, none⟩) l.length l.length) l :=
  Or.inr ⟨w.heap.size, 0, l.length, rfl, Nat.le_refl _, by simp, fun j c hj => by rw [Nat.zero_add, cell_new _ _ _ _ rfl]; exact h j c hj⟩
theorem go_rom_lit (w : World) : sliceAt (w.alloc (.cells #[.int .u8 121, .int .u8 31, .int .u8 232, .int .u8 0, .int .u8 0, .int .u8 0, .int .u8 0, .int .u8 7] 5)) (.slice (some ⟨w.heap.size, 0, none⟩) 8 8) goRom := by
  refine bytesAt_lit w goRom _ (fun j c hj => ?_) _ rfl
  have hj' : j < 8 := (List.getElem?_eq_some_iff.1 hj).1
  have hc : j = 0 ∨ j = 1 ∨ j = 2 ∨ j = 3 ∨ j = 4 ∨ j = 5 ∨ j = 6 ∨ j = 7 := by omega
  rcases hc with rfl | rfl | rfl | rfl | rfl | rfl | rfl | rfl <;> cases hj <;> rfl
set_option maxRecDepth 100000 in
set_option maxHeartbeats 1600000 in
theorem built_any (w : World) (hF : AF w) : Calls Tryz.prog 6 #[] w fun e w' => e = .returned (.bool true) ∧ Below w.heap.size w w' := by
  have HB := hid (build_ok goText goRom (by decide) (by decide) go_build w hF)
  have HF := hid hF
  have hq : (goRom == goRom) = true := by decide
  have hs : ((mk goList).toList == [97, 100, 100, 105, 32, 114, 49, 44, 32, 45, 49, 10, 106, 110, 122, 32, 48, 10, 46, 119, 111, 114, 100, 32, 55, 10]) = true := by rw [mk_toList]; rfl
  clear hF
  go_enter Tryz.func6, Tryz.ntmps6
  go_wp2_with (first
    | (go_at_call 4; refine HB.out.mono ?_; rintro e w1 ⟨v, rfl, hv, hb1⟩; have HV := hid hv; clear hv)
    | (go_at_call 21; refine (list_res v goRom goList 0 go_list w1 HV.out (HF.out.kept hb1)).mono ?_; rintro e w2 ⟨rfl, hb2⟩)
    | (go_at_call 9; refine (equal_any v _ goRom goRom _ ((HV.out.kept hb2).kept (stA (st0 _) _)) (go_rom_lit w2)).mono ?_; rw [hq]; rintro e w' ⟨rfl, rfl⟩))
  go_ret
  exact ⟨rfl, stA (stp hb1 hb2) _⟩
end Go.Proofs.YtdjhlfoapieohaaGreatDoor
