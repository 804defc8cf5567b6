/-
  For every slice of bytes the law AsmBack of the program returns true and leaves its argument as it was; its condition: the program's and the library's tables hold what their texts lay (the card ties them).
-/
import Derived.Test.YtpjohnjjjoobjabGreatDoorAsmBackFrame
import Derived.Lib.SlBytesConst
namespace Go.Proofs.YtpjohnjjjoobjabGreatDoor
open Go.ChangeShapes Go.WideShapes Go.ChangeAt Go.RowKit
set_option linter.unusedVariables false

theorem count_bytes (t : S.By) (w : World) (c H : Nat) (fr : Nat × Nat) (hH : H = (Lib.bytesWorld w 5 (mk t)).heap.size) :
    Calls Tryz.prog 14 #[.slice (some ⟨w.heap.size, 0, none⟩) (mk t).size c, .slice (some ⟨H, 0, none⟩) 1 1] ((Lib.bytesWorld w 5 (mk t)).alloc (.cells #[.int .u8 10] 5 fr)) fun e w' => e = .returned (.int .i64 (t.count 10 : Nat)) ∧ Below w.heap.size w w' := by
  have hsz := Lib.bytesWorld_size w 5 (mk t)
  have hb : Below w.heap.size w ((Lib.bytesWorld w 5 (mk t)).alloc (.cells #[.int .u8 10] 5 fr)) := stA (Lib.bytesWorld_below w _ _) _
  refine (Tryz.bytes_Count_one w.heap.size 0 (mk t).size c H 0 1 (t.map (fun c => (c.toNat : Int))) 10 _ (by rw [List.length_map]; rfl) (fun i hi => ?_) ?_).mono fun e w' hh => ⟨?_, hh.2 ▸ hb⟩
  · rw [Nat.zero_add, World.cell?_alloc_lt _ _ _ (by rw [hsz]; simp), Lib.bytesWorld_cell w _ (mk t) i hi]
    obtain ⟨x, hx, hg⟩ := getD_nums t i hi
    rw [hg]
    have : (mk t).data.toList.getD i 0 = x := by show t.getD i 0 = x; simp [List.getD, hx]
    rw [this]
  · rw [hH]; exact Lib.cell_of_heap (heap_alloc_new _ _) 0
  · rw [hh.1]
    have e1 : Lib.bytesOf (t.map (fun c => (c.toNat : Int))) = t := by
      unfold Lib.bytesOf
      rw [List.map_map]
      have : ((fun n : Int => UInt8.ofNat n.toNat) ∘ fun c : UInt8 => (c.toNat : Int)) = id := by funext c; simp
      rw [this, List.map_id]
    rw [e1]; rfl
set_option maxRecDepth 100000 in
set_option maxHeartbeats 1600000 in
theorem asmBack_err (v : Value) (l t : S.By) (e0 : Int) (hr : listRes l = (t, e0)) (he : ¬ e0 = 0) (w : World) (h : sliceAt w v l) (hF : AF w) :
    Calls Tryz.prog 5 #[v] w fun e w' => e = .returned (.bool true) ∧ Below w.heap.size w w' := by
  have HL := hid (list_res v l t e0 hr w h hF)
  have HF := hid hF
  clear hF h hr
  go_enter Tryz.func5, Tryz.ntmps5
  go_wp2_with (first
    | (go_at_call 12; refine HL.out.mono ?_; rintro e w1 ⟨rfl, hb1⟩)
    | (go_at_call 8; first
        | (refine (built_any _ (HF.out.kept (stp hb1 hb2))).mono ?_; rintro e w3 ⟨rfl, hb3⟩)
        | (refine (built_any _ (HF.out.kept hb1)).mono ?_; rintro e w2 ⟨rfl, hb2⟩)))
  go_ret
  exact ⟨rfl, stp (stp hb1 hb2) hb3⟩
set_option maxRecDepth 100000 in
set_option maxHeartbeats 1600000 in
theorem asmBack_long (v : Value) (l t : S.By) (hr : listRes l = (t, 0)) (hl : 4000 < t.length) (w : World) (h : sliceAt w v l) (hF : AF w) :
    Calls Tryz.prog 5 #[v] w fun e w' => e = .returned (.bool true) ∧ Below w.heap.size w w' := by
  have HL := hid (list_res v l t 0 hr w h hF)
  have HF := hid hF
  have hl1 : (4000 : Int) < (mk t).size := by rw [mk_size]; omega
  clear hF h hr
  go_enter Tryz.func5, Tryz.ntmps5
  go_wp2_with (first
    | (go_at_call 12; refine HL.out.mono ?_; rintro e w1 ⟨rfl, hb1⟩)
    | (go_at_call 8; first
        | (refine (built_any _ (HF.out.kept (stp hb1 hb2))).mono ?_; rintro e w3 ⟨rfl, hb3⟩)
        | (refine (built_any _ (HF.out.kept hb1)).mono ?_; rintro e w2 ⟨rfl, hb2⟩)))
  go_ret
  exact ⟨rfl, stp (stp hb1 hb2) hb3⟩
set_option maxRecDepth 100000 in
set_option maxHeartbeats 1600000 in
theorem asmBack_lines (v : Value) (l t : S.By) (hr : listRes l = (t, 0)) (hl : t.length ≤ 4000) (hc : 300 < t.count 10) (w : World) (h : sliceAt w v l) (hF : AF w) :
    Calls Tryz.prog 5 #[v] w fun e w' => e = .returned (.bool true) ∧ Below w.heap.size w w' := by
  have HL := hid (list_res v l t 0 hr w h hF)
  have HF := hid hF
  have hl1 : ¬ (4000 : Int) < (mk t).size := by rw [mk_size]; omega
  have hc1 : (300 : Int) < (t.count 10 : Nat) := by omega
  have cv := fun w => Lib.run_convert_string_bytes (P := Tryz.prog) w 9 22 5 (mk t) Tryz.underlying9 Tryz.underlying22 Tryz.underlying5
  have cc := fun (w : World) => Lib.run_convert_bytes_const (P := Tryz.prog) w 22 5 #[.int .u8 10] 1 1 Tryz.underlying22 Tryz.underlying5
  clear hF h hr
  go_enter Tryz.func5, Tryz.ntmps5
  go_wp2_with (first
    | (go_at_call 12; refine HL.out.mono ?_; rintro e w1 ⟨rfl, hb1⟩)
    | (go_at_call 14; refine (count_bytes t w2 _ _ _ rfl).mono ?_; rintro e w3 ⟨rfl, hb3⟩)
    | (go_at_call 8; first
        | (refine (built_any _ (HF.out.kept (stp (stp hb1 hb2) hb3))).mono ?_; rintro e w4 ⟨rfl, hb4⟩)
        | (refine (built_any _ (HF.out.kept hb1)).mono ?_; rintro e w2 ⟨rfl, hb2⟩)))
  go_ret
  exact ⟨rfl, stp (stp (stp hb1 hb2) hb3) hb4⟩
set_option maxRecDepth 100000 in
set_option maxHeartbeats 1600000 in
theorem asmBack_yes (v : Value) (l t : S.By) (hr : listRes l = (t, 0)) (hl : t.length ≤ 4000) (hc : t.count 10 ≤ 300) (hS : S.readText t = .ok l) (w : World) (h : sliceAt w v l) (hF : AF w) :
    Calls Tryz.prog 5 #[v] w fun e w' => e = .returned (.bool true) ∧ Below w.heap.size w w' := by
  have HL := hid (list_res v l t 0 hr w h hF)
  have HF := hid hF
  have HV := hid h
  have HS := hid hS
  have hl1 : ¬ (4000 : Int) < (mk t).size := by rw [mk_size]; omega
  have hc1 : ¬ (300 : Int) < (t.count 10 : Nat) := by omega
  have hq : (l == l) = true := by simp
  have cv := fun w => Lib.run_convert_string_bytes (P := Tryz.prog) w 9 22 5 (mk t) Tryz.underlying9 Tryz.underlying22 Tryz.underlying5
  have cc := fun (w : World) => Lib.run_convert_bytes_const (P := Tryz.prog) w 22 5 #[.int .u8 10] 1 1 Tryz.underlying22 Tryz.underlying5
  clear hF h hr hS
  go_enter Tryz.func5, Tryz.ntmps5
  go_wp2_with (first
    | (go_at_call 12; refine HL.out.mono ?_; rintro e w1 ⟨rfl, hb1⟩)
    | (go_at_call 14; refine (count_bytes t w2 _ _ _ rfl).mono ?_; rintro e w3 ⟨rfl, hb3⟩)
    | (go_at_call 8; refine (built_any _ (HF.out.kept hb1)).mono ?_; rintro e w2 ⟨rfl, hb2⟩)
    | (go_at_call 6; refine (build_ok t l hl hc HS.out _ (HF.out.kept (stp (stp hb1 hb2) hb3))).mono ?_; rintro e w4 ⟨v4, rfl, hv4, hb4⟩; have HV4 := hid hv4; clear hv4)
    | (go_at_call 11; refine (equal_any v4 v l l _ HV4.out (HV.out.kept (stp (stp (stp hb1 hb2) hb3) hb4))).mono ?_; rw [hq]; rintro e w' ⟨rfl, rfl⟩))
  go_ret
  exact ⟨rfl, stp (stp (stp hb1 hb2) hb3) hb4⟩
theorem asmBack_any (v : Value) (l : S.By) (w : World) (h : sliceAt w v l) (hF : AF w) :
    Calls Tryz.prog 5 #[v] w fun e w' => e = .returned (.bool true) ∧ Below w.heap.size w w' := by
  by_cases hm : 1024 < l.length
  · exact asmBack_err v l [] 2 (by unfold listRes; rw [if_pos hm]) (by decide) w h hF
  · by_cases ho : l.length % 2 = 1
    · exact asmBack_err v l [] 4 (by unfold listRes; rw [if_neg hm, if_pos ho]) (by decide) w h hF
    · have hr : listRes l = (S.list l, 0) := by unfold listRes; rw [if_neg hm, if_neg ho]
      by_cases hl : (S.list l).length ≤ 4000
      · by_cases hc : (S.list l).count 10 ≤ 300
        · exact asmBack_yes v l _ hr hl hc (S.readText_one l (by omega) (by omega)) w h hF
        · exact asmBack_lines v l _ hr hl (by omega) w h hF
      · exact asmBack_long v l _ hr (by omega) w h hF
set_option maxRecDepth 100000 in
theorem asmBack_walk : AsmBackWalk := by
  intro H enc W base v0 d0 p0 hF k0 t0
  obtain ⟨l, hl⟩ := open_bytes Tryz.underlying22 k0 t0
  exact asmBack_any v0 l W hl hF
theorem asmBack_holds : Rows.AsmBackCardSaid := asmBack_card asmBack_walk
end Go.Proofs.YtpjohnjjjoobjabGreatDoor
