/-
  For every slice of bytes the law AsmList of the program returns true and leaves its argument as it was; its condition: the program's and the library's tables hold what their texts lay (the card ties them).
-/
import Derived.Test.YtpjohnjjjoobjabGreatDoorAsmListFrame
namespace Go.Proofs.YtpjohnjjjoobjabGreatDoor
open Go.ChangeShapes Go.WideShapes Go.ChangeAt Go.RowKit
set_option linter.unusedVariables false

set_option maxRecDepth 100000 in
set_option maxHeartbeats 1600000 in
theorem asmList_many (a : Option Addr) (n cap : Nat) (l : S.By) (hn : l.length = n) (hm : 1024 < n) (w : World) (h : sliceAt w (.slice a n cap) l) (hF : RF w) :
    Calls Tryz.prog 4 #[.slice a n cap] w fun e w' => e = .returned (.bool true) ∧ Below w.heap.size w w' := by
  have HL := hid (list_res _ l [] 2 (by unfold listRes; rw [if_pos (by omega)]) w h hF.af)
  have HF := hid hF
  have hm1 : (1024 : Int) < n := by omega
  have he : (mk []).toList.isEmpty = true := mk_empty []
  clear hF h
  go_enter Tryz.func4, Tryz.ntmps4
  go_wp2_with (first
    | (go_at_call 12; refine HL.out.mono ?_; rintro e w1 ⟨rfl, hb1⟩)
    | (go_at_call 8; refine (built_any _ (HF.out.kept hb1).af).mono ?_; rintro e w2 ⟨rfl, hb2⟩))
  go_ret
  exact ⟨rfl, stp hb1 hb2⟩
set_option maxRecDepth 100000 in
set_option maxHeartbeats 1600000 in
theorem asmList_odd (a : Option Addr) (n cap : Nat) (l : S.By) (hn : l.length = n) (hm : ¬ 1024 < n) (ho : n % 2 = 1) (w : World) (h : sliceAt w (.slice a n cap) l) (hF : RF w) :
    Calls Tryz.prog 4 #[.slice a n cap] w fun e w' => e = .returned (.bool true) ∧ Below w.heap.size w w' := by
  have HL := hid (list_res _ l [] 4 (by unfold listRes; rw [if_neg (by omega), if_pos (by omega)]) w h hF.af)
  have HF := hid hF
  have hm1 : ¬ (1024 : Int) < n := by omega
  have ho1 : (n : Int) % 2 = 1 := by omega
  have ho2 : (n : Int).tmod 2 = 1 := by rw [Int.tmod_eq_emod_of_nonneg (by omega)]; exact ho1
  have he : (mk []).toList.isEmpty = true := mk_empty []
  clear hF h ho
  go_enter Tryz.func4, Tryz.ntmps4
  go_wp2_with (first
    | (go_at_call 12; refine HL.out.mono ?_; rintro e w1 ⟨rfl, hb1⟩)
    | (go_at_call 8; refine (built_any _ (HF.out.kept hb1).af).mono ?_; rintro e w2 ⟨rfl, hb2⟩))
  go_ret
  exact ⟨rfl, stp hb1 hb2⟩
set_option maxRecDepth 100000 in
set_option maxHeartbeats 1600000 in
theorem asmList_yes (a : Option Addr) (n cap : Nat) (l : S.By) (hn : l.length = n) (hm : ¬ 1024 < n) (ho : n % 2 = 0) (w : World) (h : sliceAt w (.slice a n cap) l) (hF : RF w) :
    Calls Tryz.prog 4 #[.slice a n cap] w fun e w' => e = .returned (.bool true) ∧ Below w.heap.size w w' := by
  have HL := hid (list_res _ l (S.list l) 0 (by unfold listRes; rw [if_neg (by omega), if_neg (by omega)]) w h hF.af)
  have HF := hid hF
  have HV := hid h
  have hm1 : ¬ (1024 : Int) < n := by omega
  have ho1 : (n : Int) % 2 = 0 := by omega
  have ho2 : (n : Int).tmod 2 = 0 := by rw [Int.tmod_eq_emod_of_nonneg (by omega)]; exact ho1
  have hss : (mk (S.list l) == mk (S.list l)) = true := by rw [beq_s]; simp
  clear hF h ho
  go_enter Tryz.func4, Tryz.ntmps4
  go_wp2_with (first
    | (go_at_call 12; refine HL.out.mono ?_; rintro e w1 ⟨rfl, hb1⟩)
    | (go_at_call 8; refine (built_any _ (HF.out.kept hb1).af).mono ?_; rintro e w2 ⟨rfl, hb2⟩)
    | (go_at_call 13; refine (listed_any _ l (by omega) (by omega) _ (HV.out.kept (stp hb1 hb2)) (HF.out.kept (stp hb1 hb2))).mono ?_; rintro e w3 ⟨rfl, hb3⟩))
  go_ret
  exact ⟨rfl, stp (stp hb1 hb2) hb3⟩
theorem asmList_any (v : Value) (l : S.By) (w : World) (h : sliceAt w v l) (hF : RF w) :
    Calls Tryz.prog 4 #[v] w fun e w' => e = .returned (.bool true) ∧ Below w.heap.size w w' := by
  obtain ⟨a, cap, rfl⟩ : ∃ a cap, v = .slice a l.length cap := by
    rcases h with ⟨a, cap, rfl, rfl⟩ | ⟨g, o, cap, rfl, _⟩
    · exact ⟨a, cap, rfl⟩
    · exact ⟨_, cap, rfl⟩
  by_cases hm : 1024 < l.length
  · exact asmList_many a _ cap l rfl hm w h hF
  · by_cases ho : l.length % 2 = 1
    · exact asmList_odd a _ cap l rfl hm ho w h hF
    · exact asmList_yes a _ cap l rfl hm (by omega) w h hF
set_option maxRecDepth 100000 in
theorem asmList_walk : AsmListWalk := by
  intro H enc W base v0 d0 p0 hF k0 t0
  obtain ⟨l, hl⟩ := open_bytes Tryz.underlying22 k0 t0
  exact asmList_any v0 l W hl hF
theorem asmList_holds : Rows.AsmListCardSaid := asmList_card asmList_walk
end Go.Proofs.YtpjohnjjjoobjabGreatDoor
