/-
  For every two slices of bytes the law AsmJoins of the program returns true and leaves its arguments as they were; its condition: the program's and the library's tables hold what their texts lay (the card ties them).
-/
import Derived.Test.YtknhnfpjghaopaaGreatDoorAsmJoinsFrame
import Derived.Test.YtknhnfpjghaopaaGreatDoorAsmCc
import Derived.Lib.SlBytesConst
namespace Go.Proofs.YtknhnfpjghaopaaGreatDoor
open Go.ChangeShapes Go.WideShapes Go.ChangeAt Go.RowKit
set_option linter.unusedVariables false

theorem count_bytes (t : S.By) (w : World) (c H : Nat) (fr : Nat × Nat) (hH : H = (Lib.bytesWorld w 5 (mk t)).heap.size) :
    Calls Tryz.prog 12 #[.slice (some ⟨w.heap.size, 0, none⟩) (mk t).size c, .slice (some ⟨H, 0, none⟩) 1 1] ((Lib.bytesWorld w 5 (mk t)).alloc (.cells #[.int .u8 10] 5 fr)) fun e w' => e = .returned (.int .i64 (t.count 10 : Nat)) ∧ Below w.heap.size w w' := by
  have hsz := Lib.bytesWorld_size w 5 (mk t)
  have hb : Below w.heap.size w ((Lib.bytesWorld w 5 (mk t)).alloc (.cells #[.int .u8 10] 5 fr)) := stA (Lib.bytesWorld_below w _ _) _
  refine (Tryz.bytes_Count_one w.heap.size 0 (mk t).size c H 0 1 (t.map (fun c => (c.toNat : Int))) 10 _ (by rw [List.length_map]; rfl) (fun i hi => ?_) ?_).mono fun e w' hh => ⟨?_, hh.2 ▸ hb⟩
  · rw [Nat.zero_add, World.cell?_alloc_lt _ _ _ (by rw [hsz]; simp), Lib.bytesWorld_cell w _ (mk t) i hi]
    obtain ⟨x, hx, hg⟩ := getD_nums t i hi
    rw [hg]
    have : (mk t).data.toList.getD i 0 = x := by show t.getD i 0 = x; simp [List.getD, hx]
    rw [this]
  · rw [hH]; exact Lib.cell_of_heap (heap_alloc_new _ _) 0
  · rw [hh.1]
    have e1 : Lib.bytesOf (t.map (fun c => (c.toNat : Int))) = t := by
      unfold Lib.bytesOf
      rw [List.map_map]
      have : ((fun n : Int => UInt8.ofNat n.toNat) ∘ fun c : UInt8 => (c.toNat : Int)) = id := by funext c; simp
      rw [this, List.map_id]
    rw [e1]; rfl
set_option maxRecDepth 100000 in
set_option maxHeartbeats 1600000 in
theorem joins_err1 (v1 v2 : Value) (l1 l2 t1 t2 : S.By) (e1 e2 : Int) (hr1 : listRes l1 = (t1, e1)) (hr2 : listRes l2 = (t2, e2)) (he : ¬ e1 = 0) (w : World) (h1 : sliceAt w v1 l1) (h2 : sliceAt w v2 l2) (hF : AF w) :
    Calls Tryz.prog 4 #[v1, v2] w fun e w' => e = .returned (.bool true) ∧ Below w.heap.size w w' := by
  have HL1 := hid (list_res v1 l1 t1 e1 hr1 w h1 hF)
  have HL2 := hid (fun W (hb : Below w.heap.size w W) => list_res v2 l2 t2 e2 hr2 W (h2.kept hb) (hF.kept hb))
  have HF := hid hF
  have HV1 := hid h1
  have HV2 := hid h2
  obtain ⟨a1, k1, x1⟩ := slice_len h1
  obtain ⟨a2, k2, x2⟩ := slice_len h2
  subst x1 x2
  clear hF h1 h2 hr1 hr2
  go_enter Tryz.func4, Tryz.ntmps4
  go_wp2_with (first
    | (go_at_call 11; first
        | (refine (HL2.out w1 hb1).mono ?_; rintro e w2 ⟨rfl, hb2⟩; have hbA := hid (stp hb1 hb2))
        | (refine HL1.out.mono ?_; rintro e w1 ⟨rfl, hb1⟩))
    | (go_at_call 7; first
        | (refine (built_any _ (HF.out.kept hbB.out)).mono ?_; rintro e w4 ⟨rfl, hb4⟩)
        | (refine (built_any _ (HF.out.kept hbA.out)).mono ?_; rintro e w3 ⟨rfl, hb3⟩; have hbB := hid (stp hbA.out hb3))))
  go_ret
  exact ⟨rfl, stp hbB.out hb4⟩
set_option maxRecDepth 100000 in
set_option maxHeartbeats 1600000 in
theorem joins_err2 (v1 v2 : Value) (l1 l2 t1 t2 : S.By) (e2 : Int) (hr1 : listRes l1 = (t1, 0)) (hr2 : listRes l2 = (t2, e2)) (he : ¬ e2 = 0) (w : World) (h1 : sliceAt w v1 l1) (h2 : sliceAt w v2 l2) (hF : AF w) :
    Calls Tryz.prog 4 #[v1, v2] w fun e w' => e = .returned (.bool true) ∧ Below w.heap.size w w' := by
  have HL1 := hid (list_res v1 l1 t1 0 hr1 w h1 hF)
  have HL2 := hid (fun W (hb : Below w.heap.size w W) => list_res v2 l2 t2 e2 hr2 W (h2.kept hb) (hF.kept hb))
  have HF := hid hF
  have HV1 := hid h1
  have HV2 := hid h2
  obtain ⟨a1, k1, x1⟩ := slice_len h1
  obtain ⟨a2, k2, x2⟩ := slice_len h2
  subst x1 x2
  clear hF h1 h2 hr1 hr2
  go_enter Tryz.func4, Tryz.ntmps4
  go_wp2_with (first
    | (go_at_call 11; first
        | (refine (HL2.out w1 hb1).mono ?_; rintro e w2 ⟨rfl, hb2⟩; have hbA := hid (stp hb1 hb2))
        | (refine HL1.out.mono ?_; rintro e w1 ⟨rfl, hb1⟩))
    | (go_at_call 7; first
        | (refine (built_any _ (HF.out.kept hbB.out)).mono ?_; rintro e w4 ⟨rfl, hb4⟩)
        | (refine (built_any _ (HF.out.kept hbA.out)).mono ?_; rintro e w3 ⟨rfl, hb3⟩; have hbB := hid (stp hbA.out hb3))))
  go_ret
  exact ⟨rfl, stp hbB.out hb4⟩
set_option maxRecDepth 100000 in
set_option maxHeartbeats 1600000 in
theorem joins_long (v1 v2 : Value) (l1 l2 t1 t2 : S.By) (hr1 : listRes l1 = (t1, 0)) (hr2 : listRes l2 = (t2, 0)) (hm1 : t1.length ≤ 100000) (hm2 : t2.length ≤ 100000) (hl : 4000 < t1.length + t2.length) (w : World) (h1 : sliceAt w v1 l1) (h2 : sliceAt w v2 l2) (hF : AF w) :
    Calls Tryz.prog 4 #[v1, v2] w fun e w' => e = .returned (.bool true) ∧ Below w.heap.size w w' := by
  have HL1 := hid (list_res v1 l1 t1 0 hr1 w h1 hF)
  have HL2 := hid (fun W (hb : Below w.heap.size w W) => list_res v2 l2 t2 0 hr2 W (h2.kept hb) (hF.kept hb))
  have HF := hid hF
  have HV1 := hid h1
  have HV2 := hid h2
  obtain ⟨a1, k1, x1⟩ := slice_len h1
  obtain ⟨a2, k2, x2⟩ := slice_len h2
  subst x1 x2
  clear hF h1 h2 hr1 hr2
  have s1 : ((mk t1).size : Int) ≤ 100000 := by rw [mk_size]; omega
  have s2 : ((mk t2).size : Int) ≤ 100000 := by rw [mk_size]; omega
  have hg : (4000 : Int) < (mk t1).size + (mk t2).size := by rw [mk_size, mk_size]; omega
  go_enter Tryz.func4, Tryz.ntmps4
  go_wp2_with (first
    | (go_at_call 11; first
        | (refine (HL2.out w1 hb1).mono ?_; rintro e w2 ⟨rfl, hb2⟩; have hbA := hid (stp hb1 hb2))
        | (refine HL1.out.mono ?_; rintro e w1 ⟨rfl, hb1⟩))
    | (go_at_call 7; first
        | (refine (built_any _ (HF.out.kept hbB.out)).mono ?_; rintro e w4 ⟨rfl, hb4⟩)
        | (refine (built_any _ (HF.out.kept hbA.out)).mono ?_; rintro e w3 ⟨rfl, hb3⟩; have hbB := hid (stp hbA.out hb3))))
  go_ret
  exact ⟨rfl, stp hbB.out hb4⟩
set_option maxRecDepth 100000 in
set_option maxHeartbeats 1600000 in
theorem joins_rom (v1 v2 : Value) (l1 l2 t1 t2 : S.By) (hr1 : listRes l1 = (t1, 0)) (hr2 : listRes l2 = (t2, 0)) (hl : t1.length + t2.length ≤ 4000) (hq1 : l1.length ≤ 1024) (hq2 : l2.length ≤ 1024) (hr : 1024 < l1.length + l2.length) (w : World) (h1 : sliceAt w v1 l1) (h2 : sliceAt w v2 l2) (hF : AF w) :
    Calls Tryz.prog 4 #[v1, v2] w fun e w' => e = .returned (.bool true) ∧ Below w.heap.size w w' := by
  have HL1 := hid (list_res v1 l1 t1 0 hr1 w h1 hF)
  have HL2 := hid (fun W (hb : Below w.heap.size w W) => list_res v2 l2 t2 0 hr2 W (h2.kept hb) (hF.kept hb))
  have HF := hid hF
  have HV1 := hid h1
  have HV2 := hid h2
  obtain ⟨a1, k1, x1⟩ := slice_len h1
  obtain ⟨a2, k2, x2⟩ := slice_len h2
  subst x1 x2
  clear hF h1 h2 hr1 hr2
  have s1 : ((mk t1).size : Int) ≤ 4000 := by rw [mk_size]; omega
  have s2 : ((mk t2).size : Int) ≤ 4000 := by rw [mk_size]; omega
  have hg : ¬ (4000 : Int) < (mk t1).size + (mk t2).size := by rw [mk_size, mk_size]; omega
  have hg2 : (1024 : Int) < (l1.length : Int) + l2.length := by omega
  have hi1 : (l1.length : Int) ≤ 1024 := by omega
  have hi2 : (l2.length : Int) ≤ 1024 := by omega
  clear hq1 hq2
  go_enter Tryz.func4, Tryz.ntmps4
  go_wp2_with (first
    | (go_at_call 11; first
        | (refine (HL2.out w1 hb1).mono ?_; rintro e w2 ⟨rfl, hb2⟩; have hbA := hid (stp hb1 hb2))
        | (refine HL1.out.mono ?_; rintro e w1 ⟨rfl, hb1⟩))
    | (go_at_call 7; first
        | (refine (built_any _ (HF.out.kept hbB.out)).mono ?_; rintro e w4 ⟨rfl, hb4⟩)
        | (refine (built_any _ (HF.out.kept hbA.out)).mono ?_; rintro e w3 ⟨rfl, hb3⟩; have hbB := hid (stp hbA.out hb3))))
  go_ret
  exact ⟨rfl, stp hbB.out hb4⟩
set_option maxRecDepth 100000 in
set_option maxHeartbeats 1600000 in
theorem joins_lines (v1 v2 : Value) (l1 l2 t1 t2 t : S.By) (ht : t1 ++ t2 = t) (hr1 : listRes l1 = (t1, 0)) (hr2 : listRes l2 = (t2, 0)) (hl : t1.length + t2.length ≤ 4000) (hr : l1.length + l2.length ≤ 1024) (hc : 300 < t.count 10) (w : World) (h1 : sliceAt w v1 l1) (h2 : sliceAt w v2 l2) (hF : AF w) :
    Calls Tryz.prog 4 #[v1, v2] w fun e w' => e = .returned (.bool true) ∧ Below w.heap.size w w' := by
  have HL1 := hid (list_res v1 l1 t1 0 hr1 w h1 hF)
  have HL2 := hid (fun W (hb : Below w.heap.size w W) => list_res v2 l2 t2 0 hr2 W (h2.kept hb) (hF.kept hb))
  have HF := hid hF
  have HV1 := hid h1
  have HV2 := hid h2
  obtain ⟨a1, k1, x1⟩ := slice_len h1
  obtain ⟨a2, k2, x2⟩ := slice_len h2
  subst x1 x2
  clear hF h1 h2 hr1 hr2
  have s1 : ((mk t1).size : Int) ≤ 4000 := by rw [mk_size]; omega
  have s2 : ((mk t2).size : Int) ≤ 4000 := by rw [mk_size]; omega
  have hg : ¬ (4000 : Int) < (mk t1).size + (mk t2).size := by rw [mk_size, mk_size]; omega
  have hg2 : ¬ (1024 : Int) < (l1.length : Int) + l2.length := by omega
  have hcat : ¬ 9223372036854775807 < (mk t1).size + (mk t2).size := by rw [mk_size, mk_size]; omega
  have hmk := (mk_append t1 t2).trans (congrArg mk ht)
  have cv := fun w => Lib.run_convert_string_bytes (P := Tryz.prog) w 9 22 5 (mk t) Tryz.underlying9 Tryz.underlying22 Tryz.underlying5
  have cc := fun (w : World) => Lib.run_convert_bytes_const (P := Tryz.prog) w 22 5 #[.int .u8 10] 1 1 Tryz.underlying22 Tryz.underlying5
  have hc1 : (300 : Int) < (t.count 10 : Nat) := by omega
  clear ht
  go_enter Tryz.func4, Tryz.ntmps4
  go_wp2_with (first
    | (go_at_call 11; first
        | (refine (HL2.out w1 hb1).mono ?_; rintro e w2 ⟨rfl, hb2⟩; have hbA := hid (stp hb1 hb2))
        | (refine HL1.out.mono ?_; rintro e w1 ⟨rfl, hb1⟩))
    | (go_at_call 12; refine (count_bytes t w3 _ _ _ rfl).mono ?_; rintro e w4 ⟨rfl, hb4⟩; have hbC := hid (stp hbB.out hb4))
    | (go_at_call 7; first
        | (refine (built_any _ (HF.out.kept hbC.out)).mono ?_; rintro e w5 ⟨rfl, hb5⟩)
        | (refine (built_any _ (HF.out.kept hbA.out)).mono ?_; rintro e w3 ⟨rfl, hb3⟩; have hbB := hid (stp hbA.out hb3))))
  go_ret
  exact ⟨rfl, stp hbC.out hb5⟩
set_option maxRecDepth 100000 in
set_option maxHeartbeats 1600000 in
theorem joins_yes (v1 v2 : Value) (l1 l2 t1 t2 t : S.By) (ht : t1 ++ t2 = t) (hr1 : listRes l1 = (t1, 0)) (hr2 : listRes l2 = (t2, 0)) (hl : t1.length + t2.length ≤ 4000) (hr : l1.length + l2.length ≤ 1024) (hc : t.count 10 ≤ 300) (hS : S.readText t = .ok (l1 ++ l2)) (w : World) (h1 : sliceAt w v1 l1) (h2 : sliceAt w v2 l2) (hF : AF w) :
    Calls Tryz.prog 4 #[v1, v2] w fun e w' => e = .returned (.bool true) ∧ Below w.heap.size w w' := by
  have HL1 := hid (list_res v1 l1 t1 0 hr1 w h1 hF)
  have HL2 := hid (fun W (hb : Below w.heap.size w W) => list_res v2 l2 t2 0 hr2 W (h2.kept hb) (hF.kept hb))
  have HF := hid hF
  have HV1 := hid h1
  have HV2 := hid h2
  obtain ⟨a1, k1, x1⟩ := slice_len h1
  obtain ⟨a2, k2, x2⟩ := slice_len h2
  subst x1 x2
  clear hF h1 h2 hr1 hr2
  have s1 : ((mk t1).size : Int) ≤ 4000 := by rw [mk_size]; omega
  have s2 : ((mk t2).size : Int) ≤ 4000 := by rw [mk_size]; omega
  have hg : ¬ (4000 : Int) < (mk t1).size + (mk t2).size := by rw [mk_size, mk_size]; omega
  have hg2 : ¬ (1024 : Int) < (l1.length : Int) + l2.length := by omega
  have hcat : ¬ 9223372036854775807 < (mk t1).size + (mk t2).size := by rw [mk_size, mk_size]; omega
  have hmk := (mk_append t1 t2).trans (congrArg mk ht)
  have cv := fun w => Lib.run_convert_string_bytes (P := Tryz.prog) w 9 22 5 (mk t) Tryz.underlying9 Tryz.underlying22 Tryz.underlying5
  have cc := fun (w : World) => Lib.run_convert_bytes_const (P := Tryz.prog) w 22 5 #[.int .u8 10] 1 1 Tryz.underlying22 Tryz.underlying5
  have hc1 : ¬ (300 : Int) < (t.count 10 : Nat) := by omega
  have hlen : t.length ≤ 4000 := by rw [← ht, List.length_append]; exact hl
  have hq : ((l1 ++ l2) == (l1 ++ l2)) = true := by simp
  have HS := hid hS
  have HLEN := hid hlen
  clear hS hlen
  clear ht
  go_enter Tryz.func4, Tryz.ntmps4
  go_wp2_with (first
    | (go_at_call 11; first
        | (refine (HL2.out w1 hb1).mono ?_; rintro e w2 ⟨rfl, hb2⟩; have hbA := hid (stp hb1 hb2))
        | (refine HL1.out.mono ?_; rintro e w1 ⟨rfl, hb1⟩))
    | (go_at_call 12; refine (count_bytes t w3 _ _ _ rfl).mono ?_; rintro e w4 ⟨rfl, hb4⟩; have hbC := hid (stp hbB.out hb4))
    | (go_at_call 7; refine (built_any _ (HF.out.kept hbA.out)).mono ?_; rintro e w3 ⟨rfl, hb3⟩; have hbB := hid (stp hbA.out hb3))
    | (go_at_call 5; refine (build_ok t (l1 ++ l2) HLEN.out hc HS.out _ (HF.out.kept hbC.out)).mono ?_; rintro e w5 ⟨v5, rfl, hv5, hb5⟩; have HV5 := hid hv5; have hbD := hid (stp hbC.out hb5); clear hv5)
    | (go_at_call 13; refine (concat_two w5.heap.size _ _ l1 l2 _ ((HV1.out.kept hbD.out).kept (stA (st0 _) _)) ((HV2.out.kept hbD.out).kept (stA (st0 _) _)) (by simp) (by simp) hr).mono ?_; rintro e w6 ⟨v6, rfl, hv6, hb6⟩; have HV6 := hid hv6; clear hv6)
    | (go_at_call 10; refine (equal_any v5 v6 (l1 ++ l2) (l1 ++ l2) _ (HV5.out.kept (stp (stA (st0 _) _) hb6)) HV6.out).mono ?_; rw [hq]; rintro e w' ⟨rfl, rfl⟩))
  go_ret
  exact ⟨rfl, stp hbD.out (stp (stA (st0 _) _) hb6)⟩
theorem listRes_or (l : S.By) : (∃ e, ¬ e = 0 ∧ listRes l = ([], e)) ∨ (l.length ≤ 1024 ∧ ¬ l.length % 2 = 1 ∧ listRes l = (S.list l, 0)) := by
  unfold listRes
  by_cases hm : 1024 < l.length
  · exact Or.inl ⟨2, by decide, by rw [if_pos hm]⟩
  · by_cases ho : l.length % 2 = 1
    · exact Or.inl ⟨4, by decide, by rw [if_neg hm, if_pos ho]⟩
    · exact Or.inr ⟨by omega, ho, by rw [if_neg hm, if_neg ho]⟩
theorem listN_len : ∀ (f : Nat) (rom : S.By), (S.listN f rom).length ≤ 61 * f
  | 0, _ => by simp [S.listN]
  | f + 1, rom => by
    have h1 := listN_len f (rom.drop (S.firstLine rom).2)
    have h2 := line_len rom
    unfold S.listN
    split
    · simp
    · rw [List.length_append, List.length_cons]; omega
theorem list_len (l : S.By) (h : l.length ≤ 1024) : (S.list l).length ≤ 100000 := by
  have := listN_len l.length l
  unfold S.list
  omega
theorem joins_any (v1 v2 : Value) (l1 l2 : S.By) (w : World) (h1 : sliceAt w v1 l1) (h2 : sliceAt w v2 l2) (hF : AF w) :
    Calls Tryz.prog 4 #[v1, v2] w fun e w' => e = .returned (.bool true) ∧ Below w.heap.size w w' := by
  have e1 := listRes_or l1
  have e2 := listRes_or l2
  rcases e1 with ⟨e, he, hr1⟩ | ⟨hm1, ho1, hr1⟩
  · rcases e2 with ⟨e', _, hr2⟩ | ⟨_, _, hr2⟩
    · exact joins_err1 v1 v2 l1 l2 _ _ e _ hr1 hr2 he w h1 h2 hF
    · exact joins_err1 v1 v2 l1 l2 _ _ e _ hr1 hr2 he w h1 h2 hF
  · rcases e2 with ⟨e', he', hr2⟩ | ⟨hm2, ho2, hr2⟩
    · exact joins_err2 v1 v2 l1 l2 _ _ _ hr1 hr2 he' w h1 h2 hF
    · by_cases hl : (S.list l1).length + (S.list l2).length ≤ 4000
      · by_cases hr : l1.length + l2.length ≤ 1024
        · by_cases hc : (S.list l1 ++ S.list l2).count 10 ≤ 300
          · exact joins_yes v1 v2 l1 l2 _ _ _ rfl hr1 hr2 hl hr hc (S.readText_two l1 l2 (by omega) (by omega) hr) w h1 h2 hF
          · exact joins_lines v1 v2 l1 l2 _ _ _ rfl hr1 hr2 hl hr (by omega) w h1 h2 hF
        · exact joins_rom v1 v2 l1 l2 _ _ hr1 hr2 hl hm1 hm2 (by omega) w h1 h2 hF
      · exact joins_long v1 v2 l1 l2 _ _ hr1 hr2 (list_len l1 hm1) (list_len l2 hm2) (by omega) w h1 h2 hF
set_option maxRecDepth 100000 in
theorem asmJoins_walk : AsmJoinsWalk := by
  intro H enc W base v0 v1 d0 d1 p0 p1 hF k0 t0 k1 t1
  obtain ⟨l, hl⟩ := open_bytes Tryz.underlying22 k0 t0
  obtain ⟨l', hl'⟩ := open_bytes Tryz.underlying22 k1 t1
  exact joins_any v0 v1 l l' W hl hl' hF
theorem asmJoins_holds : Rows.AsmJoinsCardSaid := asmJoins_card asmJoins_walk
end Go.Proofs.YtknhnfpjghaopaaGreatDoor
