/-
  What package asm's number, known, wordOrName, opsByName answer where nothing is wrong.
-/
import Derived.Test.YtdjhlfoapieohaaGreatDoorAsmH
namespace Go.Proofs.YtdjhlfoapieohaaGreatDoor
open Go.ChangeShapes Go.WideShapes Go.ChangeAt Go.RowKit
set_option linter.unusedVariables false

theorem known_ok (p : Option Addr) (v : Int) (w : World) :
    Calls Tryz.prog 106 #[.pointer p, .int .i64 v, .bool true] w fun e w' => e = .returned (.int .i64 v) ∧ w' = w := by
  go_enter Tryz.func106, Tryz.ntmps106
  go_wp2
  go_ret
  exact ⟨rfl, rfl⟩
theorem num_parts {l : S.By} {n : Int} (h : S.num l = some n) : Lib.atoiAll l = .ok n ∧ Lib.itoa n = l := by
  unfold S.num at h
  split at h
  · rename_i v hv
    split at h
    · rename_i hi
      cases h
      exact ⟨hv, hi⟩
    · cases h
  · cases h
theorem atoi_ok (s : ByteArray) (n : Int) (hs : s.size ≤ 10000) (h : Lib.atoiAll (bs s) = .ok n) (w : World) :
    Calls Tryz.prog 122 #[.string s] w fun e w' => e = .returned (.tuple #[.int .i64 n, .nilIface]) ∧ Below w.heap.size w w' := by
  refine (Tryz.strconv_Atoi_ok s (by omega) n h w).mono fun e w' hh => ⟨hh.1, ?_⟩
  rcases hh.2 with rfl | ⟨t, rfl⟩
  · exact st0 _
  · exact Joins.below_bytesWorld _ _ _ _ (Nat.le_refl _)
theorem number_ok (s : ByteArray) (n : Int) (hs : s.size ≤ 10000) (h : S.num (bs s) = some n) (w : World) (hF : AF w) :
    Calls Tryz.prog 107 #[.string s] w fun e w' => e = .returned (.tuple #[.int .i64 n, .bool true]) ∧ Below w.heap.size w w' := by
  obtain ⟨h1, h2⟩ := num_parts h
  obtain ⟨b0, b1⟩ := Lib.atoiAll_bounds h1
  have HA := hid (atoi_ok s n hs h1 w)
  have HI : Hid (∀ w, AF w → Calls Tryz.prog 68 #[.int .i64 n] w fun e w' => e = .returned (.string s) ∧ Below w.heap.size w w') := fun w hF => by
    have := itoa_any n b0 b1 w hF
    rw [h2, mk_bs] at this
    exact this
  have HF := hid hF
  have hss : (s == s) = true := by rw [beq_s]; simp
  clear h h1 h2 hF
  go_enter Tryz.func107, Tryz.ntmps107
  go_wp2_with (first
    | (go_at_call 122; refine HA.out.mono ?_; rintro e w1 ⟨rfl, hb1⟩)
    | (go_at_call 68; refine (HI.out _ (HF.out.kept hb1)).mono ?_; rintro e w2 ⟨rfl, hb2⟩))
  go_ret2
  exact ⟨rfl, stp hb1 hb2⟩
theorem wordOrName_name (p : Option Addr) (s : ByteArray) (h : S.nameOk (bs s) = true) (w : World) :
    Calls Tryz.prog 104 #[.pointer p, .string s] w fun e w' => e = .returned (.tuple #[.int .i64 0, .string s]) ∧ w' = w := by
  have HN := hid (asmName_any s w)
  rw [h] at HN
  clear h
  go_enter Tryz.func104, Tryz.ntmps104
  go_wp2_with (go_at_call 7; refine HN.out.mono ?_; rintro e w' ⟨rfl, rfl⟩)
  go_ret2
  exact ⟨rfl, rfl⟩
theorem wordOrName_num (p : Option Addr) (s : ByteArray) (n : Int) (hs : s.size ≤ 10000) (h : S.nameOk (bs s) = false) (h2 : S.num (bs s) = some n) (w : World) (hF : AF w) :
    Calls Tryz.prog 104 #[.pointer p, .string s] w fun e w' => e = .returned (.tuple #[.int .i64 n, .string (mk [])]) ∧ Below w.heap.size w w' := by
  have HN := hid (asmName_any s w)
  rw [h] at HN
  have HM := hid (number_ok s n hs h2 w hF)
  clear h h2 hF
  go_enter Tryz.func104, Tryz.ntmps104
  go_wp2_with (first
    | (go_at_call 7; refine HN.out.mono ?_; rintro e w' ⟨rfl, rfl⟩)
    | (go_at_call 107; refine HM.out.mono ?_; rintro e w1 ⟨rfl, hb1⟩)
    | (go_at_call 106; refine (known_ok p n _).mono ?_; rintro e w' ⟨rfl, rfl⟩))
  go_ret2
  exact ⟨rfl, hb1⟩
theorem wordOrName_ok (p : Option Addr) (s : ByteArray) (x : Int × S.By) (hs : s.size ≤ 10000) (h : S.wordOrName (bs s) = some x) (w : World) (hF : AF w) :
    Calls Tryz.prog 104 #[.pointer p, .string s] w fun e w' => e = .returned (.tuple #[.int .i64 x.1, .string (mk x.2)]) ∧ Below w.heap.size w w' := by
  unfold S.wordOrName at h
  cases hn : S.nameOk (bs s) with
  | true =>
    rw [hn] at h
    cases h
    refine (wordOrName_name p s hn w).mono fun e w' hh => ⟨hh.1.trans ?_, hh.2 ▸ st0 _⟩
    rw [mk_bs]
  | false =>
    rw [hn] at h
    cases hm : S.num (bs s) with
    | none => rw [hm] at h; cases h
    | some n =>
      rw [hm] at h
      cases h
      exact wordOrName_num p s n hs hn hm w hF
set_option maxRecDepth 100000 in
set_option maxHeartbeats 1600000 in
theorem opsByName_any (w : World) (hs : shapesAt w) :
    Calls Tryz.prog 29 #[] w fun e w' => e = .returned (.map (some w.heap.size)) ∧ mapS w' w.heap.size (opsTo 32) ∧ Below w.heap.size w w' := by
  have HS := hid hs
  have hmm := @run_makeMap Tryz.prog
  clear hs
  go_enter Tryz.func29, Tryz.ntmps29
  go_wp2
  go_loopw [2] (fun i wr => ∃ j : Nat, j ≤ 32 ∧ i = .int .i64 j ∧ mapS wr w.heap.size (opsTo j) ∧ Below w.heap.size w wr) (fun i _ => 32 - (intOf i).toNat)
  case atStart => exact ⟨0, by omega, rfl, mapS_made w, (st0 w).alloc (Nat.le_refl _) _⟩
  case round =>
    obtain ⟨j, hj, rfl, hm, hbl⟩ := hrel
    by_cases hlt : j < 32
    · have hlt' : (j : Int) ≤ 31 := by omega
      by_cases h30 : j = 30
      · subst h30
        have HN := hid (name_no 30 (by decide) wr (HS.out.kept hbl))
        go_wp2_with (go_at_call 50; refine HN.out.mono ?_; rintro e w1 ⟨rfl, hb1⟩)
        go_roundw
        case rel => exact ⟨31, by omega, by go_num, by rw [opsTo_30]; exact hm.below hb1 hm.lt, stp hbl hb1⟩
        case measure => simp [intOf]
      · have HN := hid (name_yes j hlt h30 wr (HS.out.kept hbl))
        have HO := hid (opsTo_no j hlt h30)
        go_wp2_with (first
          | (go_at_call 50; refine HN.out.mono ?_; rintro e w1 ⟨rfl, hb1⟩; have hm1 := hm.below hb1 hm.lt)
          | (at_mapUpdate; refine wpList_store_s _ (by rfl) _ _ _ _ (by rfl) 9 3 Tryz.underlying32 Tryz.underlying9 w.heap.size (opsTo j) (by rfl) hm1 (O.nameS j) j (by rfl) (by rfl) HO.out ?_; intro w2 hm2 hg2))
        go_roundw
        case rel => exact ⟨j + 1, by omega, by go_num, by rw [opsTo_step h30]; exact hm2, (stp hbl hb1).grown hg2 (Nat.le_trans hbl.size hb1.size) (fun k hk => by cases hk; exact Nat.le_refl _)⟩
        case measure => simp [intOf]; omega
    · have hj32 : j = 32 := by omega
      subst hj32
      go_wp2
      go_ret
      exact ⟨rfl, hm, hbl⟩
end Go.Proofs.YtdjhlfoapieohaaGreatDoor
