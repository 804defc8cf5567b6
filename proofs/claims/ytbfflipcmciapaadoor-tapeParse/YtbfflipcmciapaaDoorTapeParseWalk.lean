/-
  The Go text of the law TapeParse returns true.
-/
import Derived.Test.YtbfflipcmciapaaDoorTapU
import Derived.Test.YtbfflipcmciapaaDoorTapeBackWalk
namespace Go.Proofs.YtbfflipcmciapaaDoor
open Go.ChangeShapes Go.WideShapes Go.ChangeAt Go.RowKit
set_option linter.unusedVariables false
set_option maxRecDepth 100000

theorem Tp.prs_err {s : List UInt8} {k : Nat} (hl : ¬ 4000 < s.length) (h : Tp.rdA (Tp.sp 10 s) 0 = .error k) : Tp.prsL s = [] ∧ Tp.prsN s = k ∧ Tp.prsE s = 1 := by
  unfold Tp.prsL Tp.prsN Tp.prsE
  rw [if_neg hl, if_neg hl, if_neg hl, h]
  exact ⟨rfl, rfl, rfl⟩
theorem Tp.prs_ok {s : List UInt8} {l : List Tp.In} (hl : ¬ 4000 < s.length) (h : Tp.rdA (Tp.sp 10 s) 0 = .ok l) : Tp.prsL s = (if Tp.chkIn l 0 = 0 then l else []) ∧ Tp.prsN s = 0 ∧ Tp.prsE s = Tp.chkIn l 0 := by
  unfold Tp.prsL Tp.prsN Tp.prsE
  rw [if_neg hl, if_neg hl, if_neg hl, h]
  exact ⟨rfl, rfl, rfl⟩
set_option maxHeartbeats 1600000 in
theorem Tp.parse_long (s : List UInt8) (w : World) (hF : Tp.F w) (hl : 4000 < s.length) :
    Calls Tryd.prog 4 #[.string (mk s)] w fun e w' => e = .returned (.bool true) ∧ Below w.heap.size w w' := by
  have e1 : Tp.prsL s = [] := if_pos hl
  have e2 : Tp.prsN s = 0 := if_pos hl
  have e3 : Tp.prsE s = 2 := if_pos hl
  have HP := hid (Tp.parse_any s w hF)
  rw [e1, e2, e3] at HP
  have hs : (4000 : Int) < (mk s).size := by show (4000 : Int) < s.length; omega
  have HF := hid hF
  clear e1 e2 e3 hF hl
  go_enter Tryd.func4, Tryd.ntmps4
  go_wp2_with (first
    | (go_at_call 15; refine HP.out.mono ?_; rintro e w1 ⟨pv, rfl, hv, _, hb1⟩; obtain ⟨pa, pc, rfl⟩ := Tp.row_len hv; have HB1 := hid hb1; clear hv hb1)
    | (go_at_call 10; have hq2 := HB2.out; clear hq2; refine (Tp.taped _ (HF.out.kept HB2.out)).mono ?_; rintro e w3 ⟨rfl, hb3⟩; have HB3 := hid (stp HB2.out hb3); clear hb3)
    | (go_at_call 10; refine (Tp.taped _ (HF.out.kept HB1.out)).mono ?_; rintro e w2 ⟨rfl, hb2⟩; have HB2 := hid (stp HB1.out hb2); clear hb2))
  go_ret
  exact ⟨rfl, HB3.out⟩
/-- While the law reads lines. -/
structure Tp.Qw (s : List UInt8) (W0 : World) (j : Nat) (acc : List Tp.In) (v : Value) (Y : World) : Prop where
  low : Below W0.heap.size W0 Y
  row : Y.ownsRow W0.heap.size 34 3 v acc.length (Tp.ics acc)
  eq : Tp.rdA (Tp.sp 10 s) 0 = Tp.aft acc (Tp.rdA ((Tp.sp 10 s).drop j) j)
  len : acc.length = j
theorem Tp.Qw.kept {s : List UInt8} {W0 : World} {j : Nat} {acc : List Tp.In} {v : Value} {Y Y' : World} (h : Tp.Qw s W0 j acc v Y) (hb : Below Y.heap.size Y Y') : Tp.Qw s W0 j acc v Y' := ⟨stp h.low hb, Tp.row_kept h.row hb, h.eq, h.len⟩
theorem Tp.rd_parts {t a b d : List UInt8} (hs : Tp.sp 32 t = [a, b, d]) : Tp.rd t = match Tp.wh a, Tp.wh b, Tp.ofb d with | some x, some y, some z => some ⟨x, y, z⟩ | _, _, _ => none := by
  unfold Tp.rd
  simp only [hs]
  cases Tp.wh a <;> cases Tp.wh b <;> cases Tp.ofb d <;> rfl
theorem Tp.drop_c {α : Type} {l : List α} {j : Nat} {x : α} (h : l[j]? = some x) : l.drop j = x :: l.drop (j + 1) := by
  obtain ⟨hlt, e⟩ := List.getElem?_eq_some_iff.1 h
  rw [List.drop_eq_getElem_cons hlt, e]
theorem Tp.rd_tri3 {t a b d : List UInt8} {x y : Int} {z : Nat} (hs : Tp.sp 32 t = [a, b, d]) (h1 : Tp.wh a = some x) (h2 : Tp.wh b = some y) (h3 : Tp.ofb d = some z) : Tp.rd t = some (Tp.tri a b d) := by
  rw [Tp.rd_parts hs, h1, h2, h3]
  unfold Tp.tri
  rw [(Tp.wh_some h1).2.1, (Tp.wh_some h2).2.1, h3]
  rfl
set_option maxRecDepth 100000 in
set_option maxHeartbeats 6400000 in
theorem Tp.parse_short (s : List UInt8) (w : World) (hF : Tp.F w) (hl : ¬ 4000 < s.length) :
    Calls Tryd.prog 4 #[.string (mk s)] w fun e w' => e = .returned (.bool true) ∧ Below w.heap.size w w' := by
  have HP := hid (Tp.parse_any s w hF)
  have hs : ¬ (4000 : Int) < (mk s).size := by show ¬ (4000 : Int) < s.length; omega
  have HF := hid hF
  have HL := hid hl
  have HS0 := hid (fun (w1 : World) (h1 : Tp.F w1) => Tp.split_any 10 s (by omega) w1 h1)
  have hls := Tp.sp_len 10 s
  have hlm := Tp.sp_mem 10 s
  have hl0 : 0 < (Tp.sp 10 s).length := by cases h : Tp.sp 10 s with | nil => exact absurd h (Tp.sp_ne _ _) | cons _ _ => simp
  have HLS := hid hls
  have HLM := hid hlm
  have HL0 := hid hl0
  clear hF hl hls hlm hl0
  go_enter Tryd.func4, Tryd.ntmps4
  go_wp2_with (first
    | (go_at_call 15; refine HP.out.mono ?_; rintro e w1 ⟨pv, rfl, hv, _, hb1⟩; obtain ⟨pa, pc, rfl⟩ := Tp.row_len hv; have HV1 := hid (Tp.own_in hv); have HB1 := hid hb1; clear hv hb1)
    | (go_at_call 10; refine (Tp.taped _ (HF.out.kept HB1.out)).mono ?_; rintro e w2 ⟨rfl, hb2⟩; have HV2 := hid (HV1.out.kept hb2); have hz12 := hb2.size; have HB2 := hid (stp HB1.out hb2); clear hb2)
    | (go_at_call 19; refine (HS0.out _ (HF.out.kept HB2.out)).mono ?_; rintro e W0 ⟨rfl, hst, hgz, hb3⟩; have HB0 := hid (stp HB2.out hb3); have HST := hid hst; have HGZ := hid hgz; have HV0 := hid (HV2.out.kept (hb3.mono hz12)); clear hst hgz hb3))
  have HZ12 : Hid (w1.heap.size ≤ W0.heap.size) := hid (Nat.le_trans hz12 (Nat.le_of_lt (Nat.lt_of_le_of_lt (Nat.le_refl _) HGZ.out)))
  clear hz12
  go_loopw [7, 50] (fun v i wr => ∃ (j : Nat) (acc : List Tp.In), j < (Tp.sp 10 s).length ∧ i = .int .i64 j ∧ Tp.Qw s W0 j acc v wr) (fun _ i _ => (Tp.sp 10 s).length - (intOf i).toNat)
  case atStart => exact ⟨0, [], HL0.out, rfl, st0 _, ⟨rfl, Or.inl ⟨rfl, rfl⟩⟩, by rw [List.drop_zero]; cases Tp.rdA (Tp.sp 10 s) 0 <;> rfl, rfl⟩
  case round =>
    obtain ⟨j, acc, hj, rfl, hq⟩ := hrel
    have HQ := hid hq
    obtain ⟨t, ht⟩ : ∃ t, (Tp.sp 10 s)[j]? = some t := ⟨_, List.getElem?_eq_getElem hj⟩
    have htl : t.length ≤ 4000 := by have h1 := (HLM.out t (List.mem_of_getElem? ht)).2; have h2 := HL.out; omega
    have hst := HST.out.kept HGZ.out hq.low
    have x0 := hst j t ht
    have xz : w2.heap.size < wr.heap.size := Nat.lt_of_lt_of_le HGZ.out hq.low.size
    have HFr := hid (HF.out.kept (stp HB0.out hq.low))
    have HSP := hid (fun (w1 : World) (h1 : Tp.F w1) => Tp.split_any 32 t (by omega) w1 h1)
    have hmem := Tp.sp_mem 32 t
    have hdr := Tp.drop_c ht
    have hn1 : ((Tp.sp 10 s).length : Int) ≤ 4001 := by have h1 := HLS.out; have h2 := HL.out; omega
    have hjl : (j : Int) < (Tp.sp 10 s).length := by omega
    have hj0 : (0 : Int) ≤ j := by omega
    obtain ⟨va, vc, rfl⟩ := Tp.row_len hq.row
    have hjj : ((j : Int) == (j : Int)) = true := by simp
    clear hst
    by_cases hlast : j + 1 = (Tp.sp 10 s).length
    · have hbl : ((j : Int) == ((Tp.sp 10 s).length : Int) - 1) = true := by rw [beq_iff_eq]; omega
      have hd1 : (Tp.sp 10 s).drop j = [t] := by rw [hdr, List.drop_of_length_le (by omega)]
      by_cases ht0 : t = []
      · subst ht0
        have hem : (mk ([] : List UInt8)).toList.isEmpty = true := by rw [Tp.mk_empty]; rfl
        have hok : Tp.rdA (Tp.sp 10 s) 0 = .ok acc := by rw [hq.eq, hd1]; simp [Tp.rdA, Tp.aft]
        obtain ⟨e1, e2, e3⟩ := Tp.prs_ok HL.out hok
        have HRC := hid (Tp.rcheck acc (.slice va acc.length vc) wr.heap.size 0 wr (Tp.own_in hq.row) (Nat.le_refl _))
        have HV := hid (HV0.out.kept (hq.low.mono HZ12.out))
        clear hq ht hmem hdr hlast hd1 hok HSP
        by_cases hc : Tp.chkIn acc 0 = 0
        · have HC := hid hc
          rw [hc] at HRC e3
          rw [if_pos hc] at e1
          rw [e1] at HV
          rw [e1, e2, e3]
          clear e1 e2 e3 hc
          generalize hNN : (Tp.sp 10 s).length = NN at *
          go_wp2_with (first
            | (go_at_call 13; refine HRC.out.mono ?_; rintro e w6 ⟨rfl, hb6⟩; have HQ6 := hid (HQ.out.kept hb6); have HV6 := hid (HV.out.rw.kept hb6); clear hb6)
            | (go_at_call 20; refine (Tp.sameIn _ _ acc _ HV6.out (Tp.own_in HQ6.out.row).rw (by have := Tp.chk_40 HC.out; omega)).mono ?_; rintro e w7 ⟨rfl, hb7⟩; have HB7 := hid (stp (stp HB0.out HQ6.out.low) hb7); clear hb7))
          go_ret
          exact ⟨rfl, HB7.out⟩
        · have HC := hid hc
          rw [if_neg hc] at e1
          rw [e1, e2, e3]
          have hne : (Tp.chkIn acc 0 != 0) = true := by simpa using hc
          clear e1 e2 e3 hc HV
          generalize Tp.chkIn acc 0 = ce at *
          have hee : (ce == ce) = true := by simp
          generalize hNN : (Tp.sp 10 s).length = NN at *
          go_wp2_with (go_at_call 13; refine HRC.out.mono ?_; rintro e w6 ⟨rfl, hb6⟩; have HQ6 := hid (HQ.out.kept hb6); clear hb6)
          go_ret
          exact ⟨rfl, stp HB0.out HQ6.out.low⟩
      · have hem : (mk t).toList.isEmpty = false := by rw [Tp.mk_empty]; cases t with | nil => exact absurd rfl ht0 | cons _ _ => rfl
        have her : Tp.rdA (Tp.sp 10 s) 0 = .error j := by rw [hq.eq, hd1, Tp.rdA, if_neg ht0]; rfl
        obtain ⟨e1, e2, e3⟩ := Tp.prs_err HL.out her
        rw [e1, e2, e3]
        clear e1 e2 e3 hq ht hmem hdr hlast hd1 her ht0
        generalize hNN : (Tp.sp 10 s).length = NN at *
        generalize hMM : (Tp.sp 32 t).length = MM at *
        by_cases hm3 : MM = 3
        · have hmb : ((MM : Int) != 3) = false := by rw [hm3]; rfl
          clear hm3
          go_wp2_with (go_at_call 19; refine (HSP.out _ HFr.out).mono ?_; rintro e w5 ⟨rfl, hst5, hz5, hb5⟩; have HQ5 := hid (HQ.out.kept hb5); clear hst5 hz5 hb5)
          go_ret
          exact ⟨rfl, stp HB0.out HQ5.out.low⟩
        · have hmb : ((MM : Int) != 3) = true := by rw [bne_iff_ne]; omega
          clear hm3
          go_wp2_with (go_at_call 19; refine (HSP.out _ HFr.out).mono ?_; rintro e w5 ⟨rfl, hst5, hz5, hb5⟩; have HQ5 := hid (HQ.out.kept hb5); clear hst5 hz5 hb5)
          go_ret
          exact ⟨rfl, stp HB0.out HQ5.out.low⟩
    · have hbl : ((j : Int) == ((Tp.sp 10 s).length : Int) - 1) = false := by rw [beq_eq_false_iff_ne]; omega
      obtain ⟨u, hu⟩ : ∃ u, (Tp.sp 10 s)[j + 1]? = some u := ⟨_, List.getElem?_eq_getElem (by omega)⟩
      have hd2 : (Tp.sp 10 s).drop j = t :: u :: (Tp.sp 10 s).drop (j + 1 + 1) := by rw [hdr, Tp.drop_c hu]
      have hno : Hid (Tp.rd t = none → Tp.prsL s = [] ∧ Tp.prsN s = j ∧ Tp.prsE s = 1) := fun hr => Tp.prs_err HL.out (by rw [hq.eq, hd2, Tp.rdA_no hr]; rfl)
      have hyes : Hid (∀ x, Tp.rd t = some x → Tp.rdA (Tp.sp 10 s) 0 = Tp.aft (acc ++ [x]) (Tp.rdA ((Tp.sp 10 s).drop (j + 1)) (j + 1))) := fun x hr => by
        rw [hq.eq, hd2, Tp.rdA_yes hr, Tp.aft_aft, ← Tp.drop_c hu]
      have hjn : Hid (j + 1 < (Tp.sp 10 s).length) := hid (by omega)
      by_cases h3 : (Tp.sp 32 t).length = 3
      · obtain ⟨a, b, d, hs3⟩ : ∃ a b d, Tp.sp 32 t = [a, b, d] := by
          match h : Tp.sp 32 t, h3 with
          | [a, b, d], _ => exact ⟨a, b, d, rfl⟩
        have ha : a.length ≤ 4000 := Nat.le_trans (hmem a (by rw [hs3]; simp)).2 htl
        have hb : b.length ≤ 4000 := Nat.le_trans (hmem b (by rw [hs3]; simp)).2 htl
        rw [hs3] at HSP
        have HS3 := hid hs3
        have HWA := hid (fun (w1 : World) (h1 : Tp.F w1) => Tp.whole_any a (by omega) w1 h1)
        have HWB := hid (fun (w1 : World) (h1 : Tp.F w1) => Tp.whole_any b (by omega) w1 h1)
        have HOB := hid (fun (w1 : World) => Tp.refOfButtons d w1)
        cases hwa : Tp.wh a with
        | none =>
          obtain ⟨e1, e2, e3⟩ := hno.out (by rw [Tp.rd_parts HS3.out, hwa])
          rw [hwa] at HWA
          rw [e1, e2, e3]
          clear e1 e2 e3 hq ht hmem hdr hlast hu hd2 hno hyes hs3 h3 hwa
          generalize hba : (Tp.wh b).isSome = ba at *
          generalize hbd : (Tp.ofb d).isSome = bd at *
          generalize hNN : (Tp.sp 10 s).length = NN at *
          go_wp2_with (first
            | (go_at_call 19; refine (HSP.out _ HFr.out).mono ?_; rintro e w5 ⟨rfl, hst5, hz5, hb5⟩; have HQ5 := hid (HQ.out.kept hb5); have HF5 := hid (HFr.out.kept hb5); have HS5 := hid hst5; have y5 := hst5 0 a rfl; have z5 := hz5; clear hst5 hz5 hb5)
            | (go_at_call 16; have hq6 := HF6.out; clear hq6; refine (HWB.out _ HF6.out).mono ?_; rintro e w7 ⟨rfl, hb7⟩; have HQ7 := hid (HQ6.out.kept hb7); have z7 : wr.heap.size < w7.heap.size := Nat.lt_of_lt_of_le z6 hb7.size; have y7 := (HS6.out.kept z6 hb7) 2 d rfl; clear hb7)
            | (go_at_call 16; refine (HWA.out _ HF5.out).mono ?_; rintro e w6 ⟨rfl, hb6⟩; have HQ6 := hid (HQ5.out.kept hb6); have HF6 := hid (HF5.out.kept hb6); have HS6 := hid (HS5.out.kept z5 hb6); have z6 : wr.heap.size < w6.heap.size := Nat.lt_of_lt_of_le z5 hb6.size; have y6 := HS6.out 1 b rfl; clear hb6)
            | (go_at_call 9; refine (HOB.out _).mono ?_; rintro e w8 ⟨rfl, hb8⟩; have HQ8 := hid (HQ7.out.kept hb8); clear hb8))
          go_ret
          exact ⟨rfl, stp HB0.out HQ8.out.low⟩
        | some xa =>
          cases hwb : Tp.wh b with
          | none =>
            obtain ⟨e1, e2, e3⟩ := hno.out (by rw [Tp.rd_parts HS3.out, hwa, hwb])
            rw [hwa] at HWA
            rw [hwb] at HWB
            rw [e1, e2, e3]
            clear e1 e2 e3 hq ht hmem hdr hlast hu hd2 hno hyes hs3 h3 hwa hwb
            generalize hbd : (Tp.ofb d).isSome = bd at *
            generalize hNN : (Tp.sp 10 s).length = NN at *
            go_wp2_with (first
              | (go_at_call 19; refine (HSP.out _ HFr.out).mono ?_; rintro e w5 ⟨rfl, hst5, hz5, hb5⟩; have HQ5 := hid (HQ.out.kept hb5); have HF5 := hid (HFr.out.kept hb5); have HS5 := hid hst5; have y5 := hst5 0 a rfl; have z5 := hz5; clear hst5 hz5 hb5)
              | (go_at_call 16; have hq6 := HF6.out; clear hq6; refine (HWB.out _ HF6.out).mono ?_; rintro e w7 ⟨rfl, hb7⟩; have HQ7 := hid (HQ6.out.kept hb7); have z7 : wr.heap.size < w7.heap.size := Nat.lt_of_lt_of_le z6 hb7.size; have y7 := (HS6.out.kept z6 hb7) 2 d rfl; clear hb7)
              | (go_at_call 16; refine (HWA.out _ HF5.out).mono ?_; rintro e w6 ⟨rfl, hb6⟩; have HQ6 := hid (HQ5.out.kept hb6); have HF6 := hid (HF5.out.kept hb6); have HS6 := hid (HS5.out.kept z5 hb6); have z6 : wr.heap.size < w6.heap.size := Nat.lt_of_lt_of_le z5 hb6.size; have y6 := HS6.out 1 b rfl; clear hb6)
              | (go_at_call 9; refine (HOB.out _).mono ?_; rintro e w8 ⟨rfl, hb8⟩; have HQ8 := hid (HQ7.out.kept hb8); clear hb8))
            go_ret
            exact ⟨rfl, stp HB0.out HQ8.out.low⟩
          | some xb =>
            cases hod : Tp.ofb d with
            | none =>
              obtain ⟨e1, e2, e3⟩ := hno.out (by rw [Tp.rd_parts HS3.out, hwa, hwb, hod])
              rw [hwa] at HWA
              rw [hwb] at HWB
              rw [hod] at HOB
              rw [e1, e2, e3]
              clear e1 e2 e3 hq ht hmem hdr hlast hu hd2 hno hyes hs3 h3 hwa hwb hod
              generalize hNN : (Tp.sp 10 s).length = NN at *
              go_wp2_with (first
                | (go_at_call 19; refine (HSP.out _ HFr.out).mono ?_; rintro e w5 ⟨rfl, hst5, hz5, hb5⟩; have HQ5 := hid (HQ.out.kept hb5); have HF5 := hid (HFr.out.kept hb5); have HS5 := hid hst5; have y5 := hst5 0 a rfl; have z5 := hz5; clear hst5 hz5 hb5)
                | (go_at_call 16; have hq6 := HF6.out; clear hq6; refine (HWB.out _ HF6.out).mono ?_; rintro e w7 ⟨rfl, hb7⟩; have HQ7 := hid (HQ6.out.kept hb7); have z7 : wr.heap.size < w7.heap.size := Nat.lt_of_lt_of_le z6 hb7.size; have y7 := (HS6.out.kept z6 hb7) 2 d rfl; clear hb7)
                | (go_at_call 16; refine (HWA.out _ HF5.out).mono ?_; rintro e w6 ⟨rfl, hb6⟩; have HQ6 := hid (HQ5.out.kept hb6); have HF6 := hid (HF5.out.kept hb6); have HS6 := hid (HS5.out.kept z5 hb6); have z6 : wr.heap.size < w6.heap.size := Nat.lt_of_lt_of_le z5 hb6.size; have y6 := HS6.out 1 b rfl; clear hb6)
                | (go_at_call 9; refine (HOB.out _).mono ?_; rintro e w8 ⟨rfl, hb8⟩; have HQ8 := hid (HQ7.out.kept hb8); clear hb8))
              go_ret
              exact ⟨rfl, stp HB0.out HQ8.out.low⟩
            | some xd =>
              have HY := hid (hyes.out _ (Tp.rd_tri3 HS3.out hwa hwb hod))
              rw [hwa] at HWA
              rw [hwb] at HWB
              rw [hod] at HOB
              have rb := Tp.run_bin (Tp.atv a) (Tp.atv b) (Tp.ofbN d)
              clear hq ht hmem hdr hlast hu hd2 hno hyes hs3 h3 hwa hwb hod
              have hw1 : wrap64 ((j : Int) + 1) = (j : Int) + 1 := by unfold wrap64; omega
              generalize hNN : (Tp.sp 10 s).length = NN at *
              go_wp2_with (first
                | (go_at_call 19; refine (HSP.out _ HFr.out).mono ?_; rintro e w5 ⟨rfl, hst5, hz5, hb5⟩; have HQ5 := hid (HQ.out.kept hb5); have HF5 := hid (HFr.out.kept hb5); have HS5 := hid hst5; have y5 := hst5 0 a rfl; have z5 := hz5; clear hst5 hz5 hb5)
                | (go_at_call 16; have hq6 := HF6.out; clear hq6; refine (HWB.out _ HF6.out).mono ?_; rintro e w7 ⟨rfl, hb7⟩; have HQ7 := hid (HQ6.out.kept hb7); have z7 : wr.heap.size < w7.heap.size := Nat.lt_of_lt_of_le z6 hb7.size; have y7 := (HS6.out.kept z6 hb7) 2 d rfl; clear hb7)
                | (go_at_call 16; refine (HWA.out _ HF5.out).mono ?_; rintro e w6 ⟨rfl, hb6⟩; have HQ6 := hid (HQ5.out.kept hb6); have HF6 := hid (HF5.out.kept hb6); have HS6 := hid (HS5.out.kept z5 hb6); have z6 : wr.heap.size < w6.heap.size := Nat.lt_of_lt_of_le z5 hb6.size; have y6 := HS6.out 1 b rfl; clear hb6)
                | (go_at_call 9; refine (HOB.out _).mono ?_; rintro e w8 ⟨rfl, hb8⟩; have HQ8 := hid (HQ7.out.kept hb8); clear hb8)
                | (at_builtin; have HQ9 := hid (HQ8.out.kept (stA (st0 w8) (.cells #[.int .i64 (Tp.atv a), .int .i64 (Tp.atv b), .int .u8 (Tp.ofbN d)] 34))); refine Tp.appOne (v := .slice va acc.length vc) Tryd.underlying22 Tp.info_in3 rfl (by omega) (by rfl) _ _ (by rfl) (by rfl) HQ9.out.row w8.heap.size 1 (by rfl) (ys := Tp.ics [Tp.tri a b d]) rfl (Tp.in_cells w8 (Tp.tri a b d) _ rfl) (Tp.in_one _) (by have h1 := HQ.out.len; have h2 := HLS.out; have h3 := HL.out; omega) (by have h1 := HQ.out.len; have h2 := HLS.out; have h3 := HL.out; omega) HQ9.out.low.size ?_; intro v' w' hown' hb'))
              refine ⟨⟨j + 1, acc ++ [Tp.tri a b d], hjn.out, by simp, HQ9.out.low.trans hb', ?_, HY.out, by rw [List.length_append, HQ.out.len]; rfl⟩, by simp [intOf]; omega⟩
              rw [List.length_append, Tp.ics_app]
              exact hown'
      · obtain ⟨e1, e2, e3⟩ := hno.out (Tp.rd_other h3)
        rw [e1, e2, e3]
        have hmb : (((Tp.sp 32 t).length : Int) != 3) = true := by rw [bne_iff_ne]; omega
        clear e1 e2 e3 hq ht hmem hdr hlast hu hd2 hno hyes h3
        generalize hNN : (Tp.sp 10 s).length = NN at *
        generalize hMM : (Tp.sp 32 t).length = MM at *
        go_wp2_with (go_at_call 19; refine (HSP.out _ HFr.out).mono ?_; rintro e w5 ⟨rfl, hst5, hz5, hb5⟩; have HQ5 := hid (HQ.out.kept hb5); clear hst5 hz5 hb5)
        go_ret
        exact ⟨rfl, stp HB0.out HQ5.out.low⟩
theorem Tp.parse_law (s : List UInt8) (w : World) (hF : Tp.F w) : Calls Tryd.prog 4 #[.string (mk s)] w fun e w' => e = .returned (.bool true) ∧ Below w.heap.size w w' := by
  by_cases h : 4000 < s.length
  · exact Tp.parse_long s w hF h
  · exact Tp.parse_short s w hF h
end Go.Proofs.YtbfflipcmciapaaDoor
