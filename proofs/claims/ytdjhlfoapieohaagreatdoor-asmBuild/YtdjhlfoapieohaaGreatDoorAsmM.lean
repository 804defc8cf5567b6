/-
  What package asm's reader does with a line, where nothing is wrong.
-/
import Derived.Test.YtdjhlfoapieohaaGreatDoorAsmL
namespace Go.Proofs.YtdjhlfoapieohaaGreatDoor
open Go.ChangeShapes Go.WideShapes Go.ChangeAt Go.RowKit
set_option linter.unusedVariables false

theorem cut_any (l sep : S.By) (hl : l.length ≤ 10000) (w : World) (hF : AF w) :
    Calls Tryz.prog 51 #[.string (mk l), .string (mk sep)] w fun e w' => e = .returned (.tuple #[.string (mk (Lib.cut l sep).1), .string (mk (Lib.cut l sep).2.1), .bool (Lib.cut l sep).2.2]) ∧ Below w.heap.size w w' := by
  obtain ⟨m, hm⟩ := hF.len
  refine (Tryz.strings_Cut (mk l) (mk sep) m w (by rw [mk_size]; omega) hm).mono fun e w' ⟨he, n, hw⟩ => ⟨he, ?_⟩
  subst hw
  exact st_drewN (st0 w) n
theorem cutSuffix_any (l sep : S.By) (hl : l.length ≤ 10000) (w : World) :
    Calls Tryz.prog 77 #[.string (mk l), .string (mk sep)] w fun e w' => e = .returned (.tuple #[.string (mk (Lib.trimSuffix l sep)), .bool (Lib.hasSuffix l sep)]) ∧ w = w' :=
  (Tryz.strings_CutSuffix (mk l) (mk sep) w (by rw [mk_size]; omega)).mono fun e w' hh => ⟨hh.1, hh.2.symm⟩
theorem cut1_len (l sep : S.By) : (Lib.cut l sep).1.length ≤ l.length ∧ (Lib.cut l sep).2.1.length ≤ l.length := by
  unfold Lib.cut
  split
  · simp; omega
  · simp
theorem splitK_len (sep : S.By) : ∀ (k : Nat) (s : S.By), ∀ p ∈ Lib.splitK sep 0 k s, p.length ≤ s.length
  | 0, s, p, h => by simp [Lib.splitK] at h; subst h; exact Nat.le_refl _
  | k + 1, s, p, h => by
    unfold Lib.splitK at h
    split at h
    · simp at h; subst h; exact Nat.le_refl _
    · rcases List.mem_cons.1 h with h | h
      · subst h; simp; omega
      · have := splitK_len sep k _ p h
        simp at this; omega
theorem splitK_pos (sep : S.By) (k : Nat) (s : S.By) : 0 < (Lib.splitK sep 0 k s).length := by
  cases k with
  | zero => simp [Lib.splitK]
  | succ k => unfold Lib.splitK; split <;> simp
theorem split_strs (rest : S.By) (hl : rest.length ≤ 10000) (w : World) (hF : AF w) :
    Calls Tryz.prog 12 #[.string (mk rest), .string ⟨#[44, 32]⟩] w fun e w' => e = .returned (.slice (some ⟨w.heap.size, 0, none⟩) (Lib.split rest S.comma).length (Lib.split rest S.comma).length) ∧ strsAt w' w.heap.size (Lib.split rest S.comma) ∧ w.heap.size < w'.heap.size ∧ Below w.heap.size w w' := by
  obtain ⟨m, hm⟩ := hF.len
  have hd := Lib.splitB_data (mk S.comma) 0 (Lib.countB (mk rest) (mk S.comma)) (mk rest)
  have hc : Lib.countB (mk rest) (mk S.comma) = Lib.count rest S.comma := rfl
  have hlen := Lib.splitB_all (mk S.comma) (by decide) 0 _ (mk rest) rfl
  have hsp : (Lib.splitB (mk S.comma) 0 (Lib.countB (mk rest) (mk S.comma)) (mk rest)).map bs = Lib.split rest S.comma := hd
  have hl2 : (Lib.split rest S.comma).length = Lib.countB (mk rest) (mk S.comma) + 1 := by rw [← hsp, List.length_map, hlen]
  refine (Tryz.strings_Split (mk rest) (mk S.comma) m w (by rw [mk_size]; omega) hm (by decide)).mono fun e w' ⟨he, hw⟩ => ?_
  subst hw
  refine ⟨by rw [he, hl2], fun j s hj => ?_, by simp, stA (st0 _) _⟩
  rw [cell_new _ _ _ _ rfl, List.getElem?_toArray, List.getElem?_map]
  rw [← hsp, List.getElem?_map] at hj
  cases hx : (Lib.splitB (mk S.comma) 0 (Lib.countB (mk rest) (mk S.comma)) (mk rest))[j]? with
  | none => rw [hx] at hj; cases hj
  | some x =>
    rw [hx] at hj
    cases hj
    simp [mk_bs]
theorem mk_toList (l : S.By) : (mk l).toList = l := by rw [Lib.toList_data]; rfl
/-- What a line leaves. -/
def LineOK (w : World) (B b mo mp : Nat) (st' : S.St) (ln : Nat) (e : Ending) (w' : World) : Prop := e = .returned (.tuple #[]) ∧ (∃ ua' uc' ra' rc', Rd w' B b mo mp ua' uc' ra' rc' st' ln) ∧ Below B w w'
/-- An order's line, its parts in a block of their own. -/
theorem readOrder_ps (w : World) (B b mo mp : Nat) (ua ra : Option Addr) (uc rc : Nat) (st st' : S.St) (ln : Nat) (hR : Rd w B b mo mp ua uc ra rc st ln) (called : S.By) (ps : List S.By) (hps : ∀ s ∈ ps, s.length ≤ 4000) (hS : S.readOrder called ps ln st = .ok st') (hp0 : 0 < ps.length) (gp : Nat) (hgp : gp < w.heap.size) (hsp : strsAt w gp ps) (hBw : B ≤ w.heap.size) (hul0 : st.uses.length + 1 ≤ 1000000) (hF : AF w) :
    Calls Tryz.prog 80 #[.pointer (some ⟨b, 0, none⟩), .string (mk called), .slice (some ⟨gp, 0, none⟩) ps.length ps.length] w (LineOK w B b mo mp st' ln) := by
  obtain ⟨k, o, nm, h1, h2, h3, h4, h5, h6, h7⟩ := order_inv hS
  have := readOrder_n w B b mo mp ua ra uc rc st st' ln hR called k h1 h2 h3 (by omega) o nm ps h4 hps h5 h6 h7 gp ps.length (by omega) hgp hsp hBw hul0 hF
  rw [← h4] at this
  exact this
theorem readOrder_nil (w : World) (B b mo mp : Nat) (ua ra : Option Addr) (uc rc : Nat) (st st' : S.St) (ln : Nat) (hR : Rd w B b mo mp ua uc ra rc st ln) (called : S.By) (hS : S.readOrder called [] ln st = .ok st') (hBw : B ≤ w.heap.size) (hul0 : st.uses.length + 1 ≤ 1000000) (hF : AF w) :
    Calls Tryz.prog 80 #[.pointer (some ⟨b, 0, none⟩), .string (mk called), .slice none 0 0] w (LineOK w B b mo mp st' ln) := by
  obtain ⟨k, o, nm, h1, h2, h3, h4, h5, h6, h7⟩ := order_inv hS
  have hp : S.parts k = [] := List.length_eq_zero_iff.1 (by simpa using h4.symm)
  rw [hp] at h5
  have e : (S.Ord.zero, ([] : S.By)) = (o, nm) := Option.some.inj h5
  cases e
  exact readOrder_0 w B b mo mp ua ra uc rc st st' ln hR called k h1 h2 h3 hp [] h7 h6 none 0 hBw hul0 hF
theorem readWord_ps (w : World) (B b mo mp : Nat) (ua ra : Option Addr) (uc rc : Nat) (st st' : S.St) (ln : Nat) (hR : Rd w B b mo mp ua uc ra rc st ln) (ps : List S.By) (hps : ∀ s ∈ ps, s.length ≤ 4000) (hS : S.readWord ps ln st = .ok st') (gp : Nat) (hgp : gp < w.heap.size) (hsp : strsAt w gp ps) (hBw : B ≤ w.heap.size) (hul0 : st.uses.length + 1 ≤ 1000000) (hF : AF w) :
    Calls Tryz.prog 79 #[.pointer (some ⟨b, 0, none⟩), .slice (some ⟨gp, 0, none⟩) ps.length ps.length] w (LineOK w B b mo mp st' ln) := by
  match ps, hps, hS, hsp with
  | [p], hps, hS, hsp => exact readWord_ok w B b mo mp ua ra uc rc st st' ln hR gp 1 p (hps p (by simp)) (hsp 0 p rfl) hgp (by omega) hS hBw hul0 hF
  | [], _, hS, _ => cases hS
  | _ :: _ :: _, _, hS, _ => cases hS
set_option maxRecDepth 100000 in
set_option maxHeartbeats 1600000 in
theorem readLine_place (w : World) (B b mo mp : Nat) (ua ra : Option Addr) (uc rc : Nat) (st st' : S.St) (ln : Nat) (hR : Rd w B b mo mp ua uc ra rc st ln) (l : S.By) (hl : l.length ≤ 4000) (hc : Lib.hasSuffix l [58] = true) (hS : S.readPlace (Lib.trimSuffix l [58]) st = .ok st') (hBw : B ≤ w.heap.size) :
    Calls Tryz.prog 53 #[.pointer (some ⟨b, 0, none⟩), .string (mk l)] w (LineOK w B b mo mp st' ln) := by
  have HC := hid (cutSuffix_any l [58] (by omega) w)
  rw [hc] at HC
  have HP := hid (readPlace_ok w B b mo mp ua ra uc rc st st' ln hR _ hS hBw)
  clear hR hS hc
  go_enter Tryz.func53, Tryz.ntmps53
  go_wp2_with (first
    | (go_at_call 77; refine HC.out.mono ?_; rintro e w' ⟨rfl, rfl⟩)
    | (go_at_call 78; refine HP.out.mono ?_; rintro e w1 ⟨rfl, hR1, hb1⟩))
  first | go_end0 | refine bodyPost_ret (results_none rfl _ _ _) rfl ?_
  exact ⟨rfl, hR1, hb1⟩
set_option maxRecDepth 100000 in
set_option maxHeartbeats 1600000 in
theorem readLine_word (w : World) (B b mo mp : Nat) (ua ra : Option Addr) (uc rc : Nat) (st st' : S.St) (ln : Nat) (hR : Rd w B b mo mp ua uc ra rc st ln) (l : S.By) (hl : l.length ≤ 4000) (hc : Lib.hasSuffix l [58] = false) (hw : (Lib.cut l [32]).1 = S.plain) (hr : (Lib.cut l [32]).2.1 ≠ [])
    (hS : S.readWord (Lib.split (Lib.cut l [32]).2.1 S.comma) ln st = .ok st') (hBw : B ≤ w.heap.size) (hul0 : st.uses.length + 1 ≤ 1000000) (hF : AF w) :
    Calls Tryz.prog 53 #[.pointer (some ⟨b, 0, none⟩), .string (mk l)] w (LineOK w B b mo mp st' ln) := by
  have HC := hid (cutSuffix_any l [58] (by omega) w)
  rw [hc] at HC
  have HK := hid (cut_any l [32] (by omega) w hF)
  have hlen := (cut1_len l [32]).2
  have HSP : Hid (∀ w1, AF w1 → _) := fun w1 hF1 => split_strs (Lib.cut l [32]).2.1 (by omega) w1 hF1
  have he : (mk (Lib.cut l [32]).2.1).toList.isEmpty = false := by rw [mk_empty]; cases h : (Lib.cut l [32]).2.1 <;> simp_all
  rw [hw] at HK
  have hps : ∀ s ∈ Lib.split (Lib.cut l [32]).2.1 S.comma, s.length ≤ 4000 := fun s hs => by have := splitK_len _ _ _ s hs; omega
  have HR := hid hR
  have HF := hid hF
  have HS := hid hS
  have HPS := hid hps
  generalize hrest : (Lib.cut l [32]).2.1 = rest at *
  clear hR hS hc hF hw hps hrest hr
  have hq : ((mk S.plain).toList == [46, 119, 111, 114, 100]) = true := by rw [mk_toList]; rfl
  go_enter Tryz.func53, Tryz.ntmps53
  go_wp2_with (first
    | (go_at_call 77; refine HC.out.mono ?_; rintro e w' ⟨rfl, rfl⟩)
    | (go_at_call 51; refine HK.out.mono ?_; rintro e w1 ⟨rfl, hb1⟩)
    | (go_at_call 12; refine (HSP.out _ (HF.out.kept hb1)).mono ?_; rintro e w2 ⟨rfl, hst2, hz2, hb2⟩)
    | (go_at_call 79; refine (readWord_ps w2 B b mo mp ua ra uc rc st st' ln (HR.out.kept (stp hb1 hb2)) _ HPS.out HS.out w1.heap.size hz2 hst2 (Nat.le_trans hBw (stp hb1 hb2).size) hul0 (HF.out.kept (stp hb1 hb2))).mono ?_; rintro e w3 ⟨rfl, hR3, hb3⟩))
  first | go_end0 | refine bodyPost_ret (results_none rfl _ _ _) rfl ?_
  exact ⟨rfl, hR3, (bB hBw (stp hb1 hb2)).trans hb3⟩
set_option maxRecDepth 100000 in
set_option maxHeartbeats 1600000 in
theorem readLine_order (w : World) (B b mo mp : Nat) (ua ra : Option Addr) (uc rc : Nat) (st st' : S.St) (ln : Nat) (hR : Rd w B b mo mp ua uc ra rc st ln) (l : S.By) (hl : l.length ≤ 4000) (hc : Lib.hasSuffix l [58] = false) (hw : (Lib.cut l [32]).1 ≠ S.plain) (hr : (Lib.cut l [32]).2.1 ≠ [])
    (hS : S.readOrder (Lib.cut l [32]).1 (Lib.split (Lib.cut l [32]).2.1 S.comma) ln st = .ok st') (hBw : B ≤ w.heap.size) (hul0 : st.uses.length + 1 ≤ 1000000) (hF : AF w) :
    Calls Tryz.prog 53 #[.pointer (some ⟨b, 0, none⟩), .string (mk l)] w (LineOK w B b mo mp st' ln) := by
  have HC := hid (cutSuffix_any l [58] (by omega) w)
  rw [hc] at HC
  have HK := hid (cut_any l [32] (by omega) w hF)
  have hlen := (cut1_len l [32]).2
  have HSP : Hid (∀ w1, AF w1 → _) := fun w1 hF1 => split_strs (Lib.cut l [32]).2.1 (by omega) w1 hF1
  have he : (mk (Lib.cut l [32]).2.1).toList.isEmpty = false := by rw [mk_empty]; cases h : (Lib.cut l [32]).2.1 <;> simp_all
  have hq : ((mk (Lib.cut l [32]).1).toList == [46, 119, 111, 114, 100]) = false := by rw [mk_toList]; simpa [S.plain] using hw
  have hps : ∀ s ∈ Lib.split (Lib.cut l [32]).2.1 S.comma, s.length ≤ 4000 := fun s hs => by have := splitK_len _ _ _ s hs; omega
  have HR := hid hR
  have HF := hid hF
  have HS := hid hS
  have HPS := hid hps
  generalize hrest : (Lib.cut l [32]).2.1 = rest at *
  generalize hfst : (Lib.cut l [32]).1 = called at *
  clear hR hS hc hF hw hps hrest hr hfst
  go_enter Tryz.func53, Tryz.ntmps53
  go_wp2_with (first
    | (go_at_call 77; refine HC.out.mono ?_; rintro e w' ⟨rfl, rfl⟩)
    | (go_at_call 51; refine HK.out.mono ?_; rintro e w1 ⟨rfl, hb1⟩)
    | (go_at_call 12; refine (HSP.out _ (HF.out.kept hb1)).mono ?_; rintro e w2 ⟨rfl, hst2, hz2, hb2⟩)
    | (go_at_call 80; refine (readOrder_ps w2 B b mo mp ua ra uc rc st st' ln (HR.out.kept (stp hb1 hb2)) called _ HPS.out HS.out (splitK_pos _ _ _) w1.heap.size hz2 hst2 (Nat.le_trans hBw (stp hb1 hb2).size) hul0 (HF.out.kept (stp hb1 hb2))).mono ?_; rintro e w3 ⟨rfl, hR3, hb3⟩))
  first | go_end0 | refine bodyPost_ret (results_none rfl _ _ _) rfl ?_
  exact ⟨rfl, hR3, (bB hBw (stp hb1 hb2)).trans hb3⟩
set_option maxRecDepth 100000 in
set_option maxHeartbeats 1600000 in
theorem readLine_bare (w : World) (B b mo mp : Nat) (ua ra : Option Addr) (uc rc : Nat) (st st' : S.St) (ln : Nat) (hR : Rd w B b mo mp ua uc ra rc st ln) (l : S.By) (hl : l.length ≤ 4000) (hc : Lib.hasSuffix l [58] = false) (hw : (Lib.cut l [32]).1 ≠ S.plain) (hr : (Lib.cut l [32]).2.1 = [])
    (hS : S.readOrder (Lib.cut l [32]).1 [] ln st = .ok st') (hBw : B ≤ w.heap.size) (hul0 : st.uses.length + 1 ≤ 1000000) (hF : AF w) :
    Calls Tryz.prog 53 #[.pointer (some ⟨b, 0, none⟩), .string (mk l)] w (LineOK w B b mo mp st' ln) := by
  have HC := hid (cutSuffix_any l [58] (by omega) w)
  rw [hc] at HC
  have HK := hid (cut_any l [32] (by omega) w hF)
  have he : (mk (Lib.cut l [32]).2.1).toList.isEmpty = true := by rw [mk_empty, hr]; rfl
  have hq : ((mk (Lib.cut l [32]).1).toList == [46, 119, 111, 114, 100]) = false := by rw [mk_toList]; simpa [S.plain] using hw
  have HR := hid hR
  have HF := hid hF
  have HS := hid hS
  generalize hrest : (Lib.cut l [32]).2.1 = rest at *
  generalize hfst : (Lib.cut l [32]).1 = called at *
  clear hR hS hc hF hw hrest hr hfst
  go_enter Tryz.func53, Tryz.ntmps53
  go_wp2_with (first
    | (go_at_call 77; refine HC.out.mono ?_; rintro e w' ⟨rfl, rfl⟩)
    | (go_at_call 51; refine HK.out.mono ?_; rintro e w1 ⟨rfl, hb1⟩)
    | (go_at_call 80; refine (readOrder_nil w1 B b mo mp ua ra uc rc st st' ln (HR.out.kept hb1) called HS.out (Nat.le_trans hBw hb1.size) hul0 (HF.out.kept hb1)).mono ?_; rintro e w3 ⟨rfl, hR3, hb3⟩))
  first | go_end0 | refine bodyPost_ret (results_none rfl _ _ _) rfl ?_
  exact ⟨rfl, hR3, (bB hBw hb1).trans hb3⟩
theorem readLine_ok (w : World) (B b mo mp : Nat) (ua ra : Option Addr) (uc rc : Nat) (st st' : S.St) (ln : Nat) (hR : Rd w B b mo mp ua uc ra rc st ln) (l : S.By) (hl : l.length ≤ 4000) (hS : S.readLine l ln st = .ok st') (hBw : B ≤ w.heap.size) (hul0 : st.uses.length + 1 ≤ 1000000) (hF : AF w) :
    Calls Tryz.prog 53 #[.pointer (some ⟨b, 0, none⟩), .string (mk l)] w (LineOK w B b mo mp st' ln) := by
  unfold S.readLine at hS
  cases hc : Lib.hasSuffix l [58] with
  | true =>
    rw [hc, if_pos rfl] at hS
    exact readLine_place w B b mo mp ua ra uc rc st st' ln hR l hl hc hS hBw
  | false =>
    rw [hc, if_neg (by simp)] at hS
    by_cases hw : (Lib.cut l [32]).1 = S.plain
    · rw [if_pos hw] at hS
      by_cases hr : (Lib.cut l [32]).2.1 = []
      · unfold S.partsOf at hS
        rw [if_pos hr] at hS
        cases hS
      · unfold S.partsOf at hS
        rw [if_neg hr] at hS
        exact readLine_word w B b mo mp ua ra uc rc st st' ln hR l hl hc hw hr hS hBw hul0 hF
    · rw [if_neg hw] at hS
      by_cases hr : (Lib.cut l [32]).2.1 = []
      · unfold S.partsOf at hS
        rw [if_pos hr] at hS
        exact readLine_bare w B b mo mp ua ra uc rc st st' ln hR l hl hc hw hr hS hBw hul0 hF
      · unfold S.partsOf at hS
        rw [if_neg hr] at hS
        exact readLine_order w B b mo mp ua ra uc rc st st' ln hR l hl hc hw hr hS hBw hul0 hF
/-! ### how many uses a line leaves -/
theorem put_uses {ws : List Int} {nm : S.By} {ln : Nat} {st st' : S.St} (h : S.put ws nm ln st = .ok st') : st'.uses.length ≤ st.uses.length + 1 := by
  obtain ⟨_, rfl⟩ := put_spec h
  simp only
  split <;> simp
theorem line_uses {l : S.By} {ln : Nat} {st st' : S.St} (h : S.readLine l ln st = .ok st') : st'.uses.length ≤ st.uses.length + 1 := by
  unfold S.readLine at h
  split at h
  · obtain ⟨_, _, rfl⟩ := place_inv h; simp
  · split at h
    · match hp : S.partsOf (Lib.cut l [32]).2.1, h with
      | [p], h => obtain ⟨v, nm, _, _, _, hput⟩ := word_inv h; exact put_uses hput
      | [], h => cases h
      | _ :: _ :: _, h => cases h
    · obtain ⟨k, o, nm, _, _, _, _, _, _, hput⟩ := order_inv h
      exact put_uses hput
end Go.Proofs.YtdjhlfoapieohaaGreatDoor
