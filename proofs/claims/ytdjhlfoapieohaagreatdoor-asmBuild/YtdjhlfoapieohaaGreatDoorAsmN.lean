/-
  What package asm's reader does with a text, line by line, where nothing is wrong.
-/
import Derived.Test.YtdjhlfoapieohaaGreatDoorAsmM
namespace Go.Proofs.YtdjhlfoapieohaaGreatDoor
open Go.ChangeShapes Go.WideShapes Go.ChangeAt Go.RowKit
set_option linter.unusedVariables false

theorem lines_inv {f : Nat} {s : S.By} {ln : Nat} {st stF : S.St} (hs : s ≠ []) (h : S.readLines (f + 1) s ln st = .ok stF) : (Lib.cut s [10]).2.2 = true ∧ ∃ st', S.readLine (Lib.cut s [10]).1 ln st = .ok st' ∧ S.readLines f (Lib.cut s [10]).2.1 (ln + 1) st' = .ok stF := by
  unfold S.readLines at h
  rw [if_neg hs] at h
  split at h
  · rename_i hc
    split at h
    · rename_i st' hl
      exact ⟨hc, st', hl, h⟩
    · cases h
  · cases h
theorem cut_less (s : S.By) (hs : s ≠ []) (h : (Lib.cut s [10]).2.2 = true) : (Lib.cut s [10]).2.1.length < s.length := by
  have hp : s.length ≠ 0 := fun e => hs (List.length_eq_zero_iff.1 e)
  unfold Lib.cut at h ⊢
  split at h
  · rename_i hi
    rw [if_pos hi]
    simp; omega
  · cases h
set_option maxRecDepth 100000 in
set_option maxHeartbeats 1600000 in
theorem readLines_ok (w : World) (B b mo mp : Nat) (ua ra : Option Addr) (uc rc : Nat) (st stF : S.St) (hR : Rd w B b mo mp ua uc ra rc st 0) (hu0 : st.uses = []) (s : S.By) (hl : s.length ≤ 4000) (hS : S.readLines s.length s 0 st = .ok stF) (hBw : B ≤ w.heap.size) (hF : AF w) (hFB : Hid (∀ w', Below B w w' → AF w')) :
    Calls Tryz.prog 30 #[.pointer (some ⟨b, 0, none⟩), .string (mk s)] w fun e w' => e = .returned (.tuple #[]) ∧ (∃ lnF ua' uc' ra' rc', Rd w' B b mo mp ua' uc' ra' rc' stF lnF) ∧ Below B w w' := by
  have HR := hid hR
  have HS := hid hS
  have hBb := hR.hB
  clear hR hS hF
  go_enter Tryz.func30, Tryz.ntmps30
  go_wp2
  go_loopw [1] (fun r wr => ∃ (t : S.By) (f ln : Nat) (st' : S.St) (ua' : Option Addr) (uc' : Nat) (ra' : Option Addr) (rc' : Nat), r = .string (mk t) ∧ t.length ≤ f ∧ t.length + ln ≤ 4000 ∧ S.readLines f t ln st' = .ok stF ∧ st'.uses.length ≤ ln ∧ Rd wr B b mo mp ua' uc' ra' rc' st' ln ∧ Below B w wr) (fun r _ => match r with | .string x => x.size | _ => 0)
  case atStart => exact ⟨s, s.length, 0, st, ua, uc, ra, rc, rfl, Nat.le_refl _, by omega, HS.out, by rw [hu0]; exact Nat.le_refl _, HR.out, Below.refl _ _⟩
  case round =>
    obtain ⟨t, f, ln, st', ua', uc', ra', rc', rfl, htf, htl, hrd, hul, hR1, hbl⟩ := hrel
    have hszr := Nat.le_trans hBw hbl.size
    by_cases ht : t = []
    · subst ht
      rw [S.readLines_nil] at hrd
      cases hrd
      have he : (mk []).toList.isEmpty = true := mk_empty []
      go_wp2
      go_end0
      exact ⟨rfl, ⟨ln, ua', uc', ra', rc', hR1⟩, hbl⟩
    · have he : (mk t).toList.isEmpty = false := by rw [mk_empty]; cases t <;> simp_all
      have htp : t.length ≠ 0 := fun e => ht (List.length_eq_zero_iff.1 e)
      obtain ⟨f', rfl⟩ : ∃ f', f = f' + 1 := ⟨f - 1, by omega⟩
      obtain ⟨hcut, st2, hln, hnext⟩ := lines_inv ht hrd
      have hless := cut_less t ht hcut
      have hl1 := (cut1_len t [10]).1
      have hF1 := hFB.out wr hbl
      have HK := hid (cut_any t [10] (by omega) wr hF1)
      rw [hcut] at HK
      have HL : Hid (∀ w1, Below wr.heap.size wr w1 → _) := fun w1 (hb1 : Below wr.heap.size wr w1) => readLine_ok w1 B b mo mp ua' ra' uc' rc' st' st2 ln (hR1.kept hb1) (Lib.cut t [10]).1 (by omega) hln (Nat.le_trans hszr hb1.size) (by omega) (hF1.kept hb1)
      have hu2 := line_uses hln
      have HN := hid hnext
      clear hrd hcut hln hnext hF1
      go_wp2_with (first
        | (go_at_call 51; refine HK.out.mono ?_; rintro e w1 ⟨rfl, hb1⟩)
        | (go_at_call 53; refine (HL.out w1 hb1).mono ?_; rintro e w2 ⟨rfl, ⟨ua2, uc2, ra2, rc2, hR2⟩, hb2⟩; have c4 : w2.cell? ⟨b, 4, none⟩ = some (.int .i64 ln) := hR2.cell 4; have f4 := hR2.frozen 4; have z4 := hR2.lt))
      refine ⟨⟨(Lib.cut t [10]).2.1, f', ln + 1, st2, ua2, uc2, ra2, rc2, rfl, by omega, by omega, HN.out, by omega, hR2.put_line (ln + 1), ((hbl.trans (bB hszr hb1)).trans hb2).setCell hBb _⟩, ?_⟩
      show (Lib.cut t [10]).2.1.length < t.length
      exact hless
end Go.Proofs.YtdjhlfoapieohaaGreatDoor
