/-
  The Go text of the law TapeFrame returns true.
-/
import Derived.Test.YtbfflipcmciapaaDoorTapL
import Derived.Test.YtbfflipcmciapaaDoorTapT
namespace Go.Proofs.YtbfflipcmciapaaDoor
open Go.ChangeShapes Go.WideShapes Go.ChangeAt Go.RowKit
set_option linter.unusedVariables false
set_option maxRecDepth 100000

theorem Tp.row_rw {w : World} {B z n : Nat} {t : TypeId} {v : Value} {xs : List Value} (h : w.ownsRow B t z v n xs) : Tp.Rw w v n z xs := by
  refine ⟨h.1, ?_⟩
  by_cases h0 : n = 0
  · obtain ⟨a, c, e⟩ := Tp.row_len h
    exact Or.inl ⟨h0, a, c, by rw [← h0]; exact e⟩
  · obtain ⟨g, cap, e, h1, h2, h3⟩ := Tp.row_cells h (by omega)
    exact Or.inr ⟨g, 0, cap, e, h1, h2, fun j x hj => by rw [Nat.zero_add]; exact h3 j x hj⟩
/-- While the law runs: what it asks of memory, what Frame told, its own. -/
structure Tp.Gw (w : World) (fr : Int) (l : List Tp.Ln) (p : Value) (w1 : World) (j : Nat) (acc : List (Nat → Int)) (v : Value) (Y : World) : Prop where
  low : Below w.heap.size w w1
  fw : Tp.Fw w1 fr l j acc v Y
  pr : Tp.Rw w1 p (Tp.frmL fr l).length 16 (Tp.pxs (Tp.frmL fr l))
theorem Tp.Gw.kept {w : World} {fr : Int} {l : List Tp.Ln} {p : Value} {w1 : World} {j : Nat} {acc : List (Nat → Int)} {v : Value} {Y Y' : World} (h : Tp.Gw w fr l p w1 j acc v Y) (hb : Below Y.heap.size Y Y') : Tp.Gw w fr l p w1 j acc v Y' := ⟨h.low, h.fw.kept hb, h.pr⟩
theorem Tp.Gw.all {w : World} {fr : Int} {l : List Tp.Ln} {p : Value} {w1 : World} {j : Nat} {acc : List (Nat → Int)} {v : Value} {Y : World} (h : Tp.Gw w fr l p w1 j acc v Y) : Below w.heap.size w Y := stp h.low h.fw.low
set_option maxRecDepth 100000 in
set_option maxHeartbeats 3200000 in
theorem Tp.frame_law (v v2 v3 : Value) (l : List Tp.Ln) (fr : Int) (w : World) (hF : Tp.F w) (h : Tp.Rw w v l.length 18 (Tp.lncs l)) (hl : l.length ≤ 4398046511104) :
    Calls Tryd.prog 5 #[.agg #[v, v2, v3], .int .i64 fr] w fun e w' => e = .returned (.bool true) ∧ Below w.heap.size w w' := by
  obtain ⟨a1, k1, rfl⟩ := h.len
  have H := hid h
  have HL := hid hl
  have HF0 := hid hF
  have hb0 := stA (st0 w) (.cells #[.slice a1 l.length k1, v2, v3] 54)
  have HFR := hid (Tp.frame_any _ v2 v3 l fr (w.alloc (.cells #[.slice a1 l.length k1, v2, v3] 54)) (h.kept hb0) hl)
  have HB0 := hid hb0
  clear h hl hF hb0
  go_enter Tryd.func5, Tryd.ntmps5
  go_wp2_with (go_at_call 21; refine HFR.out.mono ?_; rintro e w1 ⟨u, rfl, hu, hb1⟩; obtain ⟨pa, pc, rfl⟩ := Tp.row_len hu; have HU := hid (Tp.row_rw hu); have HB1 := hid (stp HB0.out hb1); have x0 : w1.cell? ⟨w.heap.size, 0, none⟩ = some (.slice a1 l.length k1) := (hb1.cell (p := ⟨w.heap.size, 0, none⟩) (by simp)).trans (Pl.new _ _ _ _ rfl); have xz : w.heap.size < w1.heap.size := Nat.lt_of_lt_of_le (by simp) hb1.size; clear hu hb1)
  go_loopw [7, 19] (fun u i wr => ∃ (j : Nat) (acc : List (Nat → Int)), j ≤ l.length ∧ i = .int .i64 j ∧ Tp.Gw w fr l (.slice pa (Tp.frmL fr l).length pc) w1 j acc u wr) (fun _ i _ => l.length - (intOf i).toNat)
  case atStart => exact ⟨0, [], Nat.zero_le _, rfl, HB1.out, ⟨st0 _, ⟨rfl, Or.inl ⟨rfl, rfl⟩⟩, rfl, Nat.le_refl _⟩, HU.out⟩
  case round =>
    clear x0 xz
    obtain ⟨j, acc, hj, rfl, hG⟩ := hrel
    have HG := hid hG
    have hw := hG.fw
    have HW := hid hw
    have hle := hw.le
    obtain ⟨ua, uc, rfl⟩ := Tp.row_len hw.row
    by_cases hlt : j < l.length
    · have hlt2 : (j : Int) < l.length := by omega
      have hj0 : (0 : Int) ≤ j := by omega
      have hw1 : wrap64 ((j : Int) + 1) = (j : Int) + 1 := by have := HL.out; unfold wrap64; omega
      have hw2 : IntKind.i64.wrap ((j : Int) + 1) = (j : Int) + 1 := by have := HL.out; simp [IntKind.wrap, IntKind.bits, IntKind.signed]; omega
      obtain ⟨x, hx⟩ : ∃ x, l[j]? = some x := ⟨_, List.getElem?_eq_getElem hlt⟩
      obtain ⟨g, o, c, q1, z1, r1⟩ := (H.out.kept hG.all).range hlt (Tp.lncs_row l j x hx)
      cases q1
      have HR := hid r1
      have HD := hid (Tp.drop_cons hx)
      clear hw hx r1 hG
      by_cases hq : x.f = fr ∧ x.l = acc.length
      · obtain ⟨q1, q2⟩ := hq
        have HQ := hid (And.intro q1 q2)
        have t1 : (x.f == fr) = true := by simpa using q1
        have t2 : (x.l == (acc.length : Int)) = true := by simpa using q2
        clear q1 q2
        go_wp2_with (first
          | (refine Tp.wpl_b16 rfl _ rfl x.px rfl ?_)
          | (refine wpList_load_mid rfl 60 _ rfl g (o + j * 18) rfl (Tp.lnC x) _ HR.out Tryd.underlying60 rfl Tp.info_ln ?_)
          | (refine wpList_store_mid rfl 60 _ _ rfl wr.heap.size 0 (Tp.lnC x).toArray rfl rfl (Tp.ln_there wr _) Tp.info_ln (Tp.ln_one x) ?_; refine Pl.cutL (fun V => Tp.Fw w1 fr l j acc (.slice ua acc.length uc) V ∧ Bx V wr.heap.size (Tp.lnC x)) ⟨HW.out.kept (Tp.ln_box wr x _).1, (Tp.ln_box wr x _).2⟩ ?_; rintro V ⟨p1, p2⟩; have HV := hid p1; have HX := hid p2; have y0 := p2.at 0 (.int .i64 x.f) rfl; have y1 := p2.at 1 (.int .i64 x.l) rfl; have yz := p2.z; clear p1 p2)
          | (refine wpList_load_mid rfl 58 _ rfl wr.heap.size 2 rfl (Tp.r16 x.px) _ (Tp.ln_px HX.out) Tryd.underlying58 rfl Tp.info_16 ?_)
          | (at_builtin; have HV2 := hid (HV.out.kept (stA (st0 V) (.cells (Tp.r16 x.px).toArray 58))); refine Tp.appOne (v := .slice ua acc.length uc) Tryd.underlying55 Tp.info_163 Tp.sz16 (by decide) (by rfl) _ _ (by rfl) (by rfl) HV2.out.row V.heap.size 1 (by rfl) (ys := Tp.pxs [x.px]) rfl (Tp.px_cells V x.px _ rfl) (Tp.px_one x.px) (by have := HL.out; omega) (by have := HL.out; omega) HV2.out.low.size ?_; intro v' w' hown' hb'))
        refine ⟨⟨j + 1, acc ++ [x.px], by omega, by simp, HG.out.low, ⟨HV2.out.low.trans hb', ?_, ?_, ?_⟩, HG.out.pr⟩, by simp [intOf]; omega⟩
        · rw [List.length_append, Tp.pxs_app]; exact hown'
        · rw [← HW.out.eq, HD.out, Tp.pick_yes HQ.out]
        · simp; omega
      · have HQ := hid hq
        by_cases q1 : x.f = fr
        · have t1 : (x.f == fr) = true := by simpa using q1
          have t2 : (x.l == (acc.length : Int)) = false := by rw [beq_eq_false_iff_ne]; intro e; exact hq ⟨q1, e⟩
          clear hq q1
          go_wp2_with (first
            | (refine wpList_load_mid rfl 60 _ rfl g (o + j * 18) rfl (Tp.lnC x) _ HR.out Tryd.underlying60 rfl Tp.info_ln ?_)
            | (refine wpList_store_mid rfl 60 _ _ rfl wr.heap.size 0 (Tp.lnC x).toArray rfl rfl (Tp.ln_there wr _) Tp.info_ln (Tp.ln_one x) ?_; refine Pl.cutL (fun V => Tp.Fw w1 fr l j acc (.slice ua acc.length uc) V ∧ Bx V wr.heap.size (Tp.lnC x)) ⟨HW.out.kept (Tp.ln_box wr x _).1, (Tp.ln_box wr x _).2⟩ ?_; rintro V ⟨p1, p2⟩; have HV := hid p1; have HX := hid p2; have y0 := p2.at 0 (.int .i64 x.f) rfl; have y1 := p2.at 1 (.int .i64 x.l) rfl; have yz := p2.z; clear p1 p2))
          exact ⟨⟨j + 1, acc, by omega, by simp, HG.out.low, ⟨HV.out.low, HV.out.row, by rw [← HW.out.eq, HD.out, Tp.pick_no HQ.out], by omega⟩, HG.out.pr⟩, by simp [intOf]; omega⟩
        · have t1 : (x.f == fr) = false := by simpa using q1
          clear hq q1
          go_wp2_with (first
            | (refine wpList_load_mid rfl 60 _ rfl g (o + j * 18) rfl (Tp.lnC x) _ HR.out Tryd.underlying60 rfl Tp.info_ln ?_)
            | (refine wpList_store_mid rfl 60 _ _ rfl wr.heap.size 0 (Tp.lnC x).toArray rfl rfl (Tp.ln_there wr _) Tp.info_ln (Tp.ln_one x) ?_; refine Pl.cutL (fun V => Tp.Fw w1 fr l j acc (.slice ua acc.length uc) V ∧ Bx V wr.heap.size (Tp.lnC x)) ⟨HW.out.kept (Tp.ln_box wr x _).1, (Tp.ln_box wr x _).2⟩ ?_; rintro V ⟨p1, p2⟩; have HV := hid p1; have HX := hid p2; have y0 := p2.at 0 (.int .i64 x.f) rfl; have y1 := p2.at 1 (.int .i64 x.l) rfl; have yz := p2.z; clear p1 p2))
          exact ⟨⟨j + 1, acc, by omega, by simp, HG.out.low, ⟨HV.out.low, HV.out.row, by rw [← HW.out.eq, HD.out, Tp.pick_no HQ.out], by omega⟩, HG.out.pr⟩, by simp [intOf]; omega⟩
    · have hj2 : j = l.length := by omega
      subst hj2
      have hnl : ¬ (l.length : Int) < l.length := by omega
      have he : Tp.pick fr l [] = acc := by rw [← hw.eq, List.drop_length]; rfl
      have e1 : Tp.frmL fr l = if acc.length = 8 then acc else [] := by unfold Tp.frmL; rw [he]
      have e2 : Tp.frmE fr l = if acc.length = 8 then 0 else 5 := by unfold Tp.frmE; rw [he]
      have hA := hG.all
      have HF1 := hid (HF0.out.kept hA)
      have HA := hid hA
      have HPR := hid (hG.pr.kept hw.low)
      clear hw he hG hA HU
      by_cases h8 : acc.length = 8
      · rw [if_pos h8] at e1 e2
        have h8' : ((acc.length : Int) != 8) = false := by rw [h8]; rfl
        have HN8 := hid h8
        rw [e1] at HPR
        rw [e1, e2]
        clear e1 e2 h8
        go_wp2_with (first
          | (go_at_call 10; refine (Tp.taped _ HF1.out).mono ?_; rintro e w2 ⟨rfl, hb2⟩; have HA2 := hid (stp HA.out hb2); have HP2 := hid (HPR.out.kept hb2); have HW2 := hid (HW.out.kept hb2); clear hb2)
          | (go_at_call 22; refine (Tp.same16 _ _ acc _ HP2.out (Tp.row_rw HW2.out.row) (by have := HN8.out; omega)).mono ?_; rintro e w3 ⟨rfl, hb3⟩; have HA3 := hid (stp HA2.out hb3); clear hb3))
        go_ret
        exact ⟨rfl, HA3.out⟩
      · rw [if_neg h8] at e1 e2
        have h8' : ((acc.length : Int) != 8) = true := by rw [bne_iff_ne]; omega
        rw [e1, e2]
        clear e1 e2 h8
        go_wp2_with (first
          | (go_at_call 10; have hq2 := HA2.out; clear hq2; refine (Tp.taped _ HF2.out).mono ?_; rintro e w3 ⟨rfl, hb3⟩; have HA3 := hid (stp HA2.out hb3); clear hb3)
          | (go_at_call 10; refine (Tp.taped _ HF1.out).mono ?_; rintro e w2 ⟨rfl, hb2⟩; have HA2 := hid (stp HA.out hb2); have HF2 := hid (HF1.out.kept hb2); clear hb2))
        go_ret
        exact ⟨rfl, HA3.out⟩
end Go.Proofs.YtbfflipcmciapaaDoor
