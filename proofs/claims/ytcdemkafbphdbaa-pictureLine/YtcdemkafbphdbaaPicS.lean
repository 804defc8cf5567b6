/-
  The reference: a line's pixels.
-/
import Derived.Test.YtcdemkafbphdbaaPicR
import Derived.Deep.DeepCutAuto
import Derived.Deep.CutBlock
namespace Go.Proofs.Ytcdemkafbphdbaa
open Go.ChangeShapes Go.WideShapes Go.ChangeAt Go.RowKit
set_option linter.unusedVariables false

theorem own_lst {W : World} {B : Nat} {v : Value} {L : List Nat} (h : W.ownsRow B 3 1 v L.length (ics L)) : ∃ sa sc gl, v = .slice sa L.length sc ∧ L.length ≤ sc ∧ (L ≠ [] → sa = some ⟨gl, 0, none⟩ ∧ B ≤ gl ∧ Lst W gl L) := by
  by_cases h0 : L = []
  · obtain ⟨sa, sc, rfl⟩ := own_len h
    exact ⟨sa, sc, 0, rfl, by rw [h0]; exact Nat.zero_le _, fun hn => absurd h0 hn⟩
  · obtain ⟨gl, c, rfl, hb, hl⟩ := Lst.of h h0
    refine ⟨_, c, gl, rfl, ?_, fun _ => ⟨rfl, hb, hl⟩⟩
    rcases h.2 with ⟨h1, _⟩ | ⟨g, cap, cur, h1, _, _, hn, _⟩
    · cases h1
    · simp only [Value.slice.injEq] at h1
      rw [h1.2.2]; exact hn
theorem pxL_hit {m : List UInt8} {y : Nat} {ks : List Nat} {j k x : Nat} (hk : ks[j]? = some k) (h : tkL m y (ks.take j) x = false) (hd : sxS m y k x ≠ 0) : pxL m y ks x = if 128 ≤ hwS m k ∧ gd m y x ≠ 0 then gb m (160 + gd m y x) else gb m (164 + sxS m y k x) := by
  have hj := (List.getElem?_eq_some_iff.1 hk).1
  have hg := (List.getElem?_eq_some_iff.1 hk).2
  have e : ks = ks.take j ++ k :: ks.drop (j + 1) := by
    conv => lhs; rw [← List.take_append_drop j ks, List.drop_eq_getElem_cons hj, hg]
  unfold tkL at h
  have hn : (ks.take j).find? (fun k => sxS m y k x != 0) = none := by
    rw [List.find?_eq_none]
    intro k hk
    rw [List.any_eq_false] at h
    exact h k hk
  have h1 : (k :: ks.drop (j + 1)).find? (fun k => sxS m y k x != 0) = some k := by simp [hd]
  unfold pxL
  rw [e, List.find?_append, hn, h1]
  rfl
theorem tk_next {m : List UInt8} {y : Nat} {ks : List Nat} {j k x : Nat} (hk : ks[j]? = some k) (h : tkL m y (ks.take j) x = false) (hd : sxS m y k x = 0) : tkL m y (ks.take (j + 1)) x = false := by
  rw [List.take_add_one, hk]
  show tkL m y (ks.take j ++ [k]) x = false
  rw [tkL_snoc, h, hd]; rfl
theorem td_mod (m : List UInt8) (t x y : Nat) : td m (t % 16) x y = td m t x y := by
  unfold td
  rw [Nat.mod_mod]
/-- Where the reference draws: the result, the list. -/
structure LnW (w : World) (fo : Nat → Nat) (gl : Nat) (L : List Nat) (W : World) : Prop where
  low : Below w.heap.size w W
  o : Bx W w.heap.size (row16 fo)
  l : L ≠ [] → Lst W gl L
section
variable {w W w1 : World} {fo fo' : Nat → Nat} {gl : Nat} {L : List Nat}
theorem LnW.kept (h : LnW w fo gl L W) (hb : Below W.heap.size W w1) : LnW w fo gl L w1 := ⟨stp h.low hb, h.o.kept hb, fun hn => (h.l hn).kept hb⟩
theorem LnW.congr (h : LnW w fo gl L W) (e : ∀ x, x < 16 → fo x = fo' x) : LnW w fo' gl L W := ⟨h.low, row16_congr e ▸ h.o, h.l⟩
theorem LnW.put (h : LnW w fo gl L W) (hd : L ≠ [] → w.heap.size < gl) (x n : Nat) (hx : x < 16) : LnW w (fun i => if i = x then n else fo i) gl L (W.setCell ⟨w.heap.size, x, none⟩ (.int .u8 n)) :=
  ⟨Bl.set h.low (Nat.le_refl _) _, row16_set fo x n hx ▸ h.o.set x (.int .u8 n) (by rw [row16_len]; exact hx), fun hn => (h.l hn).far (Nat.ne_of_lt (hd hn)) _⟩
end
/-- The line as it stands while the pixel x is made. -/
def atX (m : List UInt8) (y x n : Nat) (i : Nat) : Nat := if i = x then n else if i < x then px m y i else 0
theorem atX_done (m : List UInt8) (y x n : Nat) (h : px m y x = n) : ∀ i, i < 16 → atX m y x n i = (fun i => if i < x + 1 then px m y i else 0) i := fun i hi => by
  unfold atX
  by_cases e : i = x
  · subst e; simp [h]
  · simp only [if_neg e]
    by_cases hlt : i < x
    · rw [if_pos hlt, if_pos (by omega)]
    · rw [if_neg hlt, if_neg (by omega)]
theorem atX_put (m : List UInt8) (y x n n' : Nat) : ∀ i, i < 16 → (fun i => if i = x then n' else atX m y x n i) i = atX m y x n' i := fun i hi => by
  unfold atX
  by_cases e : i = x
  · simp [e]
  · simp [e]
set_option maxRecDepth 100000 in
set_option maxHeartbeats 12800000 in
theorem lineOf_any (m : List UInt8) (v : Value) (g o c : Nat) (y : Nat) (w : World) (h : Mm w m v g o c) (hc256 : 256 ≤ c) (hy : y < 8) :
    Calls Try.prog 10 #[v, .int .i64 y] w fun e w' => e = .returned (.agg (row16 (px m y)).toArray) ∧ Below w.heap.size w w' := by
  have H := hid h
  obtain ⟨rfl, hl, hz, hc⟩ := h
  clear hc
  obtain ⟨L, hL⟩ : ∃ L, L = drS m y 8 := ⟨_, rfl⟩
  obtain ⟨ks, hks⟩ : ∃ ks, ks = L.take 2 := ⟨_, rfl⟩
  have HKs : Hid (∀ k ∈ ks, k < 8 ∧ onS m y k = true) := fun k hk => by rw [hks, hL] at hk; exact ⟨drS_lt (List.mem_of_mem_take hk), drS_on (List.mem_of_mem_take hk)⟩
  have HPx : Hid (∀ x, px m y x = pxL m y ks x) := fun x => by rw [hks, hL]; rfl
  have klen : ks.length ≤ 2 := by rw [hks, List.length_take]; omega
  have kle : ks.length ≤ L.length := by rw [hks, List.length_take]; omega
  have hmin : min (2 : Int) (L.length : Int) = (ks.length : Int) := by rw [hks, List.length_take]; omega
  have HAt : Hid (∀ j k, ks[j]? = some k → L[j]? = some k) := fun j k hj => by
    rw [hks, List.getElem?_take] at hj
    split at hj
    · exact hj
    · cases hj
  have HL := hid hL
  have HMin := hid hmin
  clear hL hks hmin
  go_enter Try.func10, Try.ntmps10
  go_upto_block 0 with (first
    | (go_at_call 11; refine (drawnOn_any m _ g o c y _ (H.out.kept (stA (st0 w) _)) hy).mono ?_; rw [← HL.out]; rintro e w1 ⟨s, rfl, hown, hb1⟩; have HO := hid hown; have HB := hid hb1; obtain ⟨sa, sc, gl, rfl, hsc, hsa⟩ := own_lst hown; have HSa := hid hsa; have hmin := HMin.out; have m1 : (0 : Int) ≤ ks.length := Int.natCast_nonneg _; have m2 : (ks.length : Int) ≤ sc := Int.ofNat_le.2 (Nat.le_trans kle hsc); clear hown hb1 hsa))
  have HD : Hid (L ≠ [] → w.heap.size < gl) := fun hn => Nat.lt_of_lt_of_le (by simp) (HSa.out hn).2.1
  have HS : Hid (L ≠ [] → sa = some ⟨gl, 0, none⟩) := fun hn => (HSa.out hn).1
  have HW : Hid (LnW w (fun i => if i < 0 then px m y i else 0) gl L w1) := ⟨stp (stA (st0 w) _) HB.out, ((Bx.new w (row16 fun _ => 0) _ rfl).kept HB.out), fun hn => (HSa.out hn).2.2⟩
  clear HSa HO HB hmin
  go_cut [24] (fun _ W => LnW w (fun i => if i < 16 then px m y i else 0) gl L W)
  case first =>
    go_wp2_with fail
    go_loopw [24] (fun i W => ∃ x : Nat, x ≤ 16 ∧ i = .int .i64 x ∧ LnW w (fun i => if i < x then px m y i else 0) gl L W) (fun i _ => 16 - (intOf i).toNat)
    case atStart => exact ⟨0, Nat.zero_le _, rfl, HW.out⟩
    case round =>
      clear HW
      obtain ⟨x, hx, rfl, hW⟩ := hrel
      have HW := hid hW
      clear hW
      by_cases h16 : x < 16
      · have h16' : (x : Int) < 16 := by omega
        go_upto_block 1 with fail
        go_cut [6] (fun _ W => LnW w (fun i => if i < x + 1 then px m y i else 0) gl L W)
        case first =>
          have HM := hid (H.out.kept HW.out.low)
          have c0 := HM.out.c 168 (by omega)
          have c1 := HM.out.c 169 (by omega)
          have b0 := gb_lt m 168
          have b1 := gb_lt m 169
          have w0 := i64_gb m 168
          have w1' := i64_gb m 169
          have w2 : IntKind.i64.wrap ((x : Int) + (gb m 168 : Nat)) = (x : Int) + (gb m 168 : Nat) := by rw [IntKind.wrap_i64]; omega
          have w3 : IntKind.i64.wrap ((y : Int) + (gb m 169 : Nat)) = (y : Int) + (gb m 169 : Nat) := by rw [IntKind.wrap_i64]; omega
          obtain ⟨X, hX⟩ : ∃ X, X = (x + gb m 168) % 16 := ⟨_, rfl⟩
          obtain ⟨Y, hY⟩ : ∃ Y, Y = (y + gb m 169) % 16 := ⟨_, rfl⟩
          have hXl : X < 16 := by omega
          have hYl : Y < 16 := by omega
          have HT : Hid (td m (gb m (Y / 4 * 4 + X / 4) % 16) (X % 4) (Y % 4) = gd m y x) := by rw [td_mod, hX, hY]; rfl
          have HX := hid hX
          have HY := hid hY
          clear hX hY
          go_upto_region 6 with fail
          go_cut [7, 8] (fun vX vY W => vX = .int .i64 (X : Nat) ∧ vY = .int .i64 (Y : Nat) ∧ LnW w (fun i => if i < x then px m y i else 0) gl L W)
          case first =>
            go_quiet (fail)
            rename_i hM
            refine hM _ _ ?_
            go_meet
            exact ⟨congrArg (Value.int .i64) (by rw [HX.out]; omega), congrArg (Value.int .i64) (by rw [HY.out]; omega), HW.out.kept (Bl.drewN (st0 _) _)⟩
          case rest =>
          obtain ⟨rfl, rfl, hW⟩ := hcut
          clear HW HM c0 c1 b0 b1 w0 w1' w2 w3 HX HY
          have HW := hid hW
          clear hW
          have hgd := gd_lt m y x
          have c0 := (H.out.kept HW.out.low).c (Y / 4 * 4 + X / 4) (by omega)
          have b0 := gb_lt m (Y / 4 * 4 + X / 4)
          have xm : X % 4 < 4 := Nat.mod_lt _ (by decide)
          have ym : Y % 4 < 4 := Nat.mod_lt _ (by decide)
          have tm : gb m (Y / 4 * 4 + X / 4) % 16 < 16 := Nat.mod_lt _ (by decide)
          go_upto_block 2 with (go_at_call 18; refine (tileDot_any m _ g o c (gb m (Y / 4 * 4 + X / 4) % 16) (X % 4) (Y % 4) _ (H.out.kept HW.out.low) tm xm ym).mono ?_; rw [HT.out]; rintro e w2 ⟨rfl, hb2⟩; have HW3 := hid (HW.out.kept hb2); have co := HW3.out.o.at x _ (row16_at _ h16); have fo := HW3.out.o.f x; have cm := (H.out.kept HW3.out.low).c (160 + gd m y x) (by omega); clear hb2)
          have HW4 : Hid (LnW w (atX m y x (gb m (160 + gd m y x))) gl L (w2.setCell ⟨w.heap.size, x, none⟩ (.int .u8 (gb m (160 + gd m y x))))) := HW3.out.put HD.out x _ h16
          clear HW HW3 co fo cm c0 b0 xm ym tm
          go_wp2_with fail
          go_loopw [67] (fun i W => ∃ j : Nat, j ≤ ks.length ∧ i = .int .i64 j ∧ Hid (tkL m y (ks.take j) x = false) ∧ LnW w (atX m y x (gb m (160 + gd m y x))) gl L W) (fun i _ => ks.length - (intOf i).toNat)
          case atStart => exact ⟨0, Nat.zero_le _, rfl, (rfl : tkL m y (ks.take 0) x = false), HW4.out⟩
          case round =>
            clear HW4
            obtain ⟨j, hj, rfl, HTk, hW⟩ := hrel
            have HW := hid hW
            clear hW
            by_cases hjl : j < ks.length
            · have hjl' : (j : Int) < ks.length := by omega
              have hLn : L ≠ [] := fun h => by rw [h] at kle; have : ks.length ≤ 0 := kle; omega
              have hsa := HS.out hLn
              have HDl := hid (HD.out hLn)
              subst hsa
              obtain ⟨k, hk⟩ : ∃ k, ks[j]? = some k := ⟨ks[j], List.getElem?_eq_getElem hjl⟩
              have HK := hid hk
              have HK8 := hid (HKs.out k (List.mem_of_getElem? hk))
              have hk8 := HK8.out.1
              have cl := (HW.out.l hLn).c j k (HAt.out j k hk)
              clear hk
              have cne : ¬ (c = 128 + 4 * k) := by omega
              have HL1 := hid (fun q => lies_any m _ g o c k y (wr.drewN q) ((H.out.kept HW.out.low).kept (Bl.drewN (st0 wr) q)) hk8 hy)
              have HLi : Hid (∀ q, Calls Try.prog 19 #[.slice (some ⟨g, o, none⟩) 256 c, .int .i64 k, .int .i64 y] (wr.drewN q) fun e w' => e = .returned (.int .i64 (liI m k y)) ∧ w' = wr.drewN q) := fun q => (HL1.out q).mono fun e w' hh => ⟨hh.1, hh.2.symm⟩
              have d1 := (H.out.kept HW.out.low).c (128 + 4 * k + 1) (by omega)
              have hcl0 : clS m k = gb m (128 + 4 * k + 1) := by unfold clS; rw [show 129 + 4 * k = 128 + 4 * k + 1 by omega]
              rw [← hcl0, ← Nat.add_assoc] at d1
              have hclb : clS m k < 256 := gb_lt ..
              have l1 : (1 : Int) < ((256 - (128 + 4 * k) : Nat) : Int) := by omega
              have w1' : IntKind.i64.wrap (clS m k : Int) = (clS m k : Int) := by rw [IntKind.wrap_i64]; omega
              have w2' : IntKind.i64.wrap ((x : Int) - (clS m k : Nat)) = (x : Int) - (clS m k : Nat) := by rw [IntKind.wrap_i64]; omega
              clear hcl0
              go_upto_region 13 with fail
              go_cut [13, 14] (fun vc vr W => vc = .int .i64 ((x : Int) - (clS m k : Nat)) ∧ vr = .int .i64 (liI m k y) ∧ LnW w (atX m y x (gb m (160 + gd m y x))) gl L W)
              case first =>
                go_quiet ((go_at_call 19; exact Calls.quiet_of_same (HLi.out _)))
                rename_i hM
                refine hM _ _ ?_
                go_meet
                exact ⟨rfl, rfl, HW.out.kept (Bl.drewN (st0 _) _)⟩
              case rest =>
              obtain ⟨rfl, rfl, hWc⟩ := hcut
              have HWc := hid hWc
              clear hWc HW d1 cl l1 w1' w2' HL1 HLi
              by_cases hlo : x < clS m k
              · have t1 : (x : Int) - (clS m k : Nat) < 0 := by omega
                have HNx := hid (tk_next HK.out HTk.out (sx_far (by omega)))
                go_wp2
                exact ⟨⟨j + 1, hjl, by go_num, HNx, HWc.out⟩, by simp [intOf]; omega⟩
              · have t1 : ¬ (x : Int) - (clS m k : Nat) < 0 := by omega
                by_cases hhi : clS m k + 4 ≤ x
                · have t2 : (3 : Int) < (x : Int) - (clS m k : Nat) := by omega
                  have HNx := hid (tk_next HK.out HTk.out (sx_far (by omega)))
                  go_wp2
                  exact ⟨⟨j + 1, hjl, by go_num, HNx, HWc.out⟩, by simp [intOf]; omega⟩
                · obtain ⟨C, hC⟩ : ∃ C, C = x - clS m k := ⟨_, rfl⟩
                  obtain ⟨R, hR⟩ : ∃ R, R = y - lnS m k := ⟨_, rfl⟩
                  have hon := HK8.out.2
                  have hon' : lnS m k ≤ y ∧ y < lnS m k + 4 := by unfold onS at hon; exact of_decide_eq_true hon
                  have HSxe : Hid (sxS m y k x = sdS m y k C) := by unfold sxS; rw [if_pos (by omega), hC]; rfl
                  have HR : Hid (y - lnS m k = R) := hR.symm
                  have eC : (x : Int) - (clS m k : Nat) = (C : Int) := by omega
                  have eR : liI m k y = (R : Int) := by unfold liI; rw [if_pos hon]; omega
                  have hC4 : C < 4 := by omega
                  have hR4 : R < 4 := by omega
                  rw [eC, eR]
                  have HC3 : Hid (((3 - C : Nat) : Int) = 3 - (C : Int)) := by unfold Hid; omega
                  have HR3 : Hid (((3 - R : Nat) : Int) = 3 - (R : Int)) := by unfold Hid; omega
                  have t3 : ¬ (C : Int) < 0 := by omega
                  have t4 : ¬ (3 : Int) < (C : Int) := by omega
                  have hw3 : Hid (gb m (128 + 4 * k + 3) = hwS m k) := by unfold hwS; rw [show 131 + 4 * k = 128 + 4 * k + 3 by omega]; rfl
                  have ti2 : Hid (gb m (128 + 4 * k + 2) = tiS m k) := by unfold tiS; rw [show 130 + 4 * k = 128 + 4 * k + 2 by omega]; rfl
                  have d3 := (H.out.kept HWc.out.low).c (128 + 4 * k + 3) (by omega)
                  have d2 := (H.out.kept HWc.out.low).c (128 + 4 * k + 2) (by omega)
                  rw [hw3.out, ← Nat.add_assoc] at d3
                  rw [ti2.out, ← Nat.add_assoc] at d2
                  have hwb : hwS m k < 256 := gb_lt ..
                  have tib : tiS m k < 256 := gb_lt ..
                  have tm : tiS m k % 16 < 16 := Nat.mod_lt _ (by decide)
                  have hsl := sxS_lt m y k x
                  clear hC hR hon hon' eC eR hlo hhi t1
                  by_cases hcl : hwS m k % 2 = 1
                  · by_cases hrw : hwS m k / 2 % 2 = 1
                    · have q1 : ((hwS m k : Int) % 2 == 1) = true := by simp; omega
                      have q2 : ((hwS m k : Int) / 2 % 2 == 1) = true := by simp; omega
                      have HSx : Hid (td m (tiS m k % 16) (3 - C) (3 - R) = sxS m y k x) := by
                        rw [td_mod, HSxe.out]
                        unfold sdS rwS
                        rw [if_pos hcl, if_pos hrw, HR.out]
                        rfl
                      clear hcl hrw
                      by_cases hsx : sxS m y k x = 0
                      · have s0 : ((sxS m y k x : Int) == 0) = true := by rw [hsx]; rfl
                        have HNx := hid (tk_next HK.out HTk.out hsx)
                        clear hsx
                        go_wp2_with (go_at_call 18; rw [← HC3.out]; rw [← HR3.out]; refine (tileDot_any m _ g o c (tiS m k % 16) (3 - C) (3 - R) _ (H.out.kept HWc.out.low) tm (by omega) (by omega)).mono ?_; rw [HSx.out]; rintro e w5 ⟨rfl, hb5⟩; have HW5 := hid (HWc.out.kept hb5); have co := HW5.out.o.at x _ (row16_at _ h16); have fo := HW5.out.o.f x; have d3' := ((H.out.kept HW5.out.low).c (128 + 4 * k + 3) (by omega)); have cm := (H.out.kept HW5.out.low).c (164 + sxS m y k x) (by omega); rw [← Nat.add_assoc] at d3'; rw [hw3.out] at d3'; clear hb5)
                        exact ⟨⟨j + 1, hjl, by go_num, HNx, HW5.out⟩, by simp [intOf]; omega⟩
                      · have s0 : ((sxS m y k x : Int) == 0) = false := by simp; omega
                        have HHit := hid (pxL_hit HK.out HTk.out hsx)
                        clear hsx
                        by_cases hbh : 128 ≤ hwS m k
                        · have s1 : ¬ (hwS m k : Int) < 128 := by omega
                          by_cases hg0 : gd m y x = 0
                          · have s2 : ((gd m y x : Int) == 0) = true := by rw [hg0]; rfl
                            have HFin : Hid (px m y x = gb m (164 + sxS m y k x)) := by rw [HPx.out, HHit.out, if_neg (fun hh => hh.2 hg0)]; rfl
                            clear hg0
                            go_wp2_with (go_at_call 18; rw [← HC3.out]; rw [← HR3.out]; refine (tileDot_any m _ g o c (tiS m k % 16) (3 - C) (3 - R) _ (H.out.kept HWc.out.low) tm (by omega) (by omega)).mono ?_; rw [HSx.out]; rintro e w5 ⟨rfl, hb5⟩; have HW5 := hid (HWc.out.kept hb5); have co := HW5.out.o.at x _ (row16_at _ h16); have fo := HW5.out.o.f x; have d3' := ((H.out.kept HW5.out.low).c (128 + 4 * k + 3) (by omega)); have cm := (H.out.kept HW5.out.low).c (164 + sxS m y k x) (by omega); rw [← Nat.add_assoc] at d3'; rw [hw3.out] at d3'; clear hb5)
                            go_meet
                            exact ((HW5.out.put HD.out x _ h16).congr (atX_put m y x _ _)).congr (atX_done m y x _ HFin.out)
                          · have s2 : ((gd m y x : Int) == 0) = false := by simp; omega
                            have HFin : Hid (px m y x = gb m (160 + gd m y x)) := by rw [HPx.out, HHit.out, if_pos ⟨hbh, hg0⟩]; rfl
                            clear hg0
                            go_wp2_with (go_at_call 18; rw [← HC3.out]; rw [← HR3.out]; refine (tileDot_any m _ g o c (tiS m k % 16) (3 - C) (3 - R) _ (H.out.kept HWc.out.low) tm (by omega) (by omega)).mono ?_; rw [HSx.out]; rintro e w5 ⟨rfl, hb5⟩; have HW5 := hid (HWc.out.kept hb5); have co := HW5.out.o.at x _ (row16_at _ h16); have fo := HW5.out.o.f x; have d3' := ((H.out.kept HW5.out.low).c (128 + 4 * k + 3) (by omega)); have cm := (H.out.kept HW5.out.low).c (164 + sxS m y k x) (by omega); rw [← Nat.add_assoc] at d3'; rw [hw3.out] at d3'; clear hb5)
                            go_meet
                            exact HW5.out.congr (atX_done m y x _ HFin.out)
                        · have s1 : (hwS m k : Int) < 128 := by omega
                          have HFin : Hid (px m y x = gb m (164 + sxS m y k x)) := by rw [HPx.out, HHit.out, if_neg (fun hh => hbh hh.1)]; rfl
                          go_wp2_with (go_at_call 18; rw [← HC3.out]; rw [← HR3.out]; refine (tileDot_any m _ g o c (tiS m k % 16) (3 - C) (3 - R) _ (H.out.kept HWc.out.low) tm (by omega) (by omega)).mono ?_; rw [HSx.out]; rintro e w5 ⟨rfl, hb5⟩; have HW5 := hid (HWc.out.kept hb5); have co := HW5.out.o.at x _ (row16_at _ h16); have fo := HW5.out.o.f x; have d3' := ((H.out.kept HW5.out.low).c (128 + 4 * k + 3) (by omega)); have cm := (H.out.kept HW5.out.low).c (164 + sxS m y k x) (by omega); rw [← Nat.add_assoc] at d3'; rw [hw3.out] at d3'; clear hb5)
                          go_meet
                          exact ((HW5.out.put HD.out x _ h16).congr (atX_put m y x _ _)).congr (atX_done m y x _ HFin.out)
                    · have q1 : ((hwS m k : Int) % 2 == 1) = true := by simp; omega
                      have q2 : ((hwS m k : Int) / 2 % 2 == 1) = false := by simp; omega
                      have HSx : Hid (td m (tiS m k % 16) (3 - C) R = sxS m y k x) := by
                        rw [td_mod, HSxe.out]
                        unfold sdS rwS
                        rw [if_pos hcl, if_neg hrw, HR.out]
                        rfl
                      clear hcl hrw
                      by_cases hsx : sxS m y k x = 0
                      · have s0 : ((sxS m y k x : Int) == 0) = true := by rw [hsx]; rfl
                        have HNx := hid (tk_next HK.out HTk.out hsx)
                        clear hsx
                        go_wp2_with (go_at_call 18; rw [← HC3.out]; refine (tileDot_any m _ g o c (tiS m k % 16) (3 - C) R _ (H.out.kept HWc.out.low) tm (by omega) (by omega)).mono ?_; rw [HSx.out]; rintro e w5 ⟨rfl, hb5⟩; have HW5 := hid (HWc.out.kept hb5); have co := HW5.out.o.at x _ (row16_at _ h16); have fo := HW5.out.o.f x; have d3' := ((H.out.kept HW5.out.low).c (128 + 4 * k + 3) (by omega)); have cm := (H.out.kept HW5.out.low).c (164 + sxS m y k x) (by omega); rw [← Nat.add_assoc] at d3'; rw [hw3.out] at d3'; clear hb5)
                        exact ⟨⟨j + 1, hjl, by go_num, HNx, HW5.out⟩, by simp [intOf]; omega⟩
                      · have s0 : ((sxS m y k x : Int) == 0) = false := by simp; omega
                        have HHit := hid (pxL_hit HK.out HTk.out hsx)
                        clear hsx
                        by_cases hbh : 128 ≤ hwS m k
                        · have s1 : ¬ (hwS m k : Int) < 128 := by omega
                          by_cases hg0 : gd m y x = 0
                          · have s2 : ((gd m y x : Int) == 0) = true := by rw [hg0]; rfl
                            have HFin : Hid (px m y x = gb m (164 + sxS m y k x)) := by rw [HPx.out, HHit.out, if_neg (fun hh => hh.2 hg0)]; rfl
                            clear hg0
                            go_wp2_with (go_at_call 18; rw [← HC3.out]; refine (tileDot_any m _ g o c (tiS m k % 16) (3 - C) R _ (H.out.kept HWc.out.low) tm (by omega) (by omega)).mono ?_; rw [HSx.out]; rintro e w5 ⟨rfl, hb5⟩; have HW5 := hid (HWc.out.kept hb5); have co := HW5.out.o.at x _ (row16_at _ h16); have fo := HW5.out.o.f x; have d3' := ((H.out.kept HW5.out.low).c (128 + 4 * k + 3) (by omega)); have cm := (H.out.kept HW5.out.low).c (164 + sxS m y k x) (by omega); rw [← Nat.add_assoc] at d3'; rw [hw3.out] at d3'; clear hb5)
                            go_meet
                            exact ((HW5.out.put HD.out x _ h16).congr (atX_put m y x _ _)).congr (atX_done m y x _ HFin.out)
                          · have s2 : ((gd m y x : Int) == 0) = false := by simp; omega
                            have HFin : Hid (px m y x = gb m (160 + gd m y x)) := by rw [HPx.out, HHit.out, if_pos ⟨hbh, hg0⟩]; rfl
                            clear hg0
                            go_wp2_with (go_at_call 18; rw [← HC3.out]; refine (tileDot_any m _ g o c (tiS m k % 16) (3 - C) R _ (H.out.kept HWc.out.low) tm (by omega) (by omega)).mono ?_; rw [HSx.out]; rintro e w5 ⟨rfl, hb5⟩; have HW5 := hid (HWc.out.kept hb5); have co := HW5.out.o.at x _ (row16_at _ h16); have fo := HW5.out.o.f x; have d3' := ((H.out.kept HW5.out.low).c (128 + 4 * k + 3) (by omega)); have cm := (H.out.kept HW5.out.low).c (164 + sxS m y k x) (by omega); rw [← Nat.add_assoc] at d3'; rw [hw3.out] at d3'; clear hb5)
                            go_meet
                            exact HW5.out.congr (atX_done m y x _ HFin.out)
                        · have s1 : (hwS m k : Int) < 128 := by omega
                          have HFin : Hid (px m y x = gb m (164 + sxS m y k x)) := by rw [HPx.out, HHit.out, if_neg (fun hh => hbh hh.1)]; rfl
                          go_wp2_with (go_at_call 18; rw [← HC3.out]; refine (tileDot_any m _ g o c (tiS m k % 16) (3 - C) R _ (H.out.kept HWc.out.low) tm (by omega) (by omega)).mono ?_; rw [HSx.out]; rintro e w5 ⟨rfl, hb5⟩; have HW5 := hid (HWc.out.kept hb5); have co := HW5.out.o.at x _ (row16_at _ h16); have fo := HW5.out.o.f x; have d3' := ((H.out.kept HW5.out.low).c (128 + 4 * k + 3) (by omega)); have cm := (H.out.kept HW5.out.low).c (164 + sxS m y k x) (by omega); rw [← Nat.add_assoc] at d3'; rw [hw3.out] at d3'; clear hb5)
                          go_meet
                          exact ((HW5.out.put HD.out x _ h16).congr (atX_put m y x _ _)).congr (atX_done m y x _ HFin.out)
                  · by_cases hrw : hwS m k / 2 % 2 = 1
                    · have q1 : ((hwS m k : Int) % 2 == 1) = false := by simp; omega
                      have q2 : ((hwS m k : Int) / 2 % 2 == 1) = true := by simp; omega
                      have HSx : Hid (td m (tiS m k % 16) C (3 - R) = sxS m y k x) := by
                        rw [td_mod, HSxe.out]
                        unfold sdS rwS
                        rw [if_neg hcl, if_pos hrw, HR.out]
                        rfl
                      clear hcl hrw
                      by_cases hsx : sxS m y k x = 0
                      · have s0 : ((sxS m y k x : Int) == 0) = true := by rw [hsx]; rfl
                        have HNx := hid (tk_next HK.out HTk.out hsx)
                        clear hsx
                        go_wp2_with (go_at_call 18; rw [← HR3.out]; refine (tileDot_any m _ g o c (tiS m k % 16) C (3 - R) _ (H.out.kept HWc.out.low) tm (by omega) (by omega)).mono ?_; rw [HSx.out]; rintro e w5 ⟨rfl, hb5⟩; have HW5 := hid (HWc.out.kept hb5); have co := HW5.out.o.at x _ (row16_at _ h16); have fo := HW5.out.o.f x; have d3' := ((H.out.kept HW5.out.low).c (128 + 4 * k + 3) (by omega)); have cm := (H.out.kept HW5.out.low).c (164 + sxS m y k x) (by omega); rw [← Nat.add_assoc] at d3'; rw [hw3.out] at d3'; clear hb5)
                        exact ⟨⟨j + 1, hjl, by go_num, HNx, HW5.out⟩, by simp [intOf]; omega⟩
                      · have s0 : ((sxS m y k x : Int) == 0) = false := by simp; omega
                        have HHit := hid (pxL_hit HK.out HTk.out hsx)
                        clear hsx
                        by_cases hbh : 128 ≤ hwS m k
                        · have s1 : ¬ (hwS m k : Int) < 128 := by omega
                          by_cases hg0 : gd m y x = 0
                          · have s2 : ((gd m y x : Int) == 0) = true := by rw [hg0]; rfl
                            have HFin : Hid (px m y x = gb m (164 + sxS m y k x)) := by rw [HPx.out, HHit.out, if_neg (fun hh => hh.2 hg0)]; rfl
                            clear hg0
                            go_wp2_with (go_at_call 18; rw [← HR3.out]; refine (tileDot_any m _ g o c (tiS m k % 16) C (3 - R) _ (H.out.kept HWc.out.low) tm (by omega) (by omega)).mono ?_; rw [HSx.out]; rintro e w5 ⟨rfl, hb5⟩; have HW5 := hid (HWc.out.kept hb5); have co := HW5.out.o.at x _ (row16_at _ h16); have fo := HW5.out.o.f x; have d3' := ((H.out.kept HW5.out.low).c (128 + 4 * k + 3) (by omega)); have cm := (H.out.kept HW5.out.low).c (164 + sxS m y k x) (by omega); rw [← Nat.add_assoc] at d3'; rw [hw3.out] at d3'; clear hb5)
                            go_meet
                            exact ((HW5.out.put HD.out x _ h16).congr (atX_put m y x _ _)).congr (atX_done m y x _ HFin.out)
                          · have s2 : ((gd m y x : Int) == 0) = false := by simp; omega
                            have HFin : Hid (px m y x = gb m (160 + gd m y x)) := by rw [HPx.out, HHit.out, if_pos ⟨hbh, hg0⟩]; rfl
                            clear hg0
                            go_wp2_with (go_at_call 18; rw [← HR3.out]; refine (tileDot_any m _ g o c (tiS m k % 16) C (3 - R) _ (H.out.kept HWc.out.low) tm (by omega) (by omega)).mono ?_; rw [HSx.out]; rintro e w5 ⟨rfl, hb5⟩; have HW5 := hid (HWc.out.kept hb5); have co := HW5.out.o.at x _ (row16_at _ h16); have fo := HW5.out.o.f x; have d3' := ((H.out.kept HW5.out.low).c (128 + 4 * k + 3) (by omega)); have cm := (H.out.kept HW5.out.low).c (164 + sxS m y k x) (by omega); rw [← Nat.add_assoc] at d3'; rw [hw3.out] at d3'; clear hb5)
                            go_meet
                            exact HW5.out.congr (atX_done m y x _ HFin.out)
                        · have s1 : (hwS m k : Int) < 128 := by omega
                          have HFin : Hid (px m y x = gb m (164 + sxS m y k x)) := by rw [HPx.out, HHit.out, if_neg (fun hh => hbh hh.1)]; rfl
                          go_wp2_with (go_at_call 18; rw [← HR3.out]; refine (tileDot_any m _ g o c (tiS m k % 16) C (3 - R) _ (H.out.kept HWc.out.low) tm (by omega) (by omega)).mono ?_; rw [HSx.out]; rintro e w5 ⟨rfl, hb5⟩; have HW5 := hid (HWc.out.kept hb5); have co := HW5.out.o.at x _ (row16_at _ h16); have fo := HW5.out.o.f x; have d3' := ((H.out.kept HW5.out.low).c (128 + 4 * k + 3) (by omega)); have cm := (H.out.kept HW5.out.low).c (164 + sxS m y k x) (by omega); rw [← Nat.add_assoc] at d3'; rw [hw3.out] at d3'; clear hb5)
                          go_meet
                          exact ((HW5.out.put HD.out x _ h16).congr (atX_put m y x _ _)).congr (atX_done m y x _ HFin.out)
                    · have q1 : ((hwS m k : Int) % 2 == 1) = false := by simp; omega
                      have q2 : ((hwS m k : Int) / 2 % 2 == 1) = false := by simp; omega
                      have HSx : Hid (td m (tiS m k % 16) C R = sxS m y k x) := by
                        rw [td_mod, HSxe.out]
                        unfold sdS rwS
                        rw [if_neg hcl, if_neg hrw, HR.out]
                        rfl
                      clear hcl hrw
                      by_cases hsx : sxS m y k x = 0
                      · have s0 : ((sxS m y k x : Int) == 0) = true := by rw [hsx]; rfl
                        have HNx := hid (tk_next HK.out HTk.out hsx)
                        clear hsx
                        go_wp2_with (go_at_call 18; refine (tileDot_any m _ g o c (tiS m k % 16) C R _ (H.out.kept HWc.out.low) tm (by omega) (by omega)).mono ?_; rw [HSx.out]; rintro e w5 ⟨rfl, hb5⟩; have HW5 := hid (HWc.out.kept hb5); have co := HW5.out.o.at x _ (row16_at _ h16); have fo := HW5.out.o.f x; have d3' := ((H.out.kept HW5.out.low).c (128 + 4 * k + 3) (by omega)); have cm := (H.out.kept HW5.out.low).c (164 + sxS m y k x) (by omega); rw [← Nat.add_assoc] at d3'; rw [hw3.out] at d3'; clear hb5)
                        exact ⟨⟨j + 1, hjl, by go_num, HNx, HW5.out⟩, by simp [intOf]; omega⟩
                      · have s0 : ((sxS m y k x : Int) == 0) = false := by simp; omega
                        have HHit := hid (pxL_hit HK.out HTk.out hsx)
                        clear hsx
                        by_cases hbh : 128 ≤ hwS m k
                        · have s1 : ¬ (hwS m k : Int) < 128 := by omega
                          by_cases hg0 : gd m y x = 0
                          · have s2 : ((gd m y x : Int) == 0) = true := by rw [hg0]; rfl
                            have HFin : Hid (px m y x = gb m (164 + sxS m y k x)) := by rw [HPx.out, HHit.out, if_neg (fun hh => hh.2 hg0)]; rfl
                            clear hg0
                            go_wp2_with (go_at_call 18; refine (tileDot_any m _ g o c (tiS m k % 16) C R _ (H.out.kept HWc.out.low) tm (by omega) (by omega)).mono ?_; rw [HSx.out]; rintro e w5 ⟨rfl, hb5⟩; have HW5 := hid (HWc.out.kept hb5); have co := HW5.out.o.at x _ (row16_at _ h16); have fo := HW5.out.o.f x; have d3' := ((H.out.kept HW5.out.low).c (128 + 4 * k + 3) (by omega)); have cm := (H.out.kept HW5.out.low).c (164 + sxS m y k x) (by omega); rw [← Nat.add_assoc] at d3'; rw [hw3.out] at d3'; clear hb5)
                            go_meet
                            exact ((HW5.out.put HD.out x _ h16).congr (atX_put m y x _ _)).congr (atX_done m y x _ HFin.out)
                          · have s2 : ((gd m y x : Int) == 0) = false := by simp; omega
                            have HFin : Hid (px m y x = gb m (160 + gd m y x)) := by rw [HPx.out, HHit.out, if_pos ⟨hbh, hg0⟩]; rfl
                            clear hg0
                            go_wp2_with (go_at_call 18; refine (tileDot_any m _ g o c (tiS m k % 16) C R _ (H.out.kept HWc.out.low) tm (by omega) (by omega)).mono ?_; rw [HSx.out]; rintro e w5 ⟨rfl, hb5⟩; have HW5 := hid (HWc.out.kept hb5); have co := HW5.out.o.at x _ (row16_at _ h16); have fo := HW5.out.o.f x; have d3' := ((H.out.kept HW5.out.low).c (128 + 4 * k + 3) (by omega)); have cm := (H.out.kept HW5.out.low).c (164 + sxS m y k x) (by omega); rw [← Nat.add_assoc] at d3'; rw [hw3.out] at d3'; clear hb5)
                            go_meet
                            exact HW5.out.congr (atX_done m y x _ HFin.out)
                        · have s1 : (hwS m k : Int) < 128 := by omega
                          have HFin : Hid (px m y x = gb m (164 + sxS m y k x)) := by rw [HPx.out, HHit.out, if_neg (fun hh => hbh hh.1)]; rfl
                          go_wp2_with (go_at_call 18; refine (tileDot_any m _ g o c (tiS m k % 16) C R _ (H.out.kept HWc.out.low) tm (by omega) (by omega)).mono ?_; rw [HSx.out]; rintro e w5 ⟨rfl, hb5⟩; have HW5 := hid (HWc.out.kept hb5); have co := HW5.out.o.at x _ (row16_at _ h16); have fo := HW5.out.o.f x; have d3' := ((H.out.kept HW5.out.low).c (128 + 4 * k + 3) (by omega)); have cm := (H.out.kept HW5.out.low).c (164 + sxS m y k x) (by omega); rw [← Nat.add_assoc] at d3'; rw [hw3.out] at d3'; clear hb5)
                          go_meet
                          exact ((HW5.out.put HD.out x _ h16).congr (atX_put m y x _ _)).congr (atX_done m y x _ HFin.out)
            · have hj9 : ¬ (j : Int) < ks.length := by omega
              have ej : ks.take j = ks := List.take_of_length_le (by omega)
              rw [ej] at HTk
              clear ej
              go_wp2
              go_meet
              exact HW.out.congr (atX_done m y x _ (by rw [HPx.out, pxL_free HTk.out]))
        case rest =>
        have HWr := hid hcut
        clear hcut HW
        go_wp2
        exact ⟨⟨x + 1, h16, by go_num, HWr.out⟩, by simp [intOf]; omega⟩
      · have h17 : ¬ (x : Int) < 16 := by omega
        have e16 : x = 16 := by omega
        subst e16
        go_wp2
        go_meet
        exact HW.out
  case rest =>
  have HF := hid (hcut.congr (fo' := px m y) (fun x hx => if_pos hx))
  clear hcut HW
  go_wp2_with (first
    | (refine ld16 rfl _ rfl _ _ rfl HF.out.o ?_)
    | (refine st16 rfl _ _ rfl w.heap.size (px m y) _ rfl rfl HF.out.o ?_; rintro w' hw' hB'; have HB' := hid hB'; have HW' := hid hw'; clear hB' hw'))
  have hl := lv16 HB'.out
  refine bodyPost_ret (v := .agg (row16 (px m y)).toArray) ?_ rfl ⟨rfl, ?_⟩
  · simp only [results, Try.results10]
    simp
    exact hl
  · rw [HW'.out]; exact Bl.puts HF.out.low (Nat.le_refl _) _
end Go.Proofs.Ytcdemkafbphdbaa
