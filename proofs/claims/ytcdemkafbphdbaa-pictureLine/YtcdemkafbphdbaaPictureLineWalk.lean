/-
  The Go text of the law PictureLine returns true.
-/
import Derived.Test.YtcdemkafbphdbaaPicT
namespace Go.Proofs.Ytcdemkafbphdbaa
open Go.ChangeShapes Go.WideShapes Go.ChangeAt Go.RowKit
set_option linter.unusedVariables false

set_option maxRecDepth 100000 in
set_option maxHeartbeats 3200000 in
theorem line_form (v : Value) (l : List UInt8) (y : Int) (w : World) (h : sliceAt w v l) (hl : l.length ≠ 256) :
    Calls Try.prog 3 #[v, .int .i64 y] w fun e w' => e = .returned (.bool true) ∧ Below w.heap.size w w' := by
  obtain ⟨a, c, rfl⟩ := slice_len h
  have HE : Hid (ckP l.length y = 4) := by unfold ckP; rw [if_neg hl]; rfl
  have HE' : Hid ((ckP l.length y != 0) = true) := by rw [HE.out]; rfl
  have HN := hid hl
  have hl' : ((l.length : Int) != 256) = true := by simp; omega
  have ez := eqz16
  clear h hl
  go_enter Try.func3, Try.ntmps3
  go_wp2_with (first
    | (go_at_call 6; refine (line_err a l.length c y _ HE'.out).mono ?_; rw [HE.out]; rintro e w1 ⟨rfl, hb1⟩)
    | (refine st16 rfl _ _ rfl w1.heap.size (fun _ => 0) (fun _ => 0) rfl rfl (Bx.new w1 (row16 fun _ => 0) _ rfl) ?_; rintro w2 hw2 hB2; have HX2 := hid hB2; have HB2 : Hid (Below w.heap.size w w2) := (by rw [hw2]; exact Bl.puts (stA hb1 _) hb1.size _); clear hB2 hw2)
    | (go_at_call 7; refine (on_err a l.length c y _ HE'.out).mono ?_; rw [HE.out]; rintro e w3 ⟨rfl, rfl⟩)
    | (go_at_call 8; refine (whole_err a l.length c _ HN.out).mono ?_; rintro e w4 ⟨rfl, rfl⟩)
    | (go_at_call 9; refine (drawnLaw _).mono ?_; rintro e w5 ⟨rfl, hb5⟩; have HX5 := hid (HX2.out.kept hb5))
    | (refine ldG16 (by rfl) _ rfl w1.heap.size (fun _ => 0) rfl HX5.out ?_))
  go_ret
  exact ⟨rfl, stp HB2.out hb5⟩
/-- What the law holds: the line, the lines, the list. -/
structure PlW (w : World) (bl br B : Nat) (fl : Nat → Nat) (m : List UInt8) (sv : Value) (ks : List Nat) (W : World) : Prop where
  low : Below w.heap.size w W
  l : Bx W bl (row16 fl)
  r : RwW W br m 8
  o : W.ownsRow B 3 1 sv ks.length (ics ks)
theorem PlW.kept {w W w1 : World} {bl br B : Nat} {fl : Nat → Nat} {m : List UInt8} {sv : Value} {ks : List Nat} (h : PlW w bl br B fl m sv ks W) (hb : Below W.heap.size W w1) : PlW w bl br B fl m sv ks w1 := ⟨stp h.low hb, h.l.kept hb, h.r.kept hb, own_int_kept h.o hb⟩
set_option maxRecDepth 100000 in
set_option maxHeartbeats 6400000 in
theorem line_range (m : List UInt8) (v : Value) (y : Int) (w : World) (h : sliceAt w v m) (hm : m.length = 256) (hy : ¬ (0 ≤ y ∧ y < 8)) :
    Calls Try.prog 3 #[v, .int .i64 y] w fun e w' => e = .returned (.bool true) ∧ Below w.heap.size w w' := by
  obtain ⟨g, o, c, hM⟩ := Mm.of h hm
  have hcap : 256 ≤ c := by
    rcases h with ⟨a, cap, _, h2⟩ | ⟨g', o', cap, h1, h2, _⟩
    · rw [h2] at hm; cases hm
    · have := hM.v.symm.trans h1
      simp only [Value.slice.injEq] at this
      rw [this.2.2, ← hm]; exact h2
  have H := hid hM
  obtain ⟨rfl, hl, hz, hc⟩ := hM
  have HE : Hid (ckP 256 y = 3) := by unfold ckP; rw [if_pos rfl, if_neg hy]; rfl
  have HE' : Hid ((ckP 256 y != 0) = true) := by rw [HE.out]; rfl
  have ez := eqz16
  clear hc h
  go_enter Try.func3, Try.ntmps3
  go_upto_block 0 with (first
    | (go_at_call 6; refine (line_err _ 256 c y _ HE'.out).mono ?_; rw [HE.out]; rintro e w1 ⟨rfl, hb1⟩)
    | (refine st16 rfl _ _ rfl w1.heap.size (fun _ => 0) (fun _ => 0) rfl rfl (Bx.new w1 (row16 fun _ => 0) _ rfl) ?_; rintro w2 hw2 hB2; have HX2 := hid hB2; have HB2 : Hid (Below w.heap.size w w2) := (by rw [hw2]; exact Bl.puts (stA hb1 _) hb1.size _); clear hB2 hw2)
    | (go_at_call 7; refine (on_err _ 256 c y _ HE'.out).mono ?_; rw [HE.out]; rintro e w3 ⟨rfl, rfl⟩)
    | (go_at_call 8; refine (whole_ok m _ g o c _ (H.out.kept HB2.out)).mono ?_; rintro e w4 ⟨br, rfl, hr, hb4⟩; have HP4 : Hid (PlW w w1.heap.size br 0 (fun _ => 0) m (.slice none 0 0) [] w4) := ⟨stp HB2.out hb4, HX2.out.kept hb4, hr, ⟨rfl, Or.inl ⟨rfl, rfl⟩⟩⟩; clear hr hb4)
    | (go_at_call 9; refine (drawnLaw _).mono ?_; rintro e w5 ⟨rfl, hb5⟩; have HP5 := hid (HP4.out.kept hb5); clear hb5))
  go_cut [76] (fun _ W => PlW w w1.heap.size br 0 (fun _ => 0) m (.slice none 0 0) [] W)
  case first =>
    go_wp2_with fail
    go_loopw [76] (fun i W => ∃ j : Nat, j ≤ 8 ∧ i = .int .i64 j ∧ PlW w w1.heap.size br 0 (fun _ => 0) m (.slice none 0 0) [] W) (fun i _ => 8 - (intOf i).toNat)
    case atStart => exact ⟨0, Nat.zero_le _, rfl, HP5.out⟩
    case round =>
      clear HP5
      obtain ⟨j, hj, rfl, hP⟩ := hrel
      have HP := hid hP
      clear hP
      by_cases h8 : j < 8
      · have h8' : (j : Int) < 8 := by omega
        go_upto_region 13 with (first
          | (refine ld16o rfl _ rfl br (j * 16) (px m j) rfl (HP.out.r.row j h8) ?_)
          | (refine st16 rfl _ _ rfl wr.heap.size (px m j) (fun _ => 0) rfl rfl (Bx.new wr (row16 fun _ => 0) _ rfl) ?_; rintro w6 hw6 hB6; have HX6 := hid hB6; have HQ6 : Hid (Below wr.heap.size wr w6) := (by rw [hw6]; exact Bl.puts (stA (st0 wr) _) (Nat.le_refl _) _); have HP6 := hid (HP.out.kept HQ6.out); clear hB6 hw6))
        go_simp
        go_cut [85] (fun cc W => cc = .bool false ∧ PlW w w1.heap.size br 0 (fun _ => 0) m (.slice none 0 0) [] W)
        case first =>
          have hne := neq16 (px m j)
          have hU := Try.underlying23
          have hI : (Try.prog.info? 23).map (·.size) = some (row16 (px m j)).length := by rw [row16_len]; exact info16
          have HM6 := hid ((H.out.kept HP6.out.low).kept (st0 w6).drew)
          have K0 := hid HX6.out.c
          have K1 := hid HX6.out.drew.c
          go_region_held3 (fun w' => w'.rangeAt wr.heap.size 0 (row16 (px m j)))
            (first
              | with_reducible exact K0.out
              | with_reducible exact K1.out
              | with_reducible exact K9.out)
            ((go_at_call 10; refine (lineOf_any m _ g o c j _ HM6.out hcap h8).mono ?_; rintro e w9 ⟨rfl, hb9⟩; have K9 := hid (HX6.out.drew.kept hb9).c; have HP9 := hid ((HP6.out.kept (st0 w6).drew).kept hb9); clear hb9))
          all_goals (go_wp2_with fail; go_meet)
          all_goals exact ⟨rfl, HP9.out⟩
        case rest =>
        obtain ⟨rfl, hP⟩ := hcut
        have HP7 := hid hP
        clear hP HP6 HX6 HQ6 HP
        go_wp2
        exact ⟨⟨j + 1, h8, by go_num, HP7.out⟩, by simp [intOf]; omega⟩
      · have h9 : ¬ (j : Int) < 8 := by omega
        have e8 : j = 8 := by omega
        subst e8
        go_wp2
        go_meet
        exact HP.out
  case rest =>
  have HP := hid hcut
  clear hcut HP5 HP4 HX2 HB2
  by_cases hy0 : y < 0
  · go_wp2_with (refine ldG16 (by rfl) _ rfl w1.heap.size (fun _ => 0) rfl HP.out.l ?_)
    go_ret
    exact ⟨rfl, HP.out.low⟩
  · have hy7 : (7 : Int) < y := by omega
    go_wp2_with (refine ldG16 (by rfl) _ rfl w1.heap.size (fun _ => 0) rfl HP.out.l ?_)
    go_ret
    exact ⟨rfl, HP.out.low⟩
set_option maxRecDepth 100000 in
set_option maxHeartbeats 6400000 in
theorem line_good (m : List UInt8) (v : Value) (Y : Nat) (w : World) (h : sliceAt w v m) (hm : m.length = 256) (hy : Y < 8) :
    Calls Try.prog 3 #[v, .int .i64 Y] w fun e w' => e = .returned (.bool true) ∧ Below w.heap.size w w' := by
  obtain ⟨g, o, c, hM⟩ := Mm.of h hm
  have hcap : 256 ≤ c := by
    rcases h with ⟨a, cap, _, h2⟩ | ⟨g', o', cap, h1, h2, _⟩
    · rw [h2] at hm; cases hm
    · have := hM.v.symm.trans h1
      simp only [Value.slice.injEq] at this
      rw [this.2.2, ← hm]; exact h2
  have H := hid hM
  obtain ⟨rfl, hl, hz, hc⟩ := hM
  obtain ⟨L, hL⟩ : ∃ L, L = drS m Y 8 := ⟨_, rfl⟩
  obtain ⟨ks, hks⟩ : ∃ ks, ks = L.take 2 := ⟨_, rfl⟩
  obtain ⟨more, hmo⟩ : ∃ b, b = decide (2 < L.length) := ⟨_, rfl⟩
  have hbool : (more == decide ((2 : Int) < (L.length : Int))) = true := by
    rw [hmo]
    have : decide (2 < L.length) = decide ((2 : Int) < (L.length : Int)) := by rw [decide_eq_decide]; omega
    rw [this]; simp
  have klen : ks.length ≤ 2 := by rw [hks, List.length_take]; omega
  have kle : ks.length ≤ L.length := by rw [hks, List.length_take]; omega
  have hmin : min (2 : Int) (L.length : Int) = (ks.length : Int) := by rw [hks, List.length_take]; omega
  have HAt : Hid (∀ j k, ks[j]? = some k → L[j]? = some k) := fun j k hj => by
    rw [hks, List.getElem?_take] at hj
    split at hj
    · exact hj
    · cases hj
  have HKL : Hid (ks ≠ [] → L ≠ []) := fun hn hh => hn (by rw [hks, hh]; rfl)
  have HL := hid hL
  have HOn : Hid ((drS m Y 8).take 2 = ks ∧ decide (2 < (drS m Y 8).length) = more) := ⟨by rw [hks, hL], by rw [hmo, hL]⟩
  have HMin := hid hmin
  clear hL hks hmin hc h hmo
  go_enter Try.func3, Try.ntmps3
  go_upto_block 0 with (first
    | (go_at_call 6; refine (line_ok m _ g o c Y _ H.out hy).mono ?_; rintro e w1 ⟨rfl, hb1⟩)
    | (refine st16 rfl _ _ rfl w1.heap.size (px m Y) (fun _ => 0) rfl rfl (Bx.new w1 (row16 fun _ => 0) _ rfl) ?_; rintro w2 hw2 hB2; have HX2 := hid hB2; have HB2 : Hid (Below w.heap.size w w2) := (by rw [hw2]; exact Bl.puts (stA hb1 _) hb1.size _); clear hB2 hw2)
    | (go_at_call 7; refine (on_ok m _ g o c Y _ (H.out.kept HB2.out) hy).mono ?_; rw [HOn.out.1, HOn.out.2]; rintro e w3 ⟨s, rfl, hown, hb3⟩; have HO3 := hid hown; have HB3 := hid hb3; obtain ⟨sa, sc, rfl⟩ := own_len hown; clear hown hb3)
    | (go_at_call 8; refine (whole_ok m _ g o c _ (H.out.kept (stp HB2.out HB3.out))).mono ?_; rintro e w4 ⟨br, rfl, hr, hb4⟩; have HP4 : Hid (PlW w w1.heap.size br w2.heap.size (px m Y) m (.slice sa ks.length sc) ks w4) := ⟨stp (stp HB2.out HB3.out) hb4, (HX2.out.kept HB3.out).kept hb4, hr, own_int_kept HO3.out hb4⟩; clear hr hb4)
    | (go_at_call 9; refine (drawnLaw _).mono ?_; rintro e w5 ⟨rfl, hb5⟩; have HP5 := hid (HP4.out.kept hb5); clear hb5))
  go_cut [76] (fun _ W => PlW w w1.heap.size br w2.heap.size (px m Y) m (.slice sa ks.length sc) ks W)
  case first =>
    go_wp2_with fail
    go_loopw [76] (fun i W => ∃ j : Nat, j ≤ 8 ∧ i = .int .i64 j ∧ PlW w w1.heap.size br w2.heap.size (px m Y) m (.slice sa ks.length sc) ks W) (fun i _ => 8 - (intOf i).toNat)
    case atStart => exact ⟨0, Nat.zero_le _, rfl, HP5.out⟩
    case round =>
      clear HP5
      obtain ⟨j, hj, rfl, hP⟩ := hrel
      have HP := hid hP
      clear hP
      by_cases h8 : j < 8
      · have h8' : (j : Int) < 8 := by omega
        go_upto_region 13 with (first
          | (refine ld16o rfl _ rfl br (j * 16) (px m j) rfl (HP.out.r.row j h8) ?_)
          | (refine st16 rfl _ _ rfl wr.heap.size (px m j) (fun _ => 0) rfl rfl (Bx.new wr (row16 fun _ => 0) _ rfl) ?_; rintro w6 hw6 hB6; have HX6 := hid hB6; have HQ6 : Hid (Below wr.heap.size wr w6) := (by rw [hw6]; exact Bl.puts (stA (st0 wr) _) (Nat.le_refl _) _); have HP6 := hid (HP.out.kept HQ6.out); clear hB6 hw6))
        go_simp
        go_cut [85] (fun cc W => cc = .bool false ∧ PlW w w1.heap.size br w2.heap.size (px m Y) m (.slice sa ks.length sc) ks W)
        case first =>
          have hne := neq16 (px m j)
          have hU := Try.underlying23
          have hI : (Try.prog.info? 23).map (·.size) = some (row16 (px m j)).length := by rw [row16_len]; exact info16
          have HM6 := hid ((H.out.kept HP6.out.low).kept (st0 w6).drew)
          have K0 := hid HX6.out.c
          have K1 := hid HX6.out.drew.c
          go_region_held3 (fun w' => w'.rangeAt wr.heap.size 0 (row16 (px m j)))
            (first
              | with_reducible exact K0.out
              | with_reducible exact K1.out
              | with_reducible exact K9.out)
            ((go_at_call 10; refine (lineOf_any m _ g o c j _ HM6.out hcap h8).mono ?_; rintro e w9 ⟨rfl, hb9⟩; have K9 := hid (HX6.out.drew.kept hb9).c; have HP9 := hid ((HP6.out.kept (st0 w6).drew).kept hb9); clear hb9))
          all_goals (go_wp2_with fail; go_meet)
          all_goals exact ⟨rfl, HP9.out⟩
        case rest =>
        obtain ⟨rfl, hP⟩ := hcut
        have HP7 := hid hP
        clear hP HP6 HX6 HQ6 HP
        go_wp2
        exact ⟨⟨j + 1, h8, by go_num, HP7.out⟩, by simp [intOf]; omega⟩
      · have h9 : ¬ (j : Int) < 8 := by omega
        have e8 : j = 8 := by omega
        subst e8
        go_wp2
        go_meet
        exact HP.out
  case rest =>
  have HP := hid hcut
  clear hcut HP5 HP4 HX2 HB2 HO3 HB3
  have hy1 : ¬ (Y : Int) < 0 := by omega
  have hy2 : ¬ (7 : Int) < (Y : Int) := by omega
  go_upto_region 19 with (go_at_call 11; refine (drawnOn_any m _ g o c Y _ (H.out.kept HP.out.low) hy).mono ?_; rw [← HL.out]; rintro e w7 ⟨s, rfl, hown, hb7⟩; obtain ⟨sb, sd, gl, rfl, hsd, hsb⟩ := own_lst hown; have HSb := hid hsb; have HP7 := hid (HP.out.kept hb7); clear hown hb7 hsb)
  have hmin := HMin.out
  have m1 : (0 : Int) ≤ ks.length := Int.natCast_nonneg _
  have m2 : (ks.length : Int) ≤ sd := Int.ofNat_le.2 (Nat.le_trans kle hsd)
  have heq := eq16 (px m Y)
  have hU := Try.underlying23
  have hI : (Try.prog.info? 23).map (·.size) = some (row16 (px m Y)).length := by rw [row16_len]; exact info16
  have HM7 := hid ((H.out.kept HP7.out.low).kept (st0 w7).drew)
  have HP7d := hid (HP7.out.kept (st0 w7).drew)
  have K0 := hid HP7.out.l.c
  have K1 := hid HP7d.out.l.c
  have hk100 : ks.length ≤ 100 := by omega
  go_region_held3 (fun w' => w'.rangeAt w1.heap.size 0 (row16 (px m Y)))
    (first
      | with_reducible exact K0.out
      | with_reducible exact K1.out
      | with_reducible exact K9.out
      | with_reducible exact KA.out)
    (first
      | (go_at_call 10; refine (lineOf_any m _ g o c Y _ HM7.out hcap hy).mono ?_; rintro e w9 ⟨rfl, hb9⟩; have K9 := hid (HP7d.out.kept hb9).l.c; have HP9 := hid (HP7d.out.kept hb9); have HB9 := hid ((st0 w7).drew.trans hb9); clear hb9)
      | (go_at_call 12; refine (equalInt _ _ ks _ HP9.out.o sb sd rfl (fun hn => ⟨gl, (HSb.out (HKL.out hn)).1, fun j k hj => ((HSb.out (HKL.out hn)).2.2.kept HB9.out).c j k (HAt.out j k hj)⟩) hk100).mono ?_; rintro e wA ⟨rfl, q, rfl⟩; have HPA := hid (HP9.out.kept (Bl.drewN (st0 w9) q)); have KA := hid HPA.out.l.c))
  all_goals
    go_wp2
    go_ret
    exact ⟨by first | rfl | (rw [hbool]), by first | exact HPA.out.low | exact HPA.out.low.drew⟩
end Go.Proofs.Ytcdemkafbphdbaa
