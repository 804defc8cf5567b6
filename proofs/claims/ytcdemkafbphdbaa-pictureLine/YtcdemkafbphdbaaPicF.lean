/-
  Package picture: a line's pixels, walked.
-/
import Derived.Test.YtcdemkafbphdbaaPicE
namespace Go.Proofs.Ytcdemkafbphdbaa
open Go.ChangeShapes Go.WideShapes Go.ChangeAt Go.RowKit
set_option linter.unusedVariables false

/-- A list of numbers in a block. -/
structure Lst (W : World) (gl : Nat) (ks : List Nat) : Prop where
  z : gl < W.heap.size
  c : ∀ j k, ks[j]? = some k → W.cell? ⟨gl, j, none⟩ = some (.int .i64 (k : Nat))
theorem Lst.kept {W w1 : World} {gl : Nat} {ks : List Nat} (h : Lst W gl ks) (hb : Below W.heap.size W w1) : Lst w1 gl ks := ⟨Nat.lt_of_lt_of_le h.z hb.size, fun j k hj => (hb.cell (p := ⟨gl, j, none⟩) h.z).trans (h.c j k hj)⟩
theorem Lst.far {W : World} {gl : Nat} {ks : List Nat} (h : Lst W gl ks) {b o : Nat} (hne : b ≠ gl) (v : Value) : Lst (W.setCell ⟨b, o, none⟩ v) gl ks := ⟨by simpa using h.z, fun j k hj => (World.cell?_setCell_far W _ _ v hne).trans (h.c j k hj)⟩
theorem Lst.of {W : World} {B : Nat} {v : Value} {ks : List Nat} (h : W.ownsRow B 3 1 v ks.length (ics ks)) (h0 : ks ≠ []) : ∃ gl c, v = .slice (some ⟨gl, 0, none⟩) ks.length c ∧ B ≤ gl ∧ Lst W gl ks := by
  rcases h.2 with ⟨rfl, h2⟩ | ⟨g, cap, cur, rfl, hb, hg, hn, hm, hs, ht⟩
  · exact absurd (List.length_eq_zero_iff.1 h2) h0
  · refine ⟨g, cap, rfl, hb, (Array.getElem?_eq_some_iff.1 hg).1, fun j k hj => ?_⟩
    have hjl := (List.getElem?_eq_some_iff.1 hj).1
    rw [Lib.cell_of_heap hg j]
    have e : cur[j]? = (cur.toList.take (ks.length * 1))[j]? := by rw [List.getElem?_take, if_pos (by omega)]; simp
    rw [e, ht, ics, List.getElem?_map, hj]
    rfl
theorem P0W.init {w w1 w2 : World} {m : List UInt8} {y : Nat} {t : TypeId} (hb1 : Below (w.alloc (.cells (row16 fun _ => 0).toArray t)).heap.size (w.alloc (.cells (row16 fun _ => 0).toArray t)) w1)
    (hw2 : w2 = (w1.alloc (.cells (row16 fun _ => 0).toArray t)).setCells w1.heap.size 0 (row16 (gd m y))) (hB : Bx w2 w1.heap.size (row16 (gd m y))) :
    P0W w m y w1.heap.size w2.heap.size (fun i => if i < 0 then gb m (160 + gd m y i) else 0) (w2.alloc (.cells (row16 fun _ => 0).toArray t)) := by
  have hs : w.heap.size < w1.heap.size := Nat.lt_of_lt_of_le (by simp) hb1.size
  refine ⟨stA ?_ _, Bx.over ?_ _, hB.over _, ?_, hs, hB.z⟩
  · rw [hw2]; exact Bl.puts (stA (stp (stA (st0 w) _) hb1) _) (by omega) _
  · rw [hw2]; exact (((Bx.new w (row16 fun _ => 0) t rfl).kept hb1).over _).fars (by omega) _ _
  · exact Bx.new w2 (row16 fun _ => 0) t rfl
theorem P0W.step {w W : World} {m : List UInt8} {y bg bo x : Nat} (h : P0W w m y bg bo (fun i => if i < x then gb m (160 + gd m y i) else 0) W) (hx : x < 16) : P0W w m y bg bo (fun i => if i < x + 1 then gb m (160 + gd m y i) else 0) (W.setCell ⟨bo, x, none⟩ (.int .u8 (gb m (160 + gd m y x)))) := by
  refine (h.put x _ hx).congr fun i hi => ?_
  by_cases e : i = x
  · subst e; simp
  · simp only [if_neg e]
    by_cases hlt : i < x
    · rw [if_pos hlt, if_pos (by omega)]
    · rw [if_neg hlt, if_neg (by omega)]
/-- While a sprite is drawn. -/
structure InW (w : World) (m : List UInt8) (y bg bo bt gl bs : Nat) (ks pre : List Nat) (k i : Nat) (W : World) : Prop extends PxW w m y bg bo bt (mxN m y pre k i) (mxB m y pre k i) W where
  s : Bx W bs (scS m k)
  d4 : bt < bs
  l : Lst W gl ks
  d5 : bt < gl
section
variable {w W w1 : World} {m : List UInt8} {y bg bo bt gl bs : Nat} {ks pre : List Nat} {k i : Nat}
theorem InW.same (h : InW w m y bg bo bt gl bs ks pre k i W) (e : (∀ x, x < 16 → mxN m y pre k i x = mxN m y pre k (i + 1) x) ∧ (∀ x, x < 16 → mxB m y pre k i x = mxB m y pre k (i + 1) x)) : InW w m y bg bo bt gl bs ks pre k (i + 1) W :=
  ⟨h.toPxW.congr e.1 e.2, h.s, h.d4, h.l, h.d5⟩
theorem InW.hid (h : InW w m y bg bo bt gl bs ks pre k i W) (hx : clS m k + i < 16) (e : (∀ x, x < 16 → mxN m y pre k i x = mxN m y pre k (i + 1) x) ∧ (∀ x, x < 16 → (if x = clS m k + i then true else mxB m y pre k i x) = mxB m y pre k (i + 1) x)) : InW w m y bg bo bt gl bs ks pre k (i + 1) (W.setCell ⟨bt, clS m k + i, none⟩ (.bool true)) := by
  have h4 := h.d4
  have h5 := h.d5
  exact ⟨(h.toPxW.take _ hx).congr e.1 e.2, h.s.far (by omega) _, h4, h.l.far (by omega) _, h5⟩
theorem InW.seen (h : InW w m y bg bo bt gl bs ks pre k i W) (hx : clS m k + i < 16) (e : (∀ x, x < 16 → (if x = clS m k + i then gb m (164 + sdS m y k i) else mxN m y pre k i x) = mxN m y pre k (i + 1) x) ∧ (∀ x, x < 16 → (if x = clS m k + i then true else mxB m y pre k i x) = mxB m y pre k (i + 1) x)) : InW w m y bg bo bt gl bs ks pre k (i + 1) ((W.setCell ⟨bt, clS m k + i, none⟩ (.bool true)).setCell ⟨bo, clS m k + i, none⟩ (.int .u8 (gb m (164 + sdS m y k i)))) := by
  have h3 := h.d3
  have h4 := h.d4
  have h5 := h.d5
  exact ⟨((h.toPxW.take _ hx).put _ _ hx).congr e.1 e.2, (h.s.far (by omega) _).far (by omega) _, h4, (h.l.far (by omega) _).far (by omega) _, h5⟩
end
set_option maxRecDepth 100000 in
set_option maxHeartbeats 3200000 in
theorem pixels_any (m : List UInt8) (v : Value) (g o c : Nat) (y : Nat) (w : World) (h : Mm w m v g o c) (hy : y < 8) :
    Calls Try.prog 15 #[v, .int .i64 y] w fun e w' => e = .returned (.agg (row16 (px m y)).toArray) ∧ Below w.heap.size w w' := by
  have H := hid h
  obtain ⟨rfl, hl, hz, hc⟩ := h
  obtain ⟨ks, hks⟩ : ∃ ks, ks = (drS m y 8).take 2 := ⟨_, rfl⟩
  have HKs : Hid (∀ k ∈ ks, k < 8 ∧ onS m y k = true) := fun k hk => by rw [hks] at hk; exact ⟨drS_lt (List.mem_of_mem_take hk), drS_on (List.mem_of_mem_take hk)⟩
  have HPx : px m y = pxL m y ks := by funext x; rw [hks]; rfl
  have klen : ks.length ≤ 2 := by rw [hks, List.length_take]; omega
  rw [HPx]
  have HKe := hid hks
  clear hc hks HPx
  go_enter Try.func15, Try.ntmps15
  go_wp2_with (first
    | (go_at_call 21; refine (ground_any m _ g o c y _ (H.out.kept (stA (st0 w) _)) hy).mono ?_; rintro e w1 ⟨rfl, hb1⟩)
    | (refine st16 rfl _ _ rfl w1.heap.size (gd m y) (fun _ => 0) rfl rfl (Bx.new w1 (row16 fun _ => 0) _ rfl) ?_; rintro w2 hw2 hB2; have HB2 := hid hB2; have HW2 := hid hw2; clear hB2 hw2)
    | (refine ld16 rfl _ rfl w1.heap.size (gd m y) rfl (HB2.out.over _) ?_))
  have HP0 : Hid (P0W w m y w1.heap.size w2.heap.size (fun i => if i < 0 then gb m (160 + gd m y i) else 0) (w2.alloc (.cells (row16 fun _ => 0).toArray 23))) := P0W.init hb1 HW2.out HB2.out
  clear hb1 HW2 HB2
  go_loopw [22] (fun i wr => ∃ x : Nat, x ≤ 16 ∧ i = .int .i64 x ∧ P0W w m y w1.heap.size w2.heap.size (fun i => if i < x then gb m (160 + gd m y i) else 0) wr) (fun i _ => 16 - (intOf i).toNat)
  case atStart => exact ⟨0, Nat.zero_le _, rfl, HP0.out⟩
  case round =>
    clear HP0
    obtain ⟨x, hx, rfl, hP⟩ := hrel
    have HP := hid hP
    clear hP
    by_cases h16 : x < 16
    · have h16' : (x : Int) < 16 := by omega
      have hd := gd_lt m y x
      have ix := fun W => idx16 (gd m y) x h16 W
      have c0 := (H.out.kept HP.out.low).c (160 + gd m y x) (by omega)
      have c1 := HP.out.o.at x _ (row16_at _ h16)
      have f1 := HP.out.o.f x
      go_wp2
      exact ⟨⟨x + 1, h16, by go_num, HP.out.step h16⟩, by simp [intOf]; omega⟩
    · have h17 : ¬ (x : Int) < 16 := by omega
      have e16 : x = 16 := by omega
      subst e16
      clear hx h16 h17
      go_wp2_with (first
        | (go_at_call 16; refine (drawn_any m _ g o c y _ (H.out.kept (stA HP.out.low _)) hy).mono ?_; rw [← HKe.out]; rintro e w4 ⟨s, rfl, hown, hb4⟩; have HOwn := hid hown; have HB4 := hid hb4; obtain ⟨sa, sc, rfl⟩ := own_len hown; clear hown hb4))
      have HX0 : Hid (PxW w m y w1.heap.size w2.heap.size wr.heap.size (pxL m y []) (tkL m y []) w4) := by
        have hb := (HP.out.over (.cells (brow16 fun _ => false).toArray 47)).congr (fo' := pxL m y []) (fun x hx => by rw [if_pos hx]; rfl)
        exact (⟨hb, Bx.new wr (brow16 fun _ => false) _ rfl, HP.out.o.z⟩ : PxW w m y w1.heap.size w2.heap.size wr.heap.size (pxL m y []) (tkL m y []) _).kept HB4.out
      obtain ⟨bt, hbt⟩ : ∃ bt, bt = wr.heap.size := ⟨_, rfl⟩
      have HBt := hid hbt
      rw [← hbt] at HX0
      rw [← hbt]
      clear HP HB4 hz hl hbt
      by_cases hk0 : ks = []
      · subst hk0
        go_loopw [43] (fun i W => i = .int .i64 0 ∧ PxW w m y w1.heap.size w2.heap.size bt (pxL m y []) (tkL m y []) W) (fun _ _ => 0)
        case atStart => exact ⟨rfl, HX0.out⟩
        case round =>
          obtain ⟨rfl, hX⟩ := hrel
          have HX := hid hX
          clear hX HX0
          go_wp2_with (first
            | (refine ld16 rfl _ rfl _ _ rfl HX.out.o ?_)
            | (refine st16 rfl _ _ rfl w.heap.size (pxL m y []) _ rfl rfl HX.out.r ?_; rintro w' hw' hB'; have HB' := hid hB'; have HW' := hid hw'; clear hB' hw'))
          have hl := lv16 HB'.out
          refine bodyPost_ret (v := .agg (row16 (pxL m y [])).toArray) ?_ rfl ⟨rfl, ?_⟩
          · simp only [results, Try.results15]
            simp
            exact hl
          · rw [HW'.out]; exact Bl.puts HX.out.low (Nat.le_refl _) _
      · obtain ⟨gl, lc, hse, hgl, hLst⟩ := Lst.of HOwn.out hk0
        simp only [Value.slice.injEq] at hse
        obtain ⟨rfl, _, rfl⟩ := hse
        have HL0 : Hid (bt < gl) := Nat.lt_of_lt_of_le (by rw [HBt.out]; simp) hgl
        have HLs := hid hLst
        clear HOwn hgl hLst hk0
        go_loopw [43] (fun i W => ∃ j : Nat, j ≤ ks.length ∧ i = .int .i64 j ∧ PxW w m y w1.heap.size w2.heap.size bt (pxL m y (ks.take j)) (tkL m y (ks.take j)) W ∧ Lst W gl ks) (fun i _ => ks.length - (intOf i).toNat)
        case atStart => exact ⟨0, Nat.zero_le _, rfl, HX0.out, HLs.out⟩
        case round =>
          clear HX0 HLs
          obtain ⟨j, hj, rfl, hX, hL⟩ := hrel
          have HX := hid hX
          have HL := hid hL
          clear hX hL
          by_cases hjl : j < ks.length
          · have hjl' : (j : Int) < ks.length := by omega
            obtain ⟨k, hk⟩ : ∃ k, ks[j]? = some k := ⟨ks[j], List.getElem?_eq_getElem hjl⟩
            have HK := hid (HKs.out k (List.mem_of_getElem? hk))
            have hcl := HL.out.c j k hk
            have HJ : Hid (ks.take (j + 1) = ks.take j ++ [k]) := by rw [List.take_add_one, hk]; rfl
            clear hk
            go_wp2_with (first
              | (go_at_call 22; refine (spriteOf_any m _ g o c k _ (H.out.kept HX.out.low) HK.out.1).mono ?_; rintro e w5 ⟨rfl, hb5⟩; have HX5 := hid (HX.out.kept hb5); have HL5 := hid (HL.out.kept hb5); clear hb5)
              | (go_at_call 23; refine (dots_any m _ g o c k y _ (H.out.kept (stA HX5.out.low _)) HK.out.2 hy).mono ?_; rintro e w6 ⟨rfl, hb6⟩; have HB6 := hid hb6; clear hb6))
            have HI0 : Hid (InW w m y w1.heap.size w2.heap.size bt gl w5.heap.size ks (ks.take j) k 0 w6) :=
              ⟨((HX5.out.over _).kept HB6.out).congr (fun x _ => (mxN_zero x).symm) (fun x _ => (mxB_zero x).symm), (Bx.new w5 (scS m k) 49 rfl).kept HB6.out, HX5.out.t.z, (HL5.out.kept (stA (st0 w5) _)).kept HB6.out, HL0.out⟩
            clear HX HL HX5 HL5 HB6 hcl
            go_loopw [54] (fun i W => ∃ n : Nat, n ≤ 4 ∧ i = .int .i64 n ∧ InW w m y w1.heap.size w2.heap.size bt gl w5.heap.size ks (ks.take j) k n W) (fun i _ => 4 - (intOf i).toNat)
            case atStart => exact ⟨0, Nat.zero_le _, rfl, HI0.out⟩
            case round =>
              clear HI0
              obtain ⟨n, hn, rfl, hI⟩ := hrel
              have HI := hid hI
              clear hI
              by_cases h4 : n < 4
              · have h4' : (n : Int) < 4 := by omega
                have ix := fun W => idx4 (sdS m y k) n h4 W
                have hcb : clS m k < 256 := gb_lt _ _
                have s1 := HI.out.s.at 1 _ rfl
                by_cases hR : 16 ≤ clS m k + n
                · have hR' : (16 : Int) ≤ (clS m k : Int) + n := by omega
                  go_wp2
                  exact ⟨⟨n + 1, h4, by go_num, HI.out.same (mx_right hR)⟩, by simp [intOf]; omega⟩
                · have hR' : ¬ (16 : Int) ≤ (clS m k : Int) + n := by omega
                  have hX : clS m k + n < 16 := by omega
                  have hsl := sdS_lt m y k n
                  by_cases hd : sdS m y k n = 0
                  · have hd' : ((sdS m y k n : Int) == 0) = true := by rw [hd]; rfl
                    have HD := hid hd
                    clear hd
                    go_wp2
                    exact ⟨⟨n + 1, h4, by go_num, HI.out.same (mx_none h4 HD.out)⟩, by simp [intOf]; omega⟩
                  · have hd' : ((sdS m y k n : Int) == 0) = false := by simp; omega
                    have HD := hid hd
                    clear hd
                    have ct := HI.out.t.at (clS m k + n) _ (brow16_at _ hX)
                    rw [mxB_at] at ct
                    cases ht : tkL m y (ks.take j) (clS m k + n) with
                    | true =>
                      rw [ht] at ct
                      have HT := hid ht
                      clear ht
                      go_wp2
                      exact ⟨⟨n + 1, h4, by go_num, HI.out.same (mx_taken HT.out)⟩, by simp [intOf]; omega⟩
                    | false =>
                      rw [ht] at ct
                      have HT := hid ht
                      clear ht
                      have ft := HI.out.t.f (clS m k + n)
                      have s5 := (HI.out.s.far (b' := bt) (o' := clS m k + n) (Nat.ne_of_lt HI.out.d4) (.bool true)).at 5 _ rfl
                      have cg := (HI.out.g.far (b' := bt) (o' := clS m k + n) (Nat.ne_of_gt (Nat.lt_trans HI.out.d2 HI.out.d3)) (.bool true)).at _ _ (row16_at _ hX)
                      have co := (HI.out.o.far (b' := bt) (o' := clS m k + n) (Nat.ne_of_gt HI.out.d3) (.bool true)).at _ _ (row16_at _ hX)
                      have fo := (HI.out.o.far (b' := bt) (o' := clS m k + n) (Nat.ne_of_gt HI.out.d3) (.bool true)).f (clS m k + n)
                      have cm := (H.out.kept (HI.out.toPxW.take _ hX).low).c (164 + sdS m y k n) (by omega)
                      by_cases hbh : 128 ≤ hwS m k
                      · rw [decide_eq_true hbh] at s5
                        by_cases hg0 : gd m y (clS m k + n) = 0
                        · have hg' : ((gd m y (clS m k + n) : Int) == 0) = true := by rw [hg0]; rfl
                          have HS := hid (mx_seen h4 HD.out HT.out (fun hh => hh.2 hg0))
                          clear hg0
                          go_wp2
                          exact ⟨⟨n + 1, h4, by go_num, HI.out.seen hX HS.out⟩, by simp [intOf]; omega⟩
                        · have hg' : ((gd m y (clS m k + n) : Int) == 0) = false := by simp; omega
                          have HS := hid (mx_hidden h4 HD.out HT.out hbh hg0)
                          clear hg0
                          go_wp2
                          exact ⟨⟨n + 1, h4, by go_num, HI.out.hid hX HS.out⟩, by simp [intOf]; omega⟩
                      · rw [decide_eq_false hbh] at s5
                        have HS := hid (mx_seen h4 HD.out HT.out (fun hh => hbh hh.1))
                        go_wp2
                        exact ⟨⟨n + 1, h4, by go_num, HI.out.seen hX HS.out⟩, by simp [intOf]; omega⟩
              · have h9 : ¬ (n : Int) < 4 := by omega
                have e4 : n = 4 := by omega
                subst e4
                clear h4 hn
                go_wp2
                refine ⟨⟨j + 1, hjl, by go_num, ?_, HI.out.l⟩, by simp [intOf]; omega⟩
                rw [HJ.out]
                exact HI.out.toPxW.congr (fun x _ => mxN_four x) (fun x _ => mxB_four x)
          · have hj9 : ¬ (j : Int) < ks.length := by omega
            have ej : ks.take j = ks := List.take_of_length_le (by omega)
            rw [ej] at HX
            clear ej
            go_wp2_with (first
              | (refine ld16 rfl _ rfl _ _ rfl HX.out.o ?_)
              | (refine st16 rfl _ _ rfl w.heap.size (pxL m y ks) _ rfl rfl HX.out.r ?_; rintro w' hw' hB'; have HB' := hid hB'; have HW' := hid hw'; clear hB' hw'))
            have hl := lv16 HB'.out
            refine bodyPost_ret (v := .agg (row16 (pxL m y ks)).toArray) ?_ rfl ⟨rfl, ?_⟩
            · simp only [results, Try.results15]
              simp
              exact hl
            · rw [HW'.out]; exact Bl.puts HX.out.low (Nat.le_refl _) _
end Go.Proofs.Ytcdemkafbphdbaa
