/-
  Parts of a proof, joined.
-/
import Derived.Test.YtlibaekomndmoaaSb34
namespace Go.Proofs.Ytlibaekomndmoaa
open Go.ChangeShapes Go.WideShapes Go.ChangeAt Go.RowKit
set_option linter.unusedVariables false
set_option maxRecDepth 100000
theorem rd_inv2 {l l' : List UInt8} {xs : List Ct} (h : rdL svK l = some (xs, l')) : ∃ M : Mach, svX M = xs ∧ M.ok ∧ l = enc M ++ l' ∧ ∀ j, j < 5 → (M.byt j).length ≤ 65535 := by
  obtain ⟨M, e, hok, e2⟩ := rd_inv h
  refine ⟨M, e, hok, e2, fun j hj => ?_⟩
  have ho := (rdL_inv _ _ _ _ h).2.1
  rw [← e] at ho
  rcases five hj with rfl | rfl | rfl | rfl | rfl
  · exact ho (.lst M.mrom) (List.mem_of_getElem? (i := 30) (l := svX M) rfl)
  · exact ho (.lst M.arom) (List.mem_of_getElem? (i := 31) (l := svX M) rfl)
  · exact ho (.lst M.ram) (List.mem_of_getElem? (i := 32) (l := svX M) rfl)
  · exact ho (.lst M.own) (List.mem_of_getElem? (i := 33) (l := svX M) rfl)
  · exact ho (.lst M.video) (List.mem_of_getElem? (i := 34) (l := svX M) rfl)
theorem Sv.of_any (v : Value) (l : List UInt8) (hl : l.length ≤ 9223372036854775807) :
    (∃ X : Mach, X.ok ∧ X.chk = 0 ∧ l = enc X) ∨ (∀ W, sliceAt W v l → Calls Try.prog 6 #[v] W fun e w' => e = .returned (.tuple #[.agg (machL zeroM nilS).toArray, .int .i64 7]) ∧ Below W.heap.size W w') := by
  cases hrd : rdL svK l with
  | none => exact Or.inr (fun W h => Sv.of_no v l W h (fun W' h' => Sv.read_torn v l W' h' hl hrd))
  | some p =>
    obtain ⟨xs, lx⟩ := p
    by_cases hx : lx = []
    · subst hx
      obtain ⟨X, e, hok, e2, hlen⟩ := rd_inv2 hrd
      subst e
      rw [List.append_nil] at e2
      by_cases hc : X.chk = 0
      · exact Or.inl ⟨X, hok, hc, e2⟩
      · exact Or.inr (fun W h => Sv.of_bad v l W h X (fun j hj => by have := hlen j hj; omega) hc (fun W' h' => Sv.read_ok v l W' h' hl X hrd))
    · exact Or.inr (fun W h => Sv.of_no v l W h (fun W' h' => Sv.read_more v l W' h' hl xs lx hrd hx))
theorem Sv.none_any (w : World) : Calls Try.prog 10 #[.agg (machL zeroM nilS).toArray] w fun e w' => e = .returned (.bool true) ∧ Below w.heap.size w w' := by
  have HB := hid (Bx.new w (machL zeroM nilS) 41 (b := w.heap.size) rfl)
  have HL : Hid (Below w.heap.size w (w.alloc (.cells (machL zeroM nilS).toArray 41))) := hid (stA (st0 w) _)
  have hz : ∀ W, SlAt W nilS zeroM := fun W j hj => by rcases five hj with rfl | rfl | rfl | rfl | rfl <;> exact Or.inl ⟨none, 0, rfl, rfl⟩
  go_enter Try.func10, Try.ntmps10
  go_wp2_with (first
    | (refine wpList_load_mid rfl 41 _ rfl w.heap.size 0 rfl (machL zeroM nilS) _ HB.out.c Try.underlying41 rfl info_mach ?_)
    | (go_at_call 9; refine (Bu.same_any zeroM nilS nilS _ (hz _) (hz _)).mono ?_; rintro e w1 ⟨rfl, hb1⟩; have HL1 := hid (stp HL.out hb1); clear hb1))
  go_ret
  exact ⟨rfl, HL1.out⟩
structure LW (w : World) (M : Mach) (S : Sl) (v : Value) (l : List UInt8) (Y : World) : Prop where
  low : Below w.heap.size w Y
  bx : Bx Y w.heap.size (machL M S)
  sl : SlAt Y S M
  b : sliceAt Y v l
theorem LW.kept {w : World} {M : Mach} {S : Sl} {v : Value} {l : List UInt8} {Y Y' : World} (h : LW w M S v l Y) (hb : Below Y.heap.size Y Y') : LW w M S v l Y' := ⟨stp h.low hb, h.bx.kept hb, h.sl.kept hb, h.b.kept hb⟩
theorem zero_slat (W : World) : SlAt W nilS zeroM := fun j hj => by rcases five hj with rfl | rfl | rfl | rfl | rfl <;> exact Or.inl ⟨none, 0, rfl, rfl⟩
set_option maxHeartbeats 3200000 in
theorem Sv.law_bad_no (M : Mach) (S : Sl) (v : Value) (l : List UInt8) (w : World) (hs : SlAt w S M) (hz : ∀ j, j < 5 → (M.byt j).length ≤ 9223372036854775807) (hv : sliceAt w v l) (hc : M.chk ≠ 0) (hof : ∀ W, sliceAt W v l → Calls Try.prog 6 #[v] W fun e w' => e = .returned (.tuple #[.agg (machL zeroM nilS).toArray, .int .i64 7]) ∧ Below W.heap.size W w') :
    Calls Try.prog 3 #[.agg (machL M S).toArray, v] w fun e w' => e = .returned (.bool true) ∧ Below w.heap.size w w' := by
  obtain ⟨ba, bc, ev⟩ := slice_len hv
  subst ev
  have hy0 : LW w M S (.slice ba l.length bc) l (w.alloc (.cells (machL M S).toArray 41)) := ⟨stA (st0 w) _, Bx.new w _ _ rfl, hs.kept (stA (st0 w) _), hv.kept (stA (st0 w) _)⟩
  have HY0 := hid hy0
  have HZ := hid hz
  have HBB := hid (Sv.bytes_bad M S _ hy0.sl hz hc)
  have HCK : Hid (∀ W, SlAt W S M → Calls Try.prog 8 #[.agg (machL M S).toArray] W fun e w' => e = .returned (.int .i64 M.chk) ∧ Below W.heap.size W w') := hid (fun W h => Bu.check_any M S W h.lens hz)
  have hne : (M.chk != 0) = true := by simpa using hc
  generalize M.chk = ce at *
  have hee : (ce != ce) = false := by simp
  clear hc
  have HOF := hid hof
  clear hof
  clear hs hz hv hy0
  go_enter Try.func3, Try.ntmps3
  go_wp2_with (first
    | (go_at_call 10; refine (Sv.none_any _).mono ?_; rintro e w8 ⟨rfl, hb8⟩; have HL8 := hid (stp HYf.out.low hb8); clear hb8)
    | (refine Bu.loadG rfl 41 _ rfl wx.heap.size 0 rfl (machL zeroM nilS) _ HXf.out.bx.c Try.underlying41 rfl info_mach ?_)
    | (go_at_call 8; refine (HCK.out _ HY4.out.sl).mono ?_; rintro e w5 ⟨rfl, hb5⟩; have HYf := hid (HY4.out.kept hb5); have HXf := hid (HX4.out.kept hb5); clear hb5)
    | (refine wpList_load_mid rfl 41 _ rfl w.heap.size 0 rfl (machL M S) _ HY4.out.bx.c Try.underlying41 rfl info_mach ?_)
    | (go_at_call 7; refine (Sv.saved _).mono ?_; rintro e w4 ⟨rfl, hb4⟩; have HY4 := hid (HY3.out.kept hb4); have HX4 := hid (HX3.out.kept hb4); clear hb4)
    | (refine wpList_store_mid rfl 41 _ _ rfl wx.heap.size 0 (machL zeroM nilS).toArray rfl rfl (MS.th wx _) info_mach (machL_one _ _ zero_sl) ?_; refine Pl.cutL (fun V => LW w M S (.slice ba l.length bc) l V ∧ MS w wx.heap.size zeroM nilS V) ⟨HY2.out.kept (MS.mk0 HY2.out.low (zero_slat _) _).1, (MS.mk0 HY2.out.low (zero_slat _) _).2⟩ ?_; rintro Y3 ⟨q1, q2⟩; have HY3 := hid q1; have HX3 := hid q2; clear q1 q2)
    | (go_at_call 6; refine (HOF.out _ HY1.out.b).mono ?_; rintro e wx ⟨rfl, hb2⟩; have HY2 := hid (HY1.out.kept hb2); clear hb2)
    | (go_at_call 5; refine HBB.out.mono ?_; rintro e w1 ⟨rfl, hb1⟩; have HY1 := hid (HY0.out.kept hb1); clear hb1)
    | (refine wpList_load_mid rfl 41 _ rfl w.heap.size 0 rfl (machL M S) _ HY0.out.bx.c Try.underlying41 rfl info_mach ?_))
  go_ret
  exact ⟨rfl, HL8.out⟩
set_option maxHeartbeats 3200000 in
theorem Sv.law_bad_ok (M : Mach) (S : Sl) (v : Value) (l : List UInt8) (w : World) (hs : SlAt w S M) (hz : ∀ j, j < 5 → (M.byt j).length ≤ 9223372036854775807) (hv : sliceAt w v l) (hc : M.chk ≠ 0) (X : Mach) (hxo : X.ok) (hxc : X.chk = 0) (hxe : l = enc X) :
    Calls Try.prog 3 #[.agg (machL M S).toArray, v] w fun e w' => e = .returned (.bool true) ∧ Below w.heap.size w w' := by
  obtain ⟨ba, bc, ev⟩ := slice_len hv
  subst ev
  have hy0 : LW w M S (.slice ba l.length bc) l (w.alloc (.cells (machL M S).toArray 41)) := ⟨stA (st0 w) _, Bx.new w _ _ rfl, hs.kept (stA (st0 w) _), hv.kept (stA (st0 w) _)⟩
  have HY0 := hid hy0
  have HZ := hid hz
  have HBB := hid (Sv.bytes_bad M S _ hy0.sl hz hc)
  have HCK : Hid (∀ W, SlAt W S M → Calls Try.prog 8 #[.agg (machL M S).toArray] W fun e w' => e = .returned (.int .i64 M.chk) ∧ Below W.heap.size W w') := hid (fun W h => Bu.check_any M S W h.lens hz)
  have hne : (M.chk != 0) = true := by simpa using hc
  generalize M.chk = ce at *
  have hee : (ce != ce) = false := by simp
  clear hc
  have HXO := hid hxo
  have HXC := hid hxc
  have HXE := hid hxe
  clear hxo hxc hxe
  clear hs hz hv hy0
  go_enter Try.func3, Try.ntmps3
  go_wp2_with (first
    | (go_at_call 5; refine (Sv.bytes_ok X SX _ HXf.out.sl HXO.out HXC.out).mono ?_; rintro e w8 ⟨kv, rfl, hk8, hb8⟩; obtain ⟨ka, kc, ek⟩ := slice_len (slice_of_own hk8); subst ek; have HK8 := hid (slice_of_own hk8); have HY8 := hid (HYf.out.kept hb8); obtain ⟨kn, hkn⟩ : ∃ kn, kn = (enc X).length := ⟨_, rfl⟩; have HKN := hid hkn; rw [← hkn]; clear hk8 hb8 hkn)
    | (go_at_call 11; refine (equal_any _ _ (enc X) l _ (HKN.out ▸ HK8.out) HY8.out.b).mono ?_; rw [HXE.out]; rintro e w9 ⟨rfl, rfl⟩)
    | (refine wpList_load_mid rfl 41 _ rfl wx.heap.size 0 rfl (machL X SX) _ HXf.out.bx.c Try.underlying41 rfl info_mach ?_)
    | (go_at_call 8; refine (HCK.out _ HY4.out.sl).mono ?_; rintro e w5 ⟨rfl, hb5⟩; have HYf := hid (HY4.out.kept hb5); have HXf := hid (HX4.out.kept hb5); clear hb5)
    | (refine wpList_load_mid rfl 41 _ rfl w.heap.size 0 rfl (machL M S) _ HY4.out.bx.c Try.underlying41 rfl info_mach ?_)
    | (go_at_call 7; refine (Sv.saved _).mono ?_; rintro e w4 ⟨rfl, hb4⟩; have HY4 := hid (HY3.out.kept hb4); have HX4 := hid (HX3.out.kept hb4); clear hb4)
    | (refine wpList_store_mid rfl 41 _ _ rfl wx.heap.size 0 (machL X SX).toArray rfl rfl (MS.th wx _) info_mach (machL_one _ _ HSX.out.isSl2) ?_; refine Pl.cutL (fun V => LW w M S (.slice ba l.length bc) l V ∧ MS w wx.heap.size X SX V) ⟨HY2.out.kept (MS.mk0 HY2.out.low HSX.out _).1, (MS.mk0 HY2.out.low HSX.out _).2⟩ ?_; rintro Y3 ⟨q1, q2⟩; have HY3 := hid q1; have HX3 := hid q2; clear q1 q2)
    | (go_at_call 6; refine (Sv.of_enc _ X _ (HXE.out ▸ HY1.out.b) HXO.out HXC.out).mono ?_; rintro e wx ⟨SX, rfl, hsx, hb2⟩; have HSX := hid hsx.at; have HY2 := hid (HY1.out.kept hb2); clear hsx hb2)
    | (go_at_call 5; refine HBB.out.mono ?_; rintro e w1 ⟨rfl, hb1⟩; have HY1 := hid (HY0.out.kept hb1); clear hb1)
    | (refine wpList_load_mid rfl 41 _ rfl w.heap.size 0 rfl (machL M S) _ HY0.out.bx.c Try.underlying41 rfl info_mach ?_))
  go_ret
  exact ⟨rfl, HY8.out.low⟩
set_option maxHeartbeats 3200000 in
theorem Sv.law_ok_no (M : Mach) (S : Sl) (v : Value) (l : List UInt8) (w : World) (hs : SlAt w S M) (hz : ∀ j, j < 5 → (M.byt j).length ≤ 9223372036854775807) (hv : sliceAt w v l) (hok : M.ok) (hc : M.chk = 0) (hof : ∀ W, sliceAt W v l → Calls Try.prog 6 #[v] W fun e w' => e = .returned (.tuple #[.agg (machL zeroM nilS).toArray, .int .i64 7]) ∧ Below W.heap.size W w') :
    Calls Try.prog 3 #[.agg (machL M S).toArray, v] w fun e w' => e = .returned (.bool true) ∧ Below w.heap.size w w' := by
  obtain ⟨ba, bc, ev⟩ := slice_len hv
  subst ev
  have hy0 : LW w M S (.slice ba l.length bc) l (w.alloc (.cells (machL M S).toArray 41)) := ⟨stA (st0 w) _, Bx.new w _ _ rfl, hs.kept (stA (st0 w) _), hv.kept (stA (st0 w) _)⟩
  have HY0 := hid hy0
  have HZ := hid hz
  have HOK := hid hok
  have HC := hid hc
  have HLN := hid (enc_len (chk_fit hok hc)).2
  have HCK : Hid (∀ W, SlAt W S M → Calls Try.prog 8 #[.agg (machL M S).toArray] W fun e w' => e = .returned (.int .i64 0) ∧ Below W.heap.size W w') := hid (fun W h => by have := Bu.check_any M S W h.lens hz; rw [hc] at this; exact this)
  clear hok hc
  have HOF := hid hof
  clear hof
  clear hs hz hv hy0
  go_enter Try.func3, Try.ntmps3
  go_wp2_with (first
    | (go_at_call 10; refine (Sv.none_any _).mono ?_; rintro e w8 ⟨rfl, hb8⟩; have HL8 := hid (stp HYf.out.low hb8); clear hb8)
    | (refine Bu.loadG rfl 41 _ rfl wx.heap.size 0 rfl (machL zeroM nilS) _ HXf.out.bx.c Try.underlying41 rfl info_mach ?_)
    | (go_at_call 9; refine (Bu.same_any M S S2 _ HY7.out.sl HZ7.out.sl).mono ?_; rintro e w7 ⟨rfl, hb7⟩; have HYf := hid (HY7.out.kept hb7); have HXf := hid (HX7.out.kept hb7); clear hb7)
    | (refine Bu.loadG rfl 41 _ rfl w.heap.size 0 rfl (machL M S) _ HY7.out.bx.c Try.underlying41 rfl info_mach ?_)
    | (refine Bu.loadG rfl 41 _ rfl wy.heap.size 0 rfl (machL M S2) _ HZ7.out.bx.c Try.underlying41 rfl info_mach ?_)
    | (refine wpList_store_mid rfl 41 _ _ rfl wy.heap.size 0 (machL M S2).toArray rfl rfl (MS.th wy _) info_mach (machL_one _ _ HS6.out.isSl2) ?_; refine Pl.cutL (fun V => LW w M S (.slice ba l.length bc) l V ∧ MS w wx.heap.size zeroM nilS V ∧ MS w wy.heap.size M S2 V) ⟨HY6.out.kept (MS.mk0 HY6.out.low HS6.out _).1, HX6.out.kept (MS.mk0 HY6.out.low HS6.out _).1, (MS.mk0 HY6.out.low HS6.out _).2⟩ ?_; rintro Y7 ⟨q1, q2, q3⟩; have HY7 := hid q1; have HX7 := hid q2; have HZ7 := hid q3; clear q1 q2 q3)
    | (go_at_call 6; have hq9 := HY5.out.low; clear hq9; refine (Sv.of_enc _ M _ HV5.out HOK.out HC.out).mono ?_; rintro e wy ⟨S2, rfl, hs6, hb6⟩; have HS6 := hid hs6.at; have HY6 := hid (HY5.out.kept hb6); have HX6 := hid (HX5.out.kept hb6); clear hs6 hb6)
    | (go_at_call 8; refine (HCK.out _ HY4.out.sl).mono ?_; rintro e w5 ⟨rfl, hb5⟩; have HY5 := hid (HY4.out.kept hb5); have HX5 := hid (HX4.out.kept hb5); have HV5 := hid (HV4.out.kept hb5); clear hb5)
    | (refine wpList_load_mid rfl 41 _ rfl w.heap.size 0 rfl (machL M S) _ HY4.out.bx.c Try.underlying41 rfl info_mach ?_)
    | (go_at_call 7; refine (Sv.saved _).mono ?_; rintro e w4 ⟨rfl, hb4⟩; have HY4 := hid (HY3.out.kept hb4); have HX4 := hid (HX3.out.kept hb4); have HV4 := hid (HV3.out.kept hb4); clear hb4)
    | (refine wpList_store_mid rfl 41 _ _ rfl wx.heap.size 0 (machL zeroM nilS).toArray rfl rfl (MS.th wx _) info_mach (machL_one _ _ zero_sl) ?_; refine Pl.cutL (fun V => LW w M S (.slice ba l.length bc) l V ∧ MS w wx.heap.size zeroM nilS V ∧ sliceAt V (.slice va en vc) (enc M)) ⟨HY2.out.kept (MS.mk0 HY2.out.low (zero_slat _) _).1, (MS.mk0 HY2.out.low (zero_slat _) _).2, HV2.out.kept (MS.mk0 HY2.out.low (zero_slat _) _).1⟩ ?_; rintro Y3 ⟨q1, q2, q3⟩; have HY3 := hid q1; have HX3 := hid q2; have HV3 := hid q3; clear q1 q2 q3)
    | (go_at_call 6; refine (HOF.out _ HY1.out.b).mono ?_; rintro e wx ⟨rfl, hb2⟩; have HY2 := hid (HY1.out.kept hb2); have HV2 := hid (HV1.out.kept hb2); clear hb2)
    | (go_at_call 5; refine (Sv.bytes_ok M S _ HY0.out.sl HOK.out HC.out).mono ?_; rintro e w1 ⟨vv, rfl, hv1, hb1⟩; obtain ⟨va, vc, evv⟩ := slice_len (slice_of_own hv1); subst evv; have hv2 := slice_of_own hv1; obtain ⟨en, hen⟩ : ∃ en, en = (enc M).length := ⟨_, rfl⟩; rw [← hen] at hv2; rw [← hen]; have HEN := hid hen; have HV1 := hid hv2; have HY1 := hid (HY0.out.kept hb1); have hd4 : decide (4000 < (en : Int)) = false := (by rw [hen]; exact decide_eq_false (by have := HLN.out; omega)); clear hv1 hv2 hb1 hen)
    | (refine wpList_load_mid rfl 41 _ rfl w.heap.size 0 rfl (machL M S) _ HY0.out.bx.c Try.underlying41 rfl info_mach ?_))
  go_ret
  exact ⟨rfl, HL8.out⟩
set_option maxHeartbeats 3200000 in
theorem Sv.law_ok_ok (M : Mach) (S : Sl) (v : Value) (l : List UInt8) (w : World) (hs : SlAt w S M) (hz : ∀ j, j < 5 → (M.byt j).length ≤ 9223372036854775807) (hv : sliceAt w v l) (hok : M.ok) (hc : M.chk = 0) (X : Mach) (hxo : X.ok) (hxc : X.chk = 0) (hxe : l = enc X) :
    Calls Try.prog 3 #[.agg (machL M S).toArray, v] w fun e w' => e = .returned (.bool true) ∧ Below w.heap.size w w' := by
  obtain ⟨ba, bc, ev⟩ := slice_len hv
  subst ev
  have hy0 : LW w M S (.slice ba l.length bc) l (w.alloc (.cells (machL M S).toArray 41)) := ⟨stA (st0 w) _, Bx.new w _ _ rfl, hs.kept (stA (st0 w) _), hv.kept (stA (st0 w) _)⟩
  have HY0 := hid hy0
  have HZ := hid hz
  have HOK := hid hok
  have HC := hid hc
  have HLN := hid (enc_len (chk_fit hok hc)).2
  have HCK : Hid (∀ W, SlAt W S M → Calls Try.prog 8 #[.agg (machL M S).toArray] W fun e w' => e = .returned (.int .i64 0) ∧ Below W.heap.size W w') := hid (fun W h => by have := Bu.check_any M S W h.lens hz; rw [hc] at this; exact this)
  clear hok hc
  have HXO := hid hxo
  have HXC := hid hxc
  have HXE := hid hxe
  clear hxo hxc hxe
  clear hs hz hv hy0
  go_enter Try.func3, Try.ntmps3
  go_wp2_with (first
    | (go_at_call 5; refine (Sv.bytes_ok X SX _ HXf.out.sl HXO.out HXC.out).mono ?_; rintro e w8 ⟨kv, rfl, hk8, hb8⟩; obtain ⟨ka, kc, ek⟩ := slice_len (slice_of_own hk8); subst ek; have HK8 := hid (slice_of_own hk8); have HY8 := hid (HYf.out.kept hb8); obtain ⟨kn, hkn⟩ : ∃ kn, kn = (enc X).length := ⟨_, rfl⟩; have HKN := hid hkn; rw [← hkn]; clear hk8 hb8 hkn)
    | (go_at_call 11; refine (equal_any _ _ (enc X) l _ (HKN.out ▸ HK8.out) HY8.out.b).mono ?_; rw [HXE.out]; rintro e w9 ⟨rfl, rfl⟩)
    | (refine wpList_load_mid rfl 41 _ rfl wx.heap.size 0 rfl (machL X SX) _ HXf.out.bx.c Try.underlying41 rfl info_mach ?_)
    | (go_at_call 9; refine (Bu.same_any M S S2 _ HY7.out.sl HZ7.out.sl).mono ?_; rintro e w7 ⟨rfl, hb7⟩; have HYf := hid (HY7.out.kept hb7); have HXf := hid (HX7.out.kept hb7); clear hb7)
    | (refine Bu.loadG rfl 41 _ rfl w.heap.size 0 rfl (machL M S) _ HY7.out.bx.c Try.underlying41 rfl info_mach ?_)
    | (refine Bu.loadG rfl 41 _ rfl wy.heap.size 0 rfl (machL M S2) _ HZ7.out.bx.c Try.underlying41 rfl info_mach ?_)
    | (refine wpList_store_mid rfl 41 _ _ rfl wy.heap.size 0 (machL M S2).toArray rfl rfl (MS.th wy _) info_mach (machL_one _ _ HS6.out.isSl2) ?_; refine Pl.cutL (fun V => LW w M S (.slice ba l.length bc) l V ∧ MS w wx.heap.size X SX V ∧ MS w wy.heap.size M S2 V) ⟨HY6.out.kept (MS.mk0 HY6.out.low HS6.out _).1, HX6.out.kept (MS.mk0 HY6.out.low HS6.out _).1, (MS.mk0 HY6.out.low HS6.out _).2⟩ ?_; rintro Y7 ⟨q1, q2, q3⟩; have HY7 := hid q1; have HX7 := hid q2; have HZ7 := hid q3; clear q1 q2 q3)
    | (go_at_call 6; have hq9 := HY5.out.low; clear hq9; refine (Sv.of_enc _ M _ HV5.out HOK.out HC.out).mono ?_; rintro e wy ⟨S2, rfl, hs6, hb6⟩; have HS6 := hid hs6.at; have HY6 := hid (HY5.out.kept hb6); have HX6 := hid (HX5.out.kept hb6); clear hs6 hb6)
    | (go_at_call 8; refine (HCK.out _ HY4.out.sl).mono ?_; rintro e w5 ⟨rfl, hb5⟩; have HY5 := hid (HY4.out.kept hb5); have HX5 := hid (HX4.out.kept hb5); have HV5 := hid (HV4.out.kept hb5); clear hb5)
    | (refine wpList_load_mid rfl 41 _ rfl w.heap.size 0 rfl (machL M S) _ HY4.out.bx.c Try.underlying41 rfl info_mach ?_)
    | (go_at_call 7; refine (Sv.saved _).mono ?_; rintro e w4 ⟨rfl, hb4⟩; have HY4 := hid (HY3.out.kept hb4); have HX4 := hid (HX3.out.kept hb4); have HV4 := hid (HV3.out.kept hb4); clear hb4)
    | (refine wpList_store_mid rfl 41 _ _ rfl wx.heap.size 0 (machL X SX).toArray rfl rfl (MS.th wx _) info_mach (machL_one _ _ HSX.out.isSl2) ?_; refine Pl.cutL (fun V => LW w M S (.slice ba l.length bc) l V ∧ MS w wx.heap.size X SX V ∧ sliceAt V (.slice va en vc) (enc M)) ⟨HY2.out.kept (MS.mk0 HY2.out.low HSX.out _).1, (MS.mk0 HY2.out.low HSX.out _).2, HV2.out.kept (MS.mk0 HY2.out.low HSX.out _).1⟩ ?_; rintro Y3 ⟨q1, q2, q3⟩; have HY3 := hid q1; have HX3 := hid q2; have HV3 := hid q3; clear q1 q2 q3)
    | (go_at_call 6; refine (Sv.of_enc _ X _ (HXE.out ▸ HY1.out.b) HXO.out HXC.out).mono ?_; rintro e wx ⟨SX, rfl, hsx, hb2⟩; have HSX := hid hsx.at; have HY2 := hid (HY1.out.kept hb2); have HV2 := hid (HV1.out.kept hb2); clear hsx hb2)
    | (go_at_call 5; refine (Sv.bytes_ok M S _ HY0.out.sl HOK.out HC.out).mono ?_; rintro e w1 ⟨vv, rfl, hv1, hb1⟩; obtain ⟨va, vc, evv⟩ := slice_len (slice_of_own hv1); subst evv; have hv2 := slice_of_own hv1; obtain ⟨en, hen⟩ : ∃ en, en = (enc M).length := ⟨_, rfl⟩; rw [← hen] at hv2; rw [← hen]; have HEN := hid hen; have HV1 := hid hv2; have HY1 := hid (HY0.out.kept hb1); have hd4 : decide (4000 < (en : Int)) = false := (by rw [hen]; exact decide_eq_false (by have := HLN.out; omega)); clear hv1 hv2 hb1 hen)
    | (refine wpList_load_mid rfl 41 _ rfl w.heap.size 0 rfl (machL M S) _ HY0.out.bx.c Try.underlying41 rfl info_mach ?_))
  go_ret
  exact ⟨rfl, HY8.out.low⟩
end Go.Proofs.Ytlibaekomndmoaa
