/-
  The Go text of the law ToneParts returns true.
-/
import Derived.Test.YtjmmbbehjklhgaaTonU
import Derived.Deep.DeepCutAuto
namespace Go.Proofs.Ytjmmbbehjklhgaa
open Go.ChangeShapes Go.WideShapes Go.ChangeAt Go.RowKit
set_option linter.unusedVariables false

theorem three15 {W : World} {b : Nat} {x : Sd} (h : Bx W b (scs x)) : W.rangeAt b 0 [.int .u16 x.a.p, .int .u16 x.a.c, .int .u8 x.a.l, .bool x.a.h, .int .u16 x.a.n, .int .u16 x.b.p, .int .u16 x.b.c, .int .u8 x.b.l, .bool x.b.h, .int .u16 x.b.n, .int .u16 x.c.p, .int .u16 x.c.c, .int .u8 x.c.l, .bool x.c.h, .int .u16 x.c.n] := h.mid 0 15
theorem equal_eq (v1 v2 : Value) (l : List UInt8) (w : World) (h1 : sliceAt w v1 l) (h2 : sliceAt w v2 l) : Calls Try.prog 15 #[v1, v2] w fun e w' => e = .returned (.bool true) ∧ w = w' := by
  have := equal_any v1 v2 l l w h1 h2
  simpa using this

set_option maxRecDepth 100000 in
set_option maxHeartbeats 3200000 in
theorem parts_ok (s : Sd) (A B : Nat) (w : World) (h : s.fit) (hab : A + B ≤ 20000) :
    Calls Try.prog 5 #[(.agg #[.int .u16 s.a.p, .int .u16 s.a.c, .int .u8 s.a.l, .bool s.a.h, .int .u16 s.a.n, .int .u16 s.b.p, .int .u16 s.b.c, .int .u8 s.b.l, .bool s.b.h, .int .u16 s.b.n, .int .u16 s.c.p, .int .u16 s.c.c, .int .u8 s.c.l, .bool s.c.h, .int .u16 s.c.n, .int .i64 s.w]), .int .i64 A, .int .i64 B] w fun e w' => e = .returned (.bool true) ∧ Below w.heap.size w w' := by
  have hs3 := fun W => samples_ok s (A + B) W h hab
  rw [show ((A + B : Nat) : Int) = (A : Int) + B by omega] at hs3
  have HF := hid h
  have g1 : decide ((A : Int) < 0) = false := decide_eq_false (by omega)
  have g2 : decide ((B : Int) < 0) = false := decide_eq_false (by omega)
  have g3 : decide ((20000 : Int) < A) = false := decide_eq_false (by omega)
  have g4 : decide ((20000 : Int) - A < B) = false := decide_eq_false (by omega)
  have HZ : Hid ((s.ticks A).ticks B = s.ticks (A + B)) := Sd.ticks_add s A B
  have HM : Hid (sms s (A + B) = sms s A ++ sms (s.ticks A) B) := sms_add s A B
  have LK := hid (sms_len s A)
  have LL := hid (sms_len (s.ticks A) B)
  have HFX := hid (Sd.ticks_fit h A)
  go_enter Try.func5, Try.ntmps5
  go_upto_region 3 with (go_at_call 12; refine (check_ok s _ h.w).mono ?_; rintro e w0 ⟨rfl, hb0⟩)
  go_cut [7, 8, 9] (fun vk px e W => ∃ ka kc bx, vk = .slice ka (sms s A).length kc ∧ px = .pointer (some ⟨bx, 0, none⟩) ∧ e = .int .i64 0 ∧ P1 w bx s (s.ticks A) (.slice ka (sms s A).length kc) (sms s A) W)
  case first =>
    refine Pl.cutW (fun W => Below w.heap.size w W ∧ Bx W w.heap.size (scs s)) ⟨stp (stA (st0 w) _) hb0, (Bx.new w (scs s) _ rfl).kept hb0⟩ ?_
    rintro W ⟨hlow, hbs⟩
    have HLO := hid hlow
    have HBS := hid hbs
    clear hlow hbs hb0
    go_wp2_with (first
      | (refine wpList_load_mid rfl 27 _ rfl w.heap.size 0 rfl (scs s) _ HBS.out.c Try.underlying27 rfl info_sound ?_)
      | (go_at_call 8; refine (samples_ok s A _ HF.out (by omega)).mono ?_; rintro e w1 ⟨v1, rfl, hsl, hb1⟩; have HSL := hid hsl; obtain ⟨ka, kc, hve⟩ := slice_len hsl; subst hve; clear hsl))
    go_meet
    exact ⟨ka, kc, w1.heap.size, rfl, rfl, rfl, ⟨stA (stp HLO.out hb1) _, (HBS.out.kept hb1).over _, Bx.new w1 (scs (s.ticks A)) 27 rfl⟩, HSL.out.kept (stA (st0 w1) _)⟩
  case rest =>
  obtain ⟨ka, kc, bx, rfl, rfl, rfl, hP1⟩ := hcut
  have HP1 := hid hP1
  clear hP1 hb0 g1 g2 g3 g4
  go_upto_region 4 with fail
  go_cut [10, 11, 12] (fun vl py e W => ∃ la lc b_y, vl = .slice la (sms (s.ticks A) B).length lc ∧ py = .pointer (some ⟨b_y, 0, none⟩) ∧ e = .int .i64 0 ∧ P2 w bx b_y s (s.ticks A) (s.ticks (A + B)) (.slice ka (sms s A).length kc) (.slice la (sms (s.ticks A) B).length lc) (sms s A) (sms (s.ticks A) B) W)
  case first =>
    go_wp2_with (first
      | (refine wpList_load_mid rfl 27 _ rfl bx 0 rfl (scs (s.ticks A)) _ HP1.out.x.c Try.underlying27 rfl info_sound ?_)
      | (go_at_call 8; refine (samples_ok (s.ticks A) B _ HFX.out (by omega)).mono ?_; rintro e w2 ⟨v1, rfl, hsl, hb2⟩; have HSL := hid hsl; obtain ⟨la, lc, hve⟩ := slice_len hsl; subst hve; clear hsl))
    go_meet
    exact ⟨la, lc, w2.heap.size, rfl, rfl, rfl, (HP1.out.kept hb2).kept (stA (st0 w2) _), (by rw [← HZ.out]; exact Bx.new w2 (scs ((s.ticks A).ticks B)) 27 rfl), HSL.out.kept (stA (st0 w2) _)⟩
  case rest =>
  obtain ⟨la, lc, b_y, rfl, rfl, rfl, hP2⟩ := hcut
  have HP2 := hid hP2
  clear hP2 HP1
  go_upto_region 5 with fail
  go_cut [13, 14, 15] (fun vm pz e W => ∃ ma mc bz, vm = .slice ma (sms s (A + B)).length mc ∧ pz = .pointer (some ⟨bz, 0, none⟩) ∧ e = .int .i64 0 ∧ P3 w bx b_y bz s (s.ticks A) (s.ticks (A + B)) (s.ticks (A + B)) (.slice ka (sms s A).length kc) (.slice la (sms (s.ticks A) B).length lc) (.slice ma (sms s (A + B)).length mc) (sms s A) (sms (s.ticks A) B) (sms s (A + B)) W)
  case first =>
    go_wp2_with (first
      | (refine wpList_load_mid rfl 27 _ rfl w.heap.size 0 rfl (scs s) _ HP2.out.s.c Try.underlying27 rfl info_sound ?_)
      | (go_at_call 8; refine (hs3 _).mono ?_; rintro e w3 ⟨v1, rfl, hsl, hb3⟩; have HSL := hid hsl; obtain ⟨ma, mc, hve⟩ := slice_len hsl; subst hve; clear hsl))
    go_meet
    exact ⟨ma, mc, w3.heap.size, rfl, rfl, rfl, (HP2.out.kept hb3).kept (stA (st0 w3) _), Bx.new w3 (scs (s.ticks (A + B))) 27 rfl, HSL.out.kept (stA (st0 w3) _)⟩
  case rest =>
  obtain ⟨ma, mc, bz, rfl, rfl, rfl, hP3⟩ := hcut
  have HP3 := hid hP3
  clear hP3 HP2 hs3
  have hnz := neq_soundL (s.ticks (A + B))
  have HLB : Hid ((sms s A).length + (sms (s.ticks A) B).length ≤ 100000) := Nat.le_trans (Nat.add_le_add LK.out LL.out) (by omega)
  have i0 := v3_0
  have i1 := v3_1
  have i2 := v3_2
  have HN0 : Hid ((s.ticks (A + B)).a.n = 0 ↔ s.a.n = 0) := by rw [(Sd.ticks_parts s (A + B)).1]; exact Vc.later_n0 s.a h.a _
  have HN1 : Hid ((s.ticks (A + B)).b.n = 0 ↔ s.b.n = 0) := by rw [(Sd.ticks_parts s (A + B)).2.1]; exact Vc.later_n0 s.b h.b _
  have HN2 : Hid ((s.ticks (A + B)).c.n = 0 ↔ s.c.n = 0) := by rw [(Sd.ticks_parts s (A + B)).2.2]; exact Vc.later_n0 s.c h.c _
  go_upto_region 6 with fail
  go_cut [90] (fun c W => c = .bool false ∧ P3 w bx b_y bz s (s.ticks A) (s.ticks (A + B)) (s.ticks (A + B)) (.slice ka (sms s A).length kc) (.slice la (sms (s.ticks A) B).length lc) (.slice ma (sms s (A + B)).length mc) (sms s A) (sms (s.ticks A) B) (sms s (A + B)) W)
  case first =>
    go_wp2_with (first
      | (refine loadG (by rfl) 27 (.tmp 11) rfl b_y 0 rfl (scs (s.ticks (A + B))) _ HP5.out.y.c Try.underlying27 rfl info_sound ?_)
      | (refine loadG (by rfl) 27 (.tmp 14) rfl bz 0 rfl (scs (s.ticks (A + B))) _ HP5.out.z.c Try.underlying27 rfl info_sound ?_)
      | (go_at_call 9; refine (sounded_any _).mono ?_; rintro e w4 ⟨rfl, hb4⟩; have HP4 := hid ((HP3.out.kept hb4).kept (stA (st0 w4) (.cells #[.slice ka (sms s A).length kc, .slice la (sms (s.ticks A) B).length lc] 31))))
      | (go_at_call 18; refine (concat_two w4.heap.size _ _ (sms s A) (sms (s.ticks A) B) _ HP4.out.k HP4.out.l (Pl.new _ _ _ _ rfl) (Pl.new _ _ _ _ rfl) HLB.out).mono ?_; rintro e w5 ⟨v5, rfl, hs5, hb5⟩; have HS5 := hid hs5; clear hs5; have HP5 := hid (HP4.out.kept hb5))
      | (go_at_call 15; refine (equal_eq _ _ (sms s A ++ sms (s.ticks A) B) _ HS5.out (HM.out ▸ HP5.out.m)).mono ?_; rintro e w6 ⟨rfl, rfl⟩))
    go_meet
    exact ⟨rfl, HP5.out⟩
  case rest =>
  obtain ⟨rfl, hP5⟩ := hcut
  have HP5 := hid hP5
  clear hP5 HP3
  go_wp2_with (refine wpList_load_mid rfl 25 _ rfl w.heap.size 0 rfl _ _ (three15 HP5.out.s) under_three rfl info_three ?_)
  go_loopw [93] (fun i wr => (i = .int .i64 0 ∧ P3 w bx b_y bz s (s.ticks A) (s.ticks (A + B)) (s.ticks (A + B)) (.slice ka (sms s A).length kc) (.slice la (sms (s.ticks A) B).length lc) (.slice ma (sms s (A + B)).length mc) (sms s A) (sms (s.ticks A) B) (sms s (A + B)) wr) ∨ (i = .int .i64 1 ∧ P3 w bx b_y bz s (s.ticks A) (s.ticks (A + B)) (s.ticks (A + B)) (.slice ka (sms s A).length kc) (.slice la (sms (s.ticks A) B).length lc) (.slice ma (sms s (A + B)).length mc) (sms s A) (sms (s.ticks A) B) (sms s (A + B)) wr) ∨ (i = .int .i64 2 ∧ P3 w bx b_y bz s (s.ticks A) (s.ticks (A + B)) (s.ticks (A + B)) (.slice ka (sms s A).length kc) (.slice la (sms (s.ticks A) B).length lc) (.slice ma (sms s (A + B)).length mc) (sms s A) (sms (s.ticks A) B) (sms s (A + B)) wr) ∨ (i = .int .i64 3 ∧ P3 w bx b_y bz s (s.ticks A) (s.ticks (A + B)) (s.ticks (A + B)) (.slice ka (sms s A).length kc) (.slice la (sms (s.ticks A) B).length lc) (.slice ma (sms s (A + B)).length mc) (sms s A) (sms (s.ticks A) B) (sms s (A + B)) wr)) (fun i _ => 3 - (intOf i).toNat)
  case atStart => exact Or.inl ⟨rfl, HP5.out⟩
  case round =>
    clear HP5
    rcases hrel with ⟨rfl, hP⟩ | ⟨rfl, hP⟩ | ⟨rfl, hP⟩ | ⟨rfl, hP⟩
    · obtain ⟨c0, c1, c2, c3, c4, tz, tf⟩ := hP.z.w0
      have HPP := hid hP
      clear hP
      by_cases hq : s.a.n = 0
      · have q1 : (s.a.n == 0) = true := by simpa using hq
        have q2 : ((s.ticks (A + B)).a.n == 0) = true := by have := (HN0.out).2 hq; simpa using this
        clear hq
        go_wp2
        go_quiet (fail)
        go_wp2
        exact ⟨Or.inr (Or.inl ⟨rfl, HPP.out.kept (Bl.drewN (stA (st0 wr) _) _)⟩), by decide⟩
      · have q1 : (s.a.n == 0) = false := by simpa using hq
        have q2 : ((s.ticks (A + B)).a.n == 0) = false := by have := fun e => hq ((HN0.out).1 e); simpa using this
        clear hq
        go_wp2
        go_quiet (fail)
        go_wp2
        exact ⟨Or.inr (Or.inl ⟨rfl, HPP.out.kept (Bl.drewN (stA (st0 wr) _) _)⟩), by decide⟩
    · obtain ⟨c0, c1, c2, c3, c4, tz, tf⟩ := hP.z.w1
      have HPP := hid hP
      clear hP
      by_cases hq : s.b.n = 0
      · have q1 : (s.b.n == 0) = true := by simpa using hq
        have q2 : ((s.ticks (A + B)).b.n == 0) = true := by have := (HN1.out).2 hq; simpa using this
        clear hq
        go_wp2
        go_quiet (fail)
        go_wp2
        exact ⟨Or.inr (Or.inr (Or.inl ⟨rfl, HPP.out.kept (Bl.drewN (stA (st0 wr) _) _)⟩)), by decide⟩
      · have q1 : (s.b.n == 0) = false := by simpa using hq
        have q2 : ((s.ticks (A + B)).b.n == 0) = false := by have := fun e => hq ((HN1.out).1 e); simpa using this
        clear hq
        go_wp2
        go_quiet (fail)
        go_wp2
        exact ⟨Or.inr (Or.inr (Or.inl ⟨rfl, HPP.out.kept (Bl.drewN (stA (st0 wr) _) _)⟩)), by decide⟩
    · obtain ⟨c0, c1, c2, c3, c4, tz, tf⟩ := hP.z.w2
      have HPP := hid hP
      clear hP
      by_cases hq : s.c.n = 0
      · have q1 : (s.c.n == 0) = true := by simpa using hq
        have q2 : ((s.ticks (A + B)).c.n == 0) = true := by have := (HN2.out).2 hq; simpa using this
        clear hq
        go_wp2
        go_quiet (fail)
        go_wp2
        exact ⟨Or.inr (Or.inr (Or.inr ⟨rfl, HPP.out.kept (Bl.drewN (stA (st0 wr) _) _)⟩)), by decide⟩
      · have q1 : (s.c.n == 0) = false := by simpa using hq
        have q2 : ((s.ticks (A + B)).c.n == 0) = false := by have := fun e => hq ((HN2.out).1 e); simpa using this
        clear hq
        go_wp2
        go_quiet (fail)
        go_wp2
        exact ⟨Or.inr (Or.inr (Or.inr ⟨rfl, HPP.out.kept (Bl.drewN (stA (st0 wr) _) _)⟩)), by decide⟩
    · have HPP := hid hP
      clear hP
      go_wp2
      go_ret
      exact ⟨rfl, HPP.out.low⟩
end Go.Proofs.Ytjmmbbehjklhgaa
