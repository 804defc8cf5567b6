/-
  The Go text of the law ToneSilent returns true where samples are made.
-/
import Derived.Test.YtjmmbbehjklhgaaTonV
namespace Go.Proofs.Ytjmmbbehjklhgaa
open Go.ChangeShapes Go.WideShapes Go.ChangeAt Go.RowKit
set_option linter.unusedVariables false

set_option maxRecDepth 100000 in
set_option maxHeartbeats 3200000 in
theorem silent_ok (s : Sd) (w : World) (h : s.ok) (N : Nat) (hn : N ≤ 20000) (hh : 0 ≤ s.w ∧ s.w ≤ 15) :
    Calls Try.prog 6 #[(.agg #[.int .u16 s.a.p, .int .u16 s.a.c, .int .u8 s.a.l, .bool s.a.h, .int .u16 s.a.n, .int .u16 s.b.p, .int .u16 s.b.c, .int .u8 s.b.l, .bool s.b.h, .int .u16 s.b.n, .int .u16 s.c.p, .int .u16 s.c.c, .int .u8 s.c.l, .bool s.c.h, .int .u16 s.c.n, .int .i64 s.w]), .int .i64 N] w fun e w' => e = .returned (.bool true) ∧ Below w.heap.size w w' := by
  have HH := hid hh
  clear hh
  go_enter Try.func6, Try.ntmps6
  go_wp2
  go_loopw [10] (fun i wr => (i = .int .i64 0 ∧ SiW w s wr) ∨ (i = .int .i64 1 ∧ SiW w ⟨mu s.a, s.b, s.c, s.w⟩ wr) ∨ (i = .int .i64 2 ∧ SiW w ⟨mu s.a, mu s.b, s.c, s.w⟩ wr) ∨ (i = .int .i64 3 ∧ SiW w ⟨mu s.a, mu s.b, mu s.c, s.w⟩ wr)) (fun i _ => 3 - (intOf i).toNat)
  case atStart => exact Or.inl ⟨rfl, stA (st0 w) _, Bx.new w (scs s) _ rfl⟩
  case round =>
    rcases hrel with ⟨rfl, hS⟩ | ⟨rfl, hS⟩ | ⟨rfl, hS⟩ | ⟨rfl, hS⟩
    · obtain ⟨c0, c1, c2, c3, c4, tz, tf⟩ := hS.b.w0
      have HS := hid hS
      clear hS
      go_wp2
      exact ⟨Or.inr (Or.inl ⟨rfl, HS.out.mu0⟩), by decide⟩
    · obtain ⟨c0, c1, c2, c3, c4, tz, tf⟩ := hS.b.w1
      have HS := hid hS
      clear hS
      go_wp2
      exact ⟨Or.inr (Or.inr (Or.inl ⟨rfl, HS.out.mu1⟩)), by decide⟩
    · obtain ⟨c0, c1, c2, c3, c4, tz, tf⟩ := hS.b.w2
      have HS := hid hS
      clear hS
      go_wp2
      exact ⟨Or.inr (Or.inr (Or.inr ⟨rfl, HS.out.mu2⟩)), by decide⟩
    · obtain ⟨y, hy⟩ : ∃ y : Sd, y = ⟨mu s.a, mu s.b, mu s.c, s.w⟩ := ⟨_, rfl⟩
      have hk : y.ok := by rw [hy]; exact ⟨(mu_ok h.a).1, (mu_ok h.b).1, (mu_ok h.c).1⟩
      have hz : ∀ N, ∀ x ∈ sms y N, x = 0 := by rw [hy]; exact fun N => sms_still (mu_ok h.a).2 (mu_ok h.b).2 (mu_ok h.c).2 N
      have hyw : y.w = s.w := by rw [hy]
      rw [← hy] at hS
      clear hy h
      rw [← hyw] at HH
      clear hyw
      have HS := hid hS
      have HK := hid hk
      have HZ := hid hz
      clear hS hk hz
      have HF : Hid y.fit := ⟨HK.out, HH.out⟩
      have hw := HF.out.w
      have hcnt := (sms_count HF.out N).1
      have HB : Hid ((sms y N).length ≤ 100000) := Nat.le_trans (sms_len y N) (by omega)
      have HNN := hid hn
      have HFN := hid (Sd.ticks_fit HF.out N)
      by_cases hN : y.w < N
      · rw [if_pos hN] at hcnt
        have hlen : (((sms y N).length : Int) == ((N : Int) - y.w - 1) / 16 + 1) = true := by rw [hcnt]; simp
        clear hcnt
        go_wp2_with (first
          | (refine wpList_load_mid rfl 27 _ rfl w.heap.size 0 rfl (scs y) _ HS.out.b.c Try.underlying27 rfl info_sound ?_)
          | (refine loadG (by rfl) 27 (.tmp 7) rfl w1.heap.size 0 rfl (scs (y.ticks N)) _ HOUT.out.c Try.underlying27 rfl info_sound ?_)
          | (go_at_call 8; refine (samples_ok y N _ HF.out HNN.out).mono ?_; rintro e w1 ⟨v, rfl, hsl, hb1⟩; have HSL := hid hsl; obtain ⟨va, vc, hve⟩ := slice_len hsl; subst hve; clear hsl)
          | (go_at_call 9; refine (sounded_any _).mono ?_; rintro e w2 ⟨rfl, hb2⟩; have c15 := (((HS.out.kept hb1).b.over (.cells #[.int .u16 (y.ticks N).a.p, .int .u16 (y.ticks N).a.c, .int .u8 (y.ticks N).a.l, .bool (y.ticks N).a.h, .int .u16 (y.ticks N).a.n, .int .u16 (y.ticks N).b.p, .int .u16 (y.ticks N).b.c, .int .u8 (y.ticks N).b.l, .bool (y.ticks N).b.h, .int .u16 (y.ticks N).b.n, .int .u16 (y.ticks N).c.p, .int .u16 (y.ticks N).c.c, .int .u8 (y.ticks N).c.l, .bool (y.ticks N).c.h, .int .u16 (y.ticks N).c.n, .int .i64 (y.ticks N).w] 27)).kept hb2).at 15 _ rfl; have HOUT := hid ((Bx.new w1 (scs (y.ticks N)) 27 rfl).kept hb2); have HSL2 := hid (HSL.out.kept (stp (stA (st0 w1) (.cells #[.int .u16 (y.ticks N).a.p, .int .u16 (y.ticks N).a.c, .int .u8 (y.ticks N).a.l, .bool (y.ticks N).a.h, .int .u16 (y.ticks N).a.n, .int .u16 (y.ticks N).b.p, .int .u16 (y.ticks N).b.c, .int .u8 (y.ticks N).b.l, .bool (y.ticks N).b.h, .int .u16 (y.ticks N).b.n, .int .u16 (y.ticks N).c.p, .int .u16 (y.ticks N).c.c, .int .u8 (y.ticks N).c.l, .bool (y.ticks N).c.h, .int .u16 (y.ticks N).c.n, .int .i64 (y.ticks N).w] 27)) hb2)))
          | (go_at_call 19; refine (contains_none _ (sms y N) _ HSL2.out (HZ.out N) HB.out).mono ?_; rintro e w3 ⟨rfl, rfl⟩)
          | (go_at_call 12; refine (check_ok (y.ticks N) _ HFN.out.w).mono ?_; rintro e w4 ⟨rfl, hb4⟩))
        go_ret
        exact ⟨rfl, stp (stp (stA (stp HS.out.low hb1) _) hb2) hb4⟩
      · rw [if_neg hN] at hcnt
        have hlen : (((sms y N).length : Int) == 0) = true := by rw [hcnt]; simp
        clear hcnt
        go_wp2_with (first
          | (refine wpList_load_mid rfl 27 _ rfl w.heap.size 0 rfl (scs y) _ HS.out.b.c Try.underlying27 rfl info_sound ?_)
          | (refine loadG (by rfl) 27 (.tmp 7) rfl w1.heap.size 0 rfl (scs (y.ticks N)) _ HOUT.out.c Try.underlying27 rfl info_sound ?_)
          | (go_at_call 8; refine (samples_ok y N _ HF.out HNN.out).mono ?_; rintro e w1 ⟨v, rfl, hsl, hb1⟩; have HSL := hid hsl; obtain ⟨va, vc, hve⟩ := slice_len hsl; subst hve; clear hsl)
          | (go_at_call 9; refine (sounded_any _).mono ?_; rintro e w2 ⟨rfl, hb2⟩; have c15 := (((HS.out.kept hb1).b.over (.cells #[.int .u16 (y.ticks N).a.p, .int .u16 (y.ticks N).a.c, .int .u8 (y.ticks N).a.l, .bool (y.ticks N).a.h, .int .u16 (y.ticks N).a.n, .int .u16 (y.ticks N).b.p, .int .u16 (y.ticks N).b.c, .int .u8 (y.ticks N).b.l, .bool (y.ticks N).b.h, .int .u16 (y.ticks N).b.n, .int .u16 (y.ticks N).c.p, .int .u16 (y.ticks N).c.c, .int .u8 (y.ticks N).c.l, .bool (y.ticks N).c.h, .int .u16 (y.ticks N).c.n, .int .i64 (y.ticks N).w] 27)).kept hb2).at 15 _ rfl; have HOUT := hid ((Bx.new w1 (scs (y.ticks N)) 27 rfl).kept hb2); have HSL2 := hid (HSL.out.kept (stp (stA (st0 w1) (.cells #[.int .u16 (y.ticks N).a.p, .int .u16 (y.ticks N).a.c, .int .u8 (y.ticks N).a.l, .bool (y.ticks N).a.h, .int .u16 (y.ticks N).a.n, .int .u16 (y.ticks N).b.p, .int .u16 (y.ticks N).b.c, .int .u8 (y.ticks N).b.l, .bool (y.ticks N).b.h, .int .u16 (y.ticks N).b.n, .int .u16 (y.ticks N).c.p, .int .u16 (y.ticks N).c.c, .int .u8 (y.ticks N).c.l, .bool (y.ticks N).c.h, .int .u16 (y.ticks N).c.n, .int .i64 (y.ticks N).w] 27)) hb2)))
          | (go_at_call 19; refine (contains_none _ (sms y N) _ HSL2.out (HZ.out N) HB.out).mono ?_; rintro e w3 ⟨rfl, rfl⟩)
          | (go_at_call 12; refine (check_ok (y.ticks N) _ HFN.out.w).mono ?_; rintro e w4 ⟨rfl, hb4⟩))
        go_ret
        exact ⟨rfl, stp (stp (stA (stp HS.out.low hb1) _) hb2) hb4⟩
end Go.Proofs.Ytjmmbbehjklhgaa
