/-
  The Go text of the law ToneSilent returns true where no samples are made.
-/
import Derived.Test.YtjmmbbehjklhgaaTonV
namespace Go.Proofs.Ytjmmbbehjklhgaa
open Go.ChangeShapes Go.WideShapes Go.ChangeAt Go.RowKit
set_option linter.unusedVariables false

set_option maxRecDepth 100000 in
set_option maxHeartbeats 3200000 in
theorem silent_may (s : Sd) (n : Int) (w : World) (h : s.ok) (hn : ¬ (0 ≤ n ∧ n ≤ 20000)) (hh : 0 ≤ s.w ∧ s.w ≤ 15) :
    Calls Try.prog 6 #[(.agg #[.int .u16 s.a.p, .int .u16 s.a.c, .int .u8 s.a.l, .bool s.a.h, .int .u16 s.a.n, .int .u16 s.b.p, .int .u16 s.b.c, .int .u8 s.b.l, .bool s.b.h, .int .u16 s.b.n, .int .u16 s.c.p, .int .u16 s.c.c, .int .u8 s.c.l, .bool s.c.h, .int .u16 s.c.n, .int .i64 s.w]), .int .i64 n] w fun e w' => e = .returned (.bool true) ∧ Below w.heap.size w w' := by
  have HNB := hid hn
  clear hn
  have HH := hid hh
  clear hh
  go_enter Try.func6, Try.ntmps6
  go_wp2
  go_loopw [10] (fun i wr => (i = .int .i64 0 ∧ SiW w s wr) ∨ (i = .int .i64 1 ∧ SiW w ⟨mu s.a, s.b, s.c, s.w⟩ wr) ∨ (i = .int .i64 2 ∧ SiW w ⟨mu s.a, mu s.b, s.c, s.w⟩ wr) ∨ (i = .int .i64 3 ∧ SiW w ⟨mu s.a, mu s.b, mu s.c, s.w⟩ wr)) (fun i _ => 3 - (intOf i).toNat)
  case atStart => exact Or.inl ⟨rfl, stA (st0 w) _, Bx.new w (scs s) _ rfl⟩
  case round =>
    rcases hrel with ⟨rfl, hS⟩ | ⟨rfl, hS⟩ | ⟨rfl, hS⟩ | ⟨rfl, hS⟩
    · obtain ⟨c0, c1, c2, c3, c4, tz, tf⟩ := hS.b.w0
      have HS := hid hS
      clear hS
      go_wp2
      exact ⟨Or.inr (Or.inl ⟨rfl, HS.out.mu0⟩), by decide⟩
    · obtain ⟨c0, c1, c2, c3, c4, tz, tf⟩ := hS.b.w1
      have HS := hid hS
      clear hS
      go_wp2
      exact ⟨Or.inr (Or.inr (Or.inl ⟨rfl, HS.out.mu1⟩)), by decide⟩
    · obtain ⟨c0, c1, c2, c3, c4, tz, tf⟩ := hS.b.w2
      have HS := hid hS
      clear hS
      go_wp2
      exact ⟨Or.inr (Or.inr (Or.inr ⟨rfl, HS.out.mu2⟩)), by decide⟩
    · obtain ⟨y, hy⟩ : ∃ y : Sd, y = ⟨mu s.a, mu s.b, mu s.c, s.w⟩ := ⟨_, rfl⟩
      have hk : y.ok := by rw [hy]; exact ⟨(mu_ok h.a).1, (mu_ok h.b).1, (mu_ok h.c).1⟩
      have hz : ∀ N, ∀ x ∈ sms y N, x = 0 := by rw [hy]; exact fun N => sms_still (mu_ok h.a).2 (mu_ok h.b).2 (mu_ok h.c).2 N
      have hyw : y.w = s.w := by rw [hy]
      rw [← hy] at hS
      clear hy h
      rw [← hyw] at HH
      clear hyw
      have HS := hid hS
      have HK := hid hk
      have HZ := hid hz
      clear hS hk hz
      have HF : Hid y.fit := ⟨HK.out, HH.out⟩
      go_wp2_with (first
        | (refine wpList_load_mid rfl 27 _ rfl w.heap.size 0 rfl (scs y) _ HS.out.b.c Try.underlying27 rfl info_sound ?_)
        | (go_at_call 8; refine (samples_may y n _ HF.out HNB.out).mono ?_; rintro e w1 ⟨rfl, hb1⟩)
        | (have hq := hb2.size; clear hq; go_at_call 9; refine (sounded_any _).mono ?_; rintro e w3 ⟨rfl, hb3⟩)
        | (go_at_call 9; refine (sounded_any _).mono ?_; rintro e w2 ⟨rfl, hb2⟩))
      go_ret
      exact ⟨rfl, stp (stp (stA (stp HS.out.low hb1) _) hb2) hb3⟩
set_option maxRecDepth 100000 in
set_option maxHeartbeats 3200000 in
theorem silent_check (s : Sd) (n : Int) (w : World) (h : s.ok) (hh : s.w < 0 ∨ 15 < s.w) :
    Calls Try.prog 6 #[(.agg #[.int .u16 s.a.p, .int .u16 s.a.c, .int .u8 s.a.l, .bool s.a.h, .int .u16 s.a.n, .int .u16 s.b.p, .int .u16 s.b.c, .int .u8 s.b.l, .bool s.b.h, .int .u16 s.b.n, .int .u16 s.c.p, .int .u16 s.c.c, .int .u8 s.c.l, .bool s.c.h, .int .u16 s.c.n, .int .i64 s.w]), .int .i64 n] w fun e w' => e = .returned (.bool true) ∧ Below w.heap.size w w' := by
  have HH := hid hh
  clear hh
  go_enter Try.func6, Try.ntmps6
  go_wp2
  go_loopw [10] (fun i wr => (i = .int .i64 0 ∧ SiW w s wr) ∨ (i = .int .i64 1 ∧ SiW w ⟨mu s.a, s.b, s.c, s.w⟩ wr) ∨ (i = .int .i64 2 ∧ SiW w ⟨mu s.a, mu s.b, s.c, s.w⟩ wr) ∨ (i = .int .i64 3 ∧ SiW w ⟨mu s.a, mu s.b, mu s.c, s.w⟩ wr)) (fun i _ => 3 - (intOf i).toNat)
  case atStart => exact Or.inl ⟨rfl, stA (st0 w) _, Bx.new w (scs s) _ rfl⟩
  case round =>
    rcases hrel with ⟨rfl, hS⟩ | ⟨rfl, hS⟩ | ⟨rfl, hS⟩ | ⟨rfl, hS⟩
    · obtain ⟨c0, c1, c2, c3, c4, tz, tf⟩ := hS.b.w0
      have HS := hid hS
      clear hS
      go_wp2
      exact ⟨Or.inr (Or.inl ⟨rfl, HS.out.mu0⟩), by decide⟩
    · obtain ⟨c0, c1, c2, c3, c4, tz, tf⟩ := hS.b.w1
      have HS := hid hS
      clear hS
      go_wp2
      exact ⟨Or.inr (Or.inr (Or.inl ⟨rfl, HS.out.mu1⟩)), by decide⟩
    · obtain ⟨c0, c1, c2, c3, c4, tz, tf⟩ := hS.b.w2
      have HS := hid hS
      clear hS
      go_wp2
      exact ⟨Or.inr (Or.inr (Or.inr ⟨rfl, HS.out.mu2⟩)), by decide⟩
    · obtain ⟨y, hy⟩ : ∃ y : Sd, y = ⟨mu s.a, mu s.b, mu s.c, s.w⟩ := ⟨_, rfl⟩
      have hk : y.ok := by rw [hy]; exact ⟨(mu_ok h.a).1, (mu_ok h.b).1, (mu_ok h.c).1⟩
      have hz : ∀ N, ∀ x ∈ sms y N, x = 0 := by rw [hy]; exact fun N => sms_still (mu_ok h.a).2 (mu_ok h.b).2 (mu_ok h.c).2 N
      have hyw : y.w = s.w := by rw [hy]
      rw [← hy] at hS
      clear hy h
      rw [← hyw] at HH
      clear hyw
      have HS := hid hS
      have HK := hid hk
      have HZ := hid hz
      clear hS hk hz
      go_wp2_with (first
        | (refine wpList_load_mid rfl 27 _ rfl w.heap.size 0 rfl (scs y) _ HS.out.b.c Try.underlying27 rfl info_sound ?_)
        | (go_at_call 8; refine (samples_check y n _ HH.out).mono ?_; rintro e w1 ⟨rfl, hb1⟩)
        | (have hq := hb2.size; clear hq; go_at_call 9; refine (sounded_any _).mono ?_; rintro e w3 ⟨rfl, hb3⟩)
        | (go_at_call 9; refine (sounded_any _).mono ?_; rintro e w2 ⟨rfl, hb2⟩))
      go_ret
      exact ⟨rfl, stp (stp (stA (stp HS.out.low hb1) _) hb2) hb3⟩
end Go.Proofs.Ytjmmbbehjklhgaa
