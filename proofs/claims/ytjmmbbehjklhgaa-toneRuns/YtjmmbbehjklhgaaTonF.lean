/-
  The reference on voices and sounds.
-/
import Derived.Test.YtjmmbbehjklhgaaTonD
namespace Go.Proofs.Ytjmmbbehjklhgaa
open Go.ChangeShapes Go.WideShapes Go.ChangeAt Go.RowKit
set_option linter.unusedVariables false

theorem Bx.six {W : World} {b : Nat} {x : Sd} (h : Bx W b (scs x)) : W.cell? ⟨b, 0, none⟩ = some (.int .u16 x.a.p) ∧ W.cell? ⟨b, 1, none⟩ = some (.int .u16 x.a.c) ∧ W.cell? ⟨b, 2, none⟩ = some (.int .u8 x.a.l) ∧ W.cell? ⟨b, 3, none⟩ = some (.bool x.a.h) ∧ W.cell? ⟨b, 4, none⟩ = some (.int .u16 x.a.n) ∧ W.cell? ⟨b, 5, none⟩ = some (.int .u16 x.b.p) ∧ W.cell? ⟨b, 6, none⟩ = some (.int .u16 x.b.c) ∧ W.cell? ⟨b, 7, none⟩ = some (.int .u8 x.b.l) ∧ W.cell? ⟨b, 8, none⟩ = some (.bool x.b.h) ∧ W.cell? ⟨b, 9, none⟩ = some (.int .u16 x.b.n) ∧ W.cell? ⟨b, 10, none⟩ = some (.int .u16 x.c.p) ∧ W.cell? ⟨b, 11, none⟩ = some (.int .u16 x.c.c) ∧ W.cell? ⟨b, 12, none⟩ = some (.int .u8 x.c.l) ∧ W.cell? ⟨b, 13, none⟩ = some (.bool x.c.h) ∧ W.cell? ⟨b, 14, none⟩ = some (.int .u16 x.c.n) ∧ W.cell? ⟨b, 15, none⟩ = some (.int .i64 x.w) :=
  ⟨h.at 0 _ rfl, h.at 1 _ rfl, h.at 2 _ rfl, h.at 3 _ rfl, h.at 4 _ rfl, h.at 5 _ rfl, h.at 6 _ rfl, h.at 7 _ rfl, h.at 8 _ rfl, h.at 9 _ rfl, h.at 10 _ rfl, h.at 11 _ rfl, h.at 12 _ rfl, h.at 13 _ rfl, h.at 14 _ rfl, h.at 15 _ rfl⟩
theorem loadSat {W : World} {b : Nat} {x : Sd} (h : Bx W b (scs x)) : (Instr.loadAt 27 (.pointer (some ⟨b, 0, none⟩))).run Try.prog W = .ok (.agg #[.int .u16 x.a.p, .int .u16 x.a.c, .int .u8 x.a.l, .bool x.a.h, .int .u16 x.a.n, .int .u16 x.b.p, .int .u16 x.b.c, .int .u8 x.b.l, .bool x.b.h, .int .u16 x.b.n, .int .u16 x.c.p, .int .u16 x.c.c, .int .u8 x.c.l, .bool x.c.h, .int .u16 x.c.n, .int .i64 x.w]) W :=
  run_loadAt_mid W b 0 27 _ _ h.c Try.underlying27 rfl info_sound
theorem there16 {W : World} {b : Nat} (h : Bx W b zs) : W.there b 0 16 := h.there 0 16 (by simp)
theorem all16 (x : Sd) : (#[.int .u16 x.a.p, .int .u16 x.a.c, .int .u8 x.a.l, .bool x.a.h, .int .u16 x.a.n, .int .u16 x.b.p, .int .u16 x.b.c, .int .u8 x.b.l, .bool x.b.h, .int .u16 x.b.n, .int .u16 x.c.p, .int .u16 x.c.c, .int .u8 x.c.l, .bool x.c.h, .int .u16 x.c.n, .int .i64 x.w] : Array Value).all (·.oneCell') = true := by simp [Value.oneCell']
theorem rtick_v (v : Vc) (w : World) (h : v.ok) :
    Calls Try.prog 11 #[(.agg #[.int .u16 v.p, .int .u16 v.c, .int .u8 v.l, .bool v.h, .int .u16 v.n])] w fun e w' => e = .returned (.agg #[.int .u16 (v.tick).p, .int .u16 (v.tick).c, .int .u8 (v.tick).l, .bool (v.tick).h, .int .u16 (v.tick).n]) ∧ Below w.heap.size w w' := by
  have hc := h.c
  have hn := h.n
  by_cases h0 : v.c = 0
  · have hb : ¬ (0 < v.c) := by omega
    by_cases h1 : v.n = 0
    · have e : v.tick = ⟨v.p, v.p, v.l, !v.h, v.n⟩ := by unfold Vc.tick swH swN; rw [if_pos h0, if_pos h1, if_pos h1, h1]
      rw [e]
      have H0 := hid h0
      have e1 : (v.n == 0) = true := by simpa using h1
      clear h0 e h1
      go_enter Try.func11, Try.ntmps11
      go_wp2
      refine bodyPost_ret (v := .agg _) (by simp [results, Try.results11, go_sem]) rfl ⟨rfl, ?_⟩
      exact (stA (stA (st0 _) _) _)
    · have e1 : (v.n == 0) = false := by simpa using h1
      by_cases h2 : v.n % 2 = 1
      · have e : v.tick = ⟨v.p, v.p, v.l, true, bits .xor .u16 (v.n / 2) 46080⟩ := by unfold Vc.tick swH swN nz; rw [if_pos h0, if_neg h1, if_neg h1, if_pos h2, decide_eq_true h2]
        rw [e]
        have H0 := hid h0
        have e2 : (v.n % 2 == 1) = true := by simpa using h2
        have e3 : v.n.tdiv 2 = v.n / 2 := Int.tdiv_eq_ediv_of_nonneg (by omega)
        have e4 : IntKind.u16.wrap (v.n / 2) = v.n / 2 := by rw [IntKind.wrap_u16]; omega
        clear h0 e h1 h2
        go_enter Try.func11, Try.ntmps11
        go_wp2
        refine bodyPost_ret (v := .agg _) (by simp [results, Try.results11, go_sem]) rfl ⟨rfl, ?_⟩
        exact (stA (stA (st0 _) _) _)
      · have e : v.tick = ⟨v.p, v.p, v.l, false, v.n / 2⟩ := by unfold Vc.tick swH swN nz; rw [if_pos h0, if_neg h1, if_neg h1, if_neg h2, decide_eq_false h2]
        rw [e]
        have H0 := hid h0
        have e2 : (v.n % 2 == 1) = false := by simpa using h2
        have e3 : v.n.tdiv 2 = v.n / 2 := Int.tdiv_eq_ediv_of_nonneg (by omega)
        have e4 : IntKind.u16.wrap (v.n / 2) = v.n / 2 := by rw [IntKind.wrap_u16]; omega
        clear h0 e h1 h2
        go_enter Try.func11, Try.ntmps11
        go_wp2
        refine bodyPost_ret (v := .agg _) (by simp [results, Try.results11, go_sem]) rfl ⟨rfl, ?_⟩
        exact (stA (stA (st0 _) _) _)
  · have e : v.tick = ⟨v.p, v.c - 1, v.l, v.h, v.n⟩ := by unfold Vc.tick; rw [if_neg h0]
    rw [e]
    have hb : 0 < v.c := by omega
    clear e h0
    go_enter Try.func11, Try.ntmps11
    go_wp2
    refine bodyPost_ret (v := .agg _) (by simp [results, Try.results11, go_sem]) rfl ⟨rfl, ?_⟩
    exact (stA (stA (st0 _) _) _)
set_option maxRecDepth 100000 in
theorem rsample_any (s : Sd) (w : World) (h : s.ok) :
    Calls Try.prog 13 #[(.agg #[.int .u16 s.a.p, .int .u16 s.a.c, .int .u8 s.a.l, .bool s.a.h, .int .u16 s.a.n, .int .u16 s.b.p, .int .u16 s.b.c, .int .u8 s.b.l, .bool s.b.h, .int .u16 s.b.n, .int .u16 s.c.p, .int .u16 s.c.c, .int .u8 s.c.l, .bool s.c.h, .int .u16 s.c.n, .int .i64 s.w])] w fun e w' => e = .returned (.int .u8 (smI s)) ∧ Below w.heap.size w w' := by
  have la := ld_bd s.a
  have lb := ld_bd s.b
  have lc := ld_bd s.c
  have q0 := h.a.l
  have q1 := h.b.l
  have q2 := h.c.l
  have i0 := v3_0
  have i1 := v3_1
  have i2 := v3_2
  go_enter Try.func13, Try.ntmps13
  go_wp2
  go_loopw [3, 8] (fun x i wr => Below w.heap.size w wr ∧ ((i = .int .i64 0 ∧ x = .int .i64 0) ∨ (i = .int .i64 1 ∧ x = .int .i64 (ld s.a)) ∨ (i = .int .i64 2 ∧ x = .int .i64 (ld s.a + ld s.b)) ∨ (i = .int .i64 3 ∧ x = .int .i64 (smI s)))) (fun _ i _ => 3 - (intOf i).toNat)
  case atStart => exact ⟨stA (st0 _) _, Or.inl ⟨rfl, rfl⟩⟩
  case round =>
    obtain ⟨hB, hcase⟩ := hrel
    have HB := hid hB
    clear hB
    rcases hcase with ⟨rfl, rfl⟩ | ⟨rfl, rfl⟩ | ⟨rfl, rfl⟩ | ⟨rfl, rfl⟩
    · cases hv : s.a.h
      · have e := ld_f hv
        go_wp2
        refine ⟨⟨stA HB.out _, Or.inr (Or.inl ⟨rfl, ?_⟩)⟩, by decide⟩
        first | rfl | rw [e]
      · have e := ld_t hv
        go_wp2
        refine ⟨⟨stA HB.out _, Or.inr (Or.inl ⟨rfl, ?_⟩)⟩, by decide⟩
        first | rfl | rw [e] | (rw [e]; simp)
    · cases hv : s.b.h
      · have e := ld_f hv
        go_wp2
        refine ⟨⟨stA HB.out _, Or.inr (Or.inr (Or.inl ⟨rfl, ?_⟩))⟩, by decide⟩
        first | rfl | (rw [e]; simp)
      · have e := ld_t hv
        go_wp2
        refine ⟨⟨stA HB.out _, Or.inr (Or.inr (Or.inl ⟨rfl, ?_⟩))⟩, by decide⟩
        first | rfl | rw [e] | (rw [e]; simp)
    · cases hv : s.c.h
      · have e := ld_f hv
        go_wp2
        refine ⟨⟨stA HB.out _, Or.inr (Or.inr (Or.inr ⟨rfl, ?_⟩))⟩, by decide⟩
        first | rfl | (unfold smI; rw [e]; simp)
      · have e := ld_t hv
        go_wp2
        refine ⟨⟨stA HB.out _, Or.inr (Or.inr (Or.inr ⟨rfl, ?_⟩))⟩, by decide⟩
        first | rfl | (unfold smI; rw [e]) | (unfold smI; rw [e]; simp)
    · have hs := smI_bd s
      go_wp2
      go_ret
      exact ⟨rfl, HB.out⟩
set_option maxRecDepth 100000 in
set_option maxHeartbeats 3200000 in
theorem rsound_any (s : Sd) (w : World) (h : s.fit) :
    Calls Try.prog 14 #[(.agg #[.int .u16 s.a.p, .int .u16 s.a.c, .int .u8 s.a.l, .bool s.a.h, .int .u16 s.a.n, .int .u16 s.b.p, .int .u16 s.b.c, .int .u8 s.b.l, .bool s.b.h, .int .u16 s.b.n, .int .u16 s.c.p, .int .u16 s.c.c, .int .u8 s.c.l, .bool s.c.h, .int .u16 s.c.n, .int .i64 s.w])] w fun e w' => e = .returned (.agg #[.int .u16 (s.tick).a.p, .int .u16 (s.tick).a.c, .int .u8 (s.tick).a.l, .bool (s.tick).a.h, .int .u16 (s.tick).a.n, .int .u16 (s.tick).b.p, .int .u16 (s.tick).b.c, .int .u8 (s.tick).b.l, .bool (s.tick).b.h, .int .u16 (s.tick).b.n, .int .u16 (s.tick).c.p, .int .u16 (s.tick).c.c, .int .u8 (s.tick).c.l, .bool (s.tick).c.h, .int .u16 (s.tick).c.n, .int .i64 (s.tick).w]) ∧ Below w.heap.size w w' := by
  have hw := h.w
  go_enter Try.func14, Try.ntmps14
  go_wp2
  go_loopw [4] (fun i wr => (i = .int .i64 0 ∧ SmW w s [] (.slice none 0 0) wr) ∨ (i = .int .i64 1 ∧ SmW w ⟨s.a.tick, s.b, s.c, s.w⟩ [] (.slice none 0 0) wr) ∨ (i = .int .i64 2 ∧ SmW w ⟨s.a.tick, s.b.tick, s.c, s.w⟩ [] (.slice none 0 0) wr) ∨ (i = .int .i64 3 ∧ SmW w ⟨s.a.tick, s.b.tick, s.c.tick, s.w⟩ [] (.slice none 0 0) wr)) (fun i _ => 3 - (intOf i).toNat)
  case atStart => exact Or.inl ⟨rfl, stA (stA (st0 w) _) _, (Bx.new w (scs s) _ rfl).over _, Bx.new _ zs _ (by simp), ⟨rfl, Or.inl ⟨rfl, rfl⟩⟩⟩
  case round =>
    rcases hrel with ⟨rfl, hS⟩ | ⟨rfl, hS⟩ | ⟨rfl, hS⟩ | ⟨rfl, hS⟩
    · obtain ⟨c0, c1, c2, c3, c4, c5, c6, c7, c8, c9, c10, c11, c12, c13, c14, c15⟩ := hS.b.six
      have tz := hS.b.z
      have tf := hS.b.f
      have HS := hid hS
      clear hS
      go_wp2_with (go_at_call 11; refine (rtick_v s.a _ h.a).mono ?_; rintro e w5 ⟨rfl, hb5⟩; have HS5 := hid (HS.out.kept hb5); obtain ⟨c0, c1, c2, c3, c4, c5, c6, c7, c8, c9, c10, c11, c12, c13, c14, c15⟩ := HS5.out.b.six; have tz := HS5.out.b.z; have tf := HS5.out.b.f)
      exact ⟨Or.inr (Or.inl ⟨rfl, HS5.out.v0 _⟩), by decide⟩
    · obtain ⟨c0, c1, c2, c3, c4, c5, c6, c7, c8, c9, c10, c11, c12, c13, c14, c15⟩ := hS.b.six
      have tz := hS.b.z
      have tf := hS.b.f
      have HS := hid hS
      clear hS
      go_wp2_with (go_at_call 11; refine (rtick_v s.b _ h.b).mono ?_; rintro e w5 ⟨rfl, hb5⟩; have HS5 := hid (HS.out.kept hb5); obtain ⟨c0, c1, c2, c3, c4, c5, c6, c7, c8, c9, c10, c11, c12, c13, c14, c15⟩ := HS5.out.b.six; have tz := HS5.out.b.z; have tf := HS5.out.b.f)
      exact ⟨Or.inr (Or.inr (Or.inl ⟨rfl, HS5.out.v1 _⟩)), by decide⟩
    · obtain ⟨c0, c1, c2, c3, c4, c5, c6, c7, c8, c9, c10, c11, c12, c13, c14, c15⟩ := hS.b.six
      have tz := hS.b.z
      have tf := hS.b.f
      have HS := hid hS
      clear hS
      go_wp2_with (go_at_call 11; refine (rtick_v s.c _ h.c).mono ?_; rintro e w5 ⟨rfl, hb5⟩; have HS5 := hid (HS.out.kept hb5); obtain ⟨c0, c1, c2, c3, c4, c5, c6, c7, c8, c9, c10, c11, c12, c13, c14, c15⟩ := HS5.out.b.six; have tz := HS5.out.b.z; have tf := HS5.out.b.f)
      exact ⟨Or.inr (Or.inr (Or.inr ⟨rfl, HS5.out.v2 _⟩)), by decide⟩
    · have c15 := hS.w15
      have tz := hS.b.z
      have tf := hS.b.f
      have HS := hid hS
      clear hS
      by_cases h0 : s.w = 0
      · have HE : Hid (s.tick = ⟨s.a.tick, s.b.tick, s.c.tick, 15⟩) := by unfold Sd.tick; rw [if_pos h0]; trivial
        have H0 := hid h0
        rw [h0] at c15
        clear h0
        have HT := hid ((HS.out.wait (-1)).wait 15)
        go_wp2_with (first
          | (refine wpList_load_mid rfl 27 _ rfl w.heap.size 0 rfl (scs ⟨s.a.tick, s.b.tick, s.c.tick, 15⟩) _ HT.out.b.c Try.underlying27 rfl info_sound ?_)
          | (refine wpList_store_mid rfl 27 _ _ rfl (w.heap.size + 1) 0 _ rfl rfl (there16 HT.out.r) info_sound (all16 _) ?_
             refine Pl.cutL (fun W => Below w.heap.size w W ∧ Bx W (w.heap.size + 1) (scs s.tick)) ⟨?_, ?_⟩ ?_
             · exact Bl.puts HT.out.low (Nat.le_succ _) _
             · rw [HE.out]; exact HT.out.r.puts 0 (scs ⟨s.a.tick, s.b.tick, s.c.tick, 15⟩) (by simp)
             rintro W ⟨hlow, hbox⟩
             have HLO := hid hlow
             have HBX := hid hbox
             clear hlow hbox))
        have hl := loadS HBX.out
        exact bodyPost_ret (v := (.agg #[.int .u16 (s.tick).a.p, .int .u16 (s.tick).a.c, .int .u8 (s.tick).a.l, .bool (s.tick).a.h, .int .u16 (s.tick).a.n, .int .u16 (s.tick).b.p, .int .u16 (s.tick).b.c, .int .u8 (s.tick).b.l, .bool (s.tick).b.h, .int .u16 (s.tick).b.n, .int .u16 (s.tick).c.p, .int .u16 (s.tick).c.c, .int .u8 (s.tick).c.l, .bool (s.tick).c.h, .int .u16 (s.tick).c.n, .int .i64 (s.tick).w])) (by simp only [results, Try.results14]; simp; exact hl) rfl ⟨rfl, HLO.out⟩
      · have HE : Hid (s.tick = ⟨s.a.tick, s.b.tick, s.c.tick, s.w - 1⟩) := by unfold Sd.tick; rw [if_neg h0]; trivial
        have h1 : ¬ (s.w - 1 < 0) := by omega
        have HT := hid (HS.out.wait (s.w - 1))
        go_wp2_with (first
          | (refine wpList_load_mid rfl 27 _ rfl w.heap.size 0 rfl (scs ⟨s.a.tick, s.b.tick, s.c.tick, s.w - 1⟩) _ HT.out.b.c Try.underlying27 rfl info_sound ?_)
          | (refine wpList_store_mid rfl 27 _ _ rfl (w.heap.size + 1) 0 _ rfl rfl (there16 HT.out.r) info_sound (all16 _) ?_
             refine Pl.cutL (fun W => Below w.heap.size w W ∧ Bx W (w.heap.size + 1) (scs s.tick)) ⟨?_, ?_⟩ ?_
             · exact Bl.puts HT.out.low (Nat.le_succ _) _
             · rw [HE.out]; exact HT.out.r.puts 0 (scs ⟨s.a.tick, s.b.tick, s.c.tick, s.w - 1⟩) (by simp)
             rintro W ⟨hlow, hbox⟩
             have HLO := hid hlow
             have HBX := hid hbox
             clear hlow hbox))
        have hl := loadS HBX.out
        exact bodyPost_ret (v := (.agg #[.int .u16 (s.tick).a.p, .int .u16 (s.tick).a.c, .int .u8 (s.tick).a.l, .bool (s.tick).a.h, .int .u16 (s.tick).a.n, .int .u16 (s.tick).b.p, .int .u16 (s.tick).b.c, .int .u8 (s.tick).b.l, .bool (s.tick).b.h, .int .u16 (s.tick).b.n, .int .u16 (s.tick).c.p, .int .u16 (s.tick).c.c, .int .u8 (s.tick).c.l, .bool (s.tick).c.h, .int .u16 (s.tick).c.n, .int .i64 (s.tick).w])) (by simp only [results, Try.results14]; simp; exact hl) rfl ⟨rfl, HLO.out⟩
end Go.Proofs.Ytjmmbbehjklhgaa
