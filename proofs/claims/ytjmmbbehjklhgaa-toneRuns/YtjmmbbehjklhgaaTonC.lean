/-
  Package tone: Tick, Run, Check, sample.
-/
import Derived.Test.YtjmmbbehjklhgaaTonB
namespace Go.Proofs.Ytjmmbbehjklhgaa
open Go.ChangeShapes Go.WideShapes Go.ChangeAt Go.RowKit
set_option linter.unusedVariables false

abbrev vcs (v : Vc) : List Value := [.int .u16 v.p, .int .u16 v.c, .int .u8 v.l, .bool v.h, .int .u16 v.n]
theorem latV (v : Vc) (m : Int) (w : World) (h : v.ok) (hm : 0 ≤ m ∧ m ≤ 20000) :
    Calls Try.prog 22 #[(.agg #[.int .u16 v.p, .int .u16 v.c, .int .u8 v.l, .bool v.h, .int .u16 v.n]), .int .i64 m] w fun e w' => e = .returned (.agg #[.int .u16 (v.later m).p, .int .u16 (v.later m).c, .int .u8 (v.later m).l, .bool (v.later m).h, .int .u16 (v.later m).n]) ∧ Below w.heap.size w w' :=
  later_any v.p v.c v.l v.n v.h m w h.p h.c h.n hm
theorem tick_eq (v : Vc) (h : v.ok) : v.later 1 = v.tick := by
  have := Vc.later_ticks v h 1
  exact this
theorem resV {w w1 : World} {o : Obj} (hb1 : Below ((w.alloc o).alloc (.cells #[.int .u16 0, .int .u16 0, .int .u8 0, .bool false, .int .u16 0] 24)).heap.size ((w.alloc o).alloc (.cells #[.int .u16 0, .int .u16 0, .int .u8 0, .bool false, .int .u16 0] 24)) w1) : Bx w1 (w.heap.size + 1) (vL 0 0 0 false 0) :=
  (Bx.new (w.alloc o) (vL 0 0 0 false 0) _ (by simp)).kept hb1
theorem tick_any (v : Vc) (w : World) (h : v.ok) :
    Calls Try.prog 10 #[(.agg #[.int .u16 v.p, .int .u16 v.c, .int .u8 v.l, .bool v.h, .int .u16 v.n])] w fun e w' => e = .returned (.agg #[.int .u16 (v.tick).p, .int .u16 (v.tick).c, .int .u8 (v.tick).l, .bool (v.tick).h, .int .u16 (v.tick).n]) ∧ Below w.heap.size w w' := by
  have hl := fun W => latV v 1 W h (by omega)
  rw [tick_eq v h] at hl
  go_enter Try.func10, Try.ntmps10
  go_wp2_with (go_at_call 22; refine (hl _).mono ?_; rintro e w1 ⟨rfl, hb1⟩; obtain ⟨r0, r1, r2, r3, r4, rz, rf⟩ := (resV hb1).five)
  have hR := (resV hb1).put5 rfl v.tick.p v.tick.c v.tick.l v.tick.n v.tick.h
  have hY := Bl.put5 (w := w) (b := w.heap.size + 1) (stp (stA (stA (st0 w) _) _) hb1) (by omega) v.tick.p v.tick.c v.tick.l v.tick.n v.tick.h
  refine Pl.cutB (fun Y => Below w.heap.size w Y ∧ Y.rangeAt (w.heap.size + 1) 0 (vcs v.tick)) ⟨hY, hR.c⟩ ?_
  rintro Y ⟨hY, hR⟩
  exact bodyPost_ret (v := .agg _) (by simp only [results, Try.results10]; simp; exact load_voice _ _ _ _ _ _ _ _ hR) rfl ⟨rfl, hY⟩
theorem may_any (n : Int) (w : World) : Calls Try.prog 21 #[.int .i64 n] w fun e w' => e = .returned (.bool (decide (0 ≤ n ∧ n ≤ 20000))) ∧ w = w' := by
  by_cases h1 : 0 ≤ n
  · by_cases h2 : n ≤ 20000
    · rw [decide_eq_true ⟨h1, h2⟩]
      go_enter Try.func21, Try.ntmps21
      go_wp2
      go_ret
      exact ⟨rfl, rfl⟩
    · rw [decide_eq_false (fun h => h2 h.2)]
      go_enter Try.func21, Try.ntmps21
      go_wp2
      go_ret
      exact ⟨rfl, rfl⟩
  · rw [decide_eq_false (fun h => h1 h.1)]
    go_enter Try.func21, Try.ntmps21
    go_wp2
    go_ret
    exact ⟨rfl, rfl⟩
theorem run_ok (v : Vc) (n : Int) (w : World) (h : v.ok) (hn : 0 ≤ n ∧ n ≤ 20000) :
    Calls Try.prog 7 #[(.agg #[.int .u16 v.p, .int .u16 v.c, .int .u8 v.l, .bool v.h, .int .u16 v.n]), .int .i64 n] w fun e w' => e = .returned (.tuple #[(.agg #[.int .u16 (v.later n).p, .int .u16 (v.later n).c, .int .u8 (v.later n).l, .bool (v.later n).h, .int .u16 (v.later n).n]), .int .i64 0]) ∧ Below w.heap.size w w' := by
  have hl := fun W => latV v n W h hn
  have hd : decide (0 ≤ n ∧ n ≤ 20000) = true := decide_eq_true hn
  have hm := may_any n
  rw [hd] at hm
  go_enter Try.func7, Try.ntmps7
  go_wp2_with (first
    | (go_at_call 21; refine (hm _).mono ?_; rintro e w0 ⟨rfl, rfl⟩)
    | (go_at_call 22; refine (hl _).mono ?_; rintro e w1 ⟨rfl, hb1⟩; obtain ⟨r0, r1, r2, r3, r4, rz, rf⟩ := (resV hb1).five))
  have hR := (resV hb1).put5 rfl (v.later n).p (v.later n).c (v.later n).l (v.later n).n (v.later n).h
  have hY := Bl.put5 (w := w) (b := w.heap.size + 1) (stp (stA (stA (st0 w) _) _) hb1) (by omega) (v.later n).p (v.later n).c (v.later n).l (v.later n).n (v.later n).h
  refine Pl.cutB (fun Y => Below w.heap.size w Y ∧ Y.rangeAt (w.heap.size + 1) 0 (vcs (v.later n))) ⟨hY, hR.c⟩ ?_
  rintro Y ⟨hY, hR⟩
  have hl := load_voice Y _ _ _ _ _ _ _ hR
  refine bodyPost_ret (v := .tuple #[(.agg #[.int .u16 (v.later n).p, .int .u16 (v.later n).c, .int .u8 (v.later n).l, .bool (v.later n).h, .int .u16 (v.later n).n]), .int .i64 0]) ?_ rfl ⟨rfl, hY⟩
  simp only [results, Try.results7]
  simp
  show (Result.andThen (Sem.run Try.prog (loadVar 24 ⟨w.heap.size + 1, 0, none⟩) Y) _) = _
  rw [hl]
  rfl
theorem run_bad (v : Vc) (n : Int) (w : World) (hn : ¬ (0 ≤ n ∧ n ≤ 20000)) :
    Calls Try.prog 7 #[(.agg #[.int .u16 v.p, .int .u16 v.c, .int .u8 v.l, .bool v.h, .int .u16 v.n]), .int .i64 n] w fun e w' => e = .returned (.tuple #[.agg #[.int .u16 0, .int .u16 0, .int .u8 0, .bool false, .int .u16 0], .int .i64 3]) ∧ Below w.heap.size w w' := by
  have hm := may_any n
  rw [decide_eq_false hn] at hm
  clear hn
  go_enter Try.func7, Try.ntmps7
  go_wp2_with (go_at_call 21; refine (hm _).mono ?_; rintro e w0 ⟨rfl, rfl⟩)
  refine bodyPost_ret (v := .tuple #[.agg #[.int .u16 0, .int .u16 0, .int .u8 0, .bool false, .int .u16 0], .int .i64 3]) (by simp [results, Try.results7, go_sem]) rfl ⟨rfl, ?_⟩
  exact (stA (stA (st0 _) _) _)
theorem check_ok (s : Sd) (w : World) (h : 0 ≤ s.w ∧ s.w ≤ 15) :
    Calls Try.prog 12 #[(.agg #[.int .u16 s.a.p, .int .u16 s.a.c, .int .u8 s.a.l, .bool s.a.h, .int .u16 s.a.n, .int .u16 s.b.p, .int .u16 s.b.c, .int .u8 s.b.l, .bool s.b.h, .int .u16 s.b.n, .int .u16 s.c.p, .int .u16 s.c.c, .int .u8 s.c.l, .bool s.c.h, .int .u16 s.c.n, .int .i64 s.w])] w fun e w' => e = .returned (.int .i64 0) ∧ Below w.heap.size w w' := by
  go_enter Try.func12, Try.ntmps12
  go_wp2
  go_ret
  exact ⟨rfl, stA (st0 _) _⟩
theorem check_bad (s : Sd) (w : World) (h : s.w < 0 ∨ 15 < s.w) :
    Calls Try.prog 12 #[(.agg #[.int .u16 s.a.p, .int .u16 s.a.c, .int .u8 s.a.l, .bool s.a.h, .int .u16 s.a.n, .int .u16 s.b.p, .int .u16 s.b.c, .int .u8 s.b.l, .bool s.b.h, .int .u16 s.b.n, .int .u16 s.c.p, .int .u16 s.c.c, .int .u8 s.c.l, .bool s.c.h, .int .u16 s.c.n, .int .i64 s.w])] w fun e w' => e = .returned (.int .i64 3) ∧ Below w.heap.size w w' := by
  rcases h with h | h
  · go_enter Try.func12, Try.ntmps12
    go_wp2
    go_ret
    exact ⟨rfl, stA (st0 _) _⟩
  · have h' : ¬ s.w < 0 := by omega
    go_enter Try.func12, Try.ntmps12
    go_wp2
    go_ret
    exact ⟨rfl, stA (st0 _) _⟩
theorem v3_0 (x0 x1 x2 x3 x4 x5 x6 x7 x8 x9 y0 y1 y2 y3 y4 : Value) (w : World) : (Instr.index 25 (.agg #[x0, x1, x2, x3, x4, x5, x6, x7, x8, x9, y0, y1, y2, y3, y4]) (.int .i64 0)).run Try.prog w = .ok (.agg #[x0, x1, x2, x3, x4]) w := by kernel_rfl
theorem v3_1 (x0 x1 x2 x3 x4 x5 x6 x7 x8 x9 y0 y1 y2 y3 y4 : Value) (w : World) : (Instr.index 25 (.agg #[x0, x1, x2, x3, x4, x5, x6, x7, x8, x9, y0, y1, y2, y3, y4]) (.int .i64 1)).run Try.prog w = .ok (.agg #[x5, x6, x7, x8, x9]) w := by kernel_rfl
theorem v3_2 (x0 x1 x2 x3 x4 x5 x6 x7 x8 x9 y0 y1 y2 y3 y4 : Value) (w : World) : (Instr.index 25 (.agg #[x0, x1, x2, x3, x4, x5, x6, x7, x8, x9, y0, y1, y2, y3, y4]) (.int .i64 2)).run Try.prog w = .ok (.agg #[y0, y1, y2, y3, y4]) w := by kernel_rfl
theorem and15 (l : Int) (h : 0 ≤ l ∧ l ≤ 255) : bits .and .u8 l 15 = l % 16 := by
  obtain ⟨X, hX⟩ := Int.eq_ofNat_of_zero_le h.1
  subst hX
  rw [show (15 : Int) = ((15 : Nat) : Int) from rfl, u8_and_nat _ _ (by omega) (by omega)]
  have := Nat.and_two_pow_sub_one_eq_mod X 4
  simp only [Nat.reducePow, Nat.reduceSub] at this
  rw [this]; omega
theorem ld_t {v : Vc} (h : v.h = true) : ld v = v.l % 16 := by unfold ld; rw [h]; rfl
theorem ld_f {v : Vc} (h : v.h = false) : ld v = 0 := by unfold ld; rw [h]; rfl
theorem sample_any (s : Sd) (w : World) (h : s.ok) :
    Calls Try.prog 23 #[(.agg #[.int .u16 s.a.p, .int .u16 s.a.c, .int .u8 s.a.l, .bool s.a.h, .int .u16 s.a.n, .int .u16 s.b.p, .int .u16 s.b.c, .int .u8 s.b.l, .bool s.b.h, .int .u16 s.b.n, .int .u16 s.c.p, .int .u16 s.c.c, .int .u8 s.c.l, .bool s.c.h, .int .u16 s.c.n])] w fun e w' => e = .returned (.int .u8 (smI s)) ∧ Below w.heap.size w w' := by
  have a0 := and15 _ h.a.l
  have a1 := and15 _ h.b.l
  have a2 := and15 _ h.c.l
  have i0 := v3_0
  have i1 := v3_1
  have i2 := v3_2
  have la := ld_bd s.a
  have lb := ld_bd s.b
  have lc := ld_bd s.c
  have LA := hid la
  have LB := hid lb
  have LC := hid lc
  go_enter Try.func23, Try.ntmps23
  go_wp2
  go_loopw [3, 7] (fun x i wr => Below w.heap.size w wr ∧ ((i = .int .i64 0 ∧ x = .int .u8 0) ∨ (i = .int .i64 1 ∧ x = .int .u8 (ld s.a)) ∨ (i = .int .i64 2 ∧ x = .int .u8 (ld s.a + ld s.b)) ∨ (i = .int .i64 3 ∧ x = .int .u8 (smI s)))) (fun _ i _ => 3 - (intOf i).toNat)
  case atStart => exact ⟨stA (st0 _) _, Or.inl ⟨rfl, rfl⟩⟩
  case round =>
    obtain ⟨hB, hcase⟩ := hrel
    have HB := hid hB
    clear hB
    rcases hcase with ⟨rfl, rfl⟩ | ⟨rfl, rfl⟩ | ⟨rfl, rfl⟩ | ⟨rfl, rfl⟩
    · cases hv : s.a.h
      · have e := ld_f hv
        go_wp2
        refine ⟨⟨stA HB.out _, Or.inr (Or.inl ⟨rfl, ?_⟩)⟩, by decide⟩
        first | rfl | rw [e]
      · have e := ld_t hv
        go_wp2
        refine ⟨⟨stA HB.out _, Or.inr (Or.inl ⟨rfl, ?_⟩)⟩, by decide⟩
        first | rfl | rw [e] | (rw [e]; simp)
    · cases hv : s.b.h
      · have e := ld_f hv
        go_wp2
        refine ⟨⟨stA HB.out _, Or.inr (Or.inr (Or.inl ⟨rfl, ?_⟩))⟩, by decide⟩
        first | rfl | (rw [e]; simp)
      · have e := ld_t hv
        go_wp2
        refine ⟨⟨stA HB.out _, Or.inr (Or.inr (Or.inl ⟨rfl, ?_⟩))⟩, by decide⟩
        first | rfl | rw [e] | (rw [e]; simp)
    · cases hv : s.c.h
      · have e := ld_f hv
        go_wp2
        refine ⟨⟨stA HB.out _, Or.inr (Or.inr (Or.inr ⟨rfl, ?_⟩))⟩, by decide⟩
        first | rfl | (unfold smI; rw [e]; simp)
      · have e := ld_t hv
        go_wp2
        refine ⟨⟨stA HB.out _, Or.inr (Or.inr (Or.inr ⟨rfl, ?_⟩))⟩, by decide⟩
        first | rfl | (unfold smI; rw [e]) | (unfold smI; rw [e]; simp)
    · go_wp2
      go_ret
      exact ⟨rfl, HB.out⟩
end Go.Proofs.Ytjmmbbehjklhgaa
