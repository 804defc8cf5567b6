/-
  Package beam: Run.
-/
import Derived.Test.YteanddobckpcpaaBemE
namespace Go.Proofs.Yteanddobckpcpaa
open Go.ChangeShapes Go.WideShapes Go.ChangeAt Go.RowKit
set_option linter.unusedVariables false

/-- What Run's boxes hold: the beam, the answer's box, and what the counter of frames keeps. -/
structure RunB (w : World) (B : Nat) (l a : Int) (g : Bool) (f : Int) (W : World) : Prop where
  low : Below w.heap.size w W
  t : Bat W w.heap.size l a g f
  r : Bat W (w.heap.size + 1) 0 0 false 0
  q : W.cell? ⟨B, 0, none⟩ = some (.int .i64 640)
  z : B < W.heap.size
  ne : w.heap.size < B
theorem RunB.drew {w W : World} {B : Nat} {l a f : Int} {g : Bool} (h : RunB w B l a g f W) : RunB w B l a g f W.drew := ⟨h.low.drew, h.t.drew, h.r.drew, h.q, h.z, h.ne⟩
theorem runB_mk {w w1 : World} {l a f : Int} {g x : Bool}
    (hb1 : Below ((w.alloc (.cells #[.int .i64 l, .int .i64 a, .bool g, .int .i64 f] 23)).alloc (.cells #[.int .i64 0, .int .i64 0, .bool false, .int .i64 0] 23)).heap.size ((w.alloc (.cells #[.int .i64 l, .int .i64 a, .bool g, .int .i64 f] 23)).alloc (.cells #[.int .i64 0, .int .i64 0, .bool false, .int .i64 0] 23)) w1) :
    RunB w (w1.heap.size + 1) l a x f (((w1.setCell ⟨w.heap.size, 2, none⟩ (.bool x)).alloc (.cells #[.int .i64 512] 3)).alloc (.cells #[.int .i64 640] 3)) := by
  have hB := stp (stA (stA (st0 w) _) _) hb1
  have ht := ((Bat.new w l a g f).over (.cells #[.int .i64 0, .int .i64 0, .bool false, .int .i64 0] 23)).kept hb1
  have hr0 := Bat.new (w.alloc (.cells #[.int .i64 l, .int .i64 a, .bool g, .int .i64 f] 23)) 0 0 false 0
  have e : (w.alloc (.cells #[.int .i64 l, .int .i64 a, .bool g, .int .i64 f] 23)).heap.size = w.heap.size + 1 := by simp
  rw [e] at hr0
  have hr := hr0.kept hb1
  refine ⟨stA (stA (hB.setCell (Nat.le_refl _) _) _) _, ((ht.put2 x).over _).over _, ((hr.far (by omega) _).over _).over _, Pl.new _ _ _ _ (by simp), by simp, ?_⟩
  have := ht.z
  omega
theorem Bm.resB {w w1 : World} {l a f : Int} {g : Bool}
    (hb1 : Below ((w.alloc (.cells #[.int .i64 l, .int .i64 a, .bool g, .int .i64 f] 23)).alloc (.cells #[.int .i64 0, .int .i64 0, .bool false, .int .i64 0] 23)).heap.size ((w.alloc (.cells #[.int .i64 l, .int .i64 a, .bool g, .int .i64 f] 23)).alloc (.cells #[.int .i64 0, .int .i64 0, .bool false, .int .i64 0] 23)) w1) :
    Below w.heap.size w ((((w1.setCell ⟨w.heap.size + 1, 0, none⟩ (.int .i64 0)).setCell ⟨w.heap.size + 1, 1, none⟩ (.int .i64 0)).setCell ⟨w.heap.size + 1, 2, none⟩ (.bool false)).setCell ⟨w.heap.size + 1, 3, none⟩ (.int .i64 0)) ∧ ((((w1.setCell ⟨w.heap.size + 1, 0, none⟩ (.int .i64 0)).setCell ⟨w.heap.size + 1, 1, none⟩ (.int .i64 0)).setCell ⟨w.heap.size + 1, 2, none⟩ (.bool false)).setCell ⟨w.heap.size + 1, 3, none⟩ (.int .i64 0)).rangeAt (w.heap.size + 1) 0 [.int .i64 0, .int .i64 0, .bool false, .int .i64 0] := by
  have hB := stp (stA (stA (st0 w) _) _) hb1
  have hr0 := Bat.new (w.alloc (.cells #[.int .i64 l, .int .i64 a, .bool g, .int .i64 f] 23)) 0 0 false 0
  have e : (w.alloc (.cells #[.int .i64 l, .int .i64 a, .bool g, .int .i64 f] 23)).heap.size = w.heap.size + 1 := by simp
  rw [e] at hr0
  have hr := hr0.kept hb1
  exact ⟨hr.below hB (by omega) 0 0 false 0, (hr.puts 0 0 false 0).range⟩
theorem RunB.all {w W : World} {B : Nat} {l a f : Int} {g : Bool} (h : RunB w B l a g f W) : W.cell? ⟨w.heap.size, 3, none⟩ = some (.int .i64 f) ∧ W.frozen? ⟨w.heap.size, 3, none⟩ = false ∧ RunB w B l a g f W := ⟨h.t.c3, h.t.f 3, h⟩
theorem RunB.fin {w W : World} {B : Nat} {l a f : Int} {x : Bool} (h : RunB w B l a x f W) (l' a' f' : Int) :
    Below w.heap.size w (((((((W.setCell ⟨w.heap.size, 3, none⟩ (.int .i64 f')).setCell ⟨w.heap.size, 0, none⟩ (.int .i64 l')).setCell ⟨w.heap.size, 1, none⟩ (.int .i64 a')).setCell ⟨w.heap.size + 1, 0, none⟩ (.int .i64 l')).setCell ⟨w.heap.size + 1, 1, none⟩ (.int .i64 a')).setCell ⟨w.heap.size + 1, 2, none⟩ (.bool x)).setCell ⟨w.heap.size + 1, 3, none⟩ (.int .i64 f')).drew ∧ (((((((W.setCell ⟨w.heap.size, 3, none⟩ (.int .i64 f')).setCell ⟨w.heap.size, 0, none⟩ (.int .i64 l')).setCell ⟨w.heap.size, 1, none⟩ (.int .i64 a')).setCell ⟨w.heap.size + 1, 0, none⟩ (.int .i64 l')).setCell ⟨w.heap.size + 1, 1, none⟩ (.int .i64 a')).setCell ⟨w.heap.size + 1, 2, none⟩ (.bool x)).setCell ⟨w.heap.size + 1, 3, none⟩ (.int .i64 f')).drew.rangeAt (w.heap.size + 1) 0 [.int .i64 l', .int .i64 a', .bool x, .int .i64 f'] := by
  have hb := ((h.low.setCell (p := ⟨w.heap.size, 3, none⟩) (Nat.le_refl _) (.int .i64 f')).setCell (p := ⟨w.heap.size, 0, none⟩) (Nat.le_refl _) (.int .i64 l')).setCell (p := ⟨w.heap.size, 1, none⟩) (Nat.le_refl _) (.int .i64 a')
  have hr := ((h.r.far (by omega) (.int .i64 f') (o' := 3) (b' := w.heap.size)).far (by omega) (.int .i64 l') (o' := 0) (b' := w.heap.size)).far (by omega) (.int .i64 a') (o' := 1) (b' := w.heap.size)
  exact ⟨(hr.below hb (by omega) l' a' x f').drew, (hr.puts l' a' x f').drew.range⟩
set_option maxRecDepth 100000 in
set_option maxHeartbeats 1600000 in
theorem Bm.run_any (l a f n : Int) (g : Bool) (w : World) (h : BOk l a f) (hn : 0 ≤ n ∧ n ≤ 20000) :
    Calls Try.prog 5 #[.agg #[.int .i64 l, .int .i64 a, .bool g, .int .i64 f], .int .i64 n] w fun e w' => e = .returned (.tuple #[.agg #[.int .i64 (bmL l a n), .int .i64 (bmA l a n), .bool (bmG l a g n), .int .i64 (bmF l a f n)], .int .i64 0]) ∧ Below w.heap.size w w' := by
  have H := hid h
  have hw := wthn_yes hn.1 hn.2
  obtain ⟨l0, l1, a0, a1, f0, f1⟩ := h
  obtain ⟨n0, n1⟩ := hn
  have p0 : 0 ≤ l * 64 + a := by omega
  have p1 : l * 64 + a ≤ 639 := by omega
  have m1 : Int.tmod (l * 64 + a + n) 640 = (l * 64 + a + n) % 640 := Int.tmod_eq_emod_of_nonneg (by omega)
  have m2 : Int.tmod (l * 64 + a + n) 64 = (l * 64 + a + n) % 64 := Int.tmod_eq_emod_of_nonneg (by omega)
  have m3 : Int.tdiv ((l * 64 + a + n) % 640) 64 = (l * 64 + a + n) % 640 / 64 := Int.tdiv_eq_ediv_of_nonneg (by omega)
  cases g
  · go_enter Try.func5, Try.ntmps5
    go_wp2_with (first
      | (go_at_call 8; refine (Bm.check_yes l a f _ _ H.out).mono ?_; rintro e w1 ⟨rfl, hb1⟩; obtain ⟨k1, f1⟩ := bcell hb1; have z1 : w.heap.size + 1 < w1.heap.size := Nat.lt_of_lt_of_le (by simp) hb1.size; have z0 : w.heap.size < w1.heap.size := Nat.lt_of_succ_lt z1)
      | (go_at_call 10; refine (Bm.within_any _ _ _).mono ?_; rintro e w0 ⟨rfl, rfl⟩)
      | (go_at_call 11; refine (Bm.each_any _ _).mono ?_; rintro e w0 ⟨rfl, rfl⟩)
      | (go_at_call 12; refine (Bm.often_any 512 _ w1.heap.size _ (by omega) (by omega) (by simp) (by simp; omega)).mono ?_; rintro e w0 ⟨rfl, rfl⟩))
    have hG : bmG l a false n = decide ((l * 64 + a + 640 - 512) / 640 < (l * 64 + a + n + 640 - 512) / 640) := by
      unfold bmG; rw [Bool.false_or, decide_eq_decide]; omega
    have HG := hid hG
    clear hG
    refine Pl.cutW (fun W => RunB w (w1.heap.size + 1) l a (bmG l a false n) f W) (by rw [HG.out]; exact runB_mk hb1) ?_
    rintro W hK
    have HK := hid hK
    clear hK
    generalize hB : w1.heap.size + 1 = B at *
    clear hb1 k1 f1 z1 z0
    have tz := HK.out.t.z
    obtain ⟨_, t0, t1, t2, t3, _⟩ := HK.out.t
    have ew : IntKind.i64.wrap (f + (l * 64 + a + n) / 640) = f + (l * 64 + a + n) / 640 := by rw [IntKind.wrap_i64]; omega
    obtain ⟨_, r0, r1, r2, r3, _⟩ := HK.out.r
    have tf := HK.out.t.f
    have rz := HK.out.r.z
    have rf := HK.out.r.f
    go_region_with ((go_at_call 12; refine (Bm.often_any 640 _ B _ (by omega) (by omega) (by first | exact HK.out.q | exact HK.out.drew.q) (by first | exact HK.out.z | exact HK.out.drew.z)).mono ?_; rintro e w0 ⟨rfl, rfl⟩))
    all_goals go_wp2
    all_goals
      have hF := HK.out.fin ((l * 64 + a + n) % 640 / 64) ((l * 64 + a + n) % 64) (f + (l * 64 + a + n) / 640)
      refine Pl.cutB (fun Y => Below w.heap.size w Y ∧ Y.rangeAt (w.heap.size + 1) 0 [.int .i64 (bmL l a n), .int .i64 (bmA l a n), .bool (bmG l a false n), .int .i64 (bmF l a f n)]) hF ?_
      rintro Y ⟨hY, hR⟩
      have hl := load_beam Y _ _ _ _ _ hR
      refine bodyPost_ret (v := .tuple #[.agg #[.int .i64 (bmL l a n), .int .i64 (bmA l a n), .bool (bmG l a false n), .int .i64 (bmF l a f n)], .int .i64 0]) ?_ rfl ⟨rfl, hY⟩
      simp only [results, Try.results5]
      simp
      show (Result.andThen (Sem.run Try.prog (loadVar 23 ⟨w.heap.size + 1, 0, none⟩) Y) _) = _
      rw [hl]
      rfl
  · go_enter Try.func5, Try.ntmps5
    go_wp2_with (first
      | (go_at_call 8; refine (Bm.check_yes l a f _ _ H.out).mono ?_; rintro e w1 ⟨rfl, hb1⟩; obtain ⟨k1, f1⟩ := bcell hb1; have z1 : w.heap.size + 1 < w1.heap.size := Nat.lt_of_lt_of_le (by simp) hb1.size; have z0 : w.heap.size < w1.heap.size := Nat.lt_of_succ_lt z1)
      | (go_at_call 10; refine (Bm.within_any _ _ _).mono ?_; rintro e w0 ⟨rfl, rfl⟩)
      | (go_at_call 11; refine (Bm.each_any _ _).mono ?_; rintro e w0 ⟨rfl, rfl⟩)
      | (go_at_call 12; refine (Bm.often_any 512 _ w1.heap.size _ (by omega) (by omega) (by simp) (by simp; omega)).mono ?_; rintro e w0 ⟨rfl, rfl⟩))
    have hG : bmG l a true n = true := by unfold bmG; rw [Bool.true_or]
    have HG := hid hG
    clear hG
    refine Pl.cutW (fun W => RunB w (w1.heap.size + 1) l a (bmG l a true n) f W) (by rw [HG.out]; exact runB_mk hb1) ?_
    rintro W hK
    have HK := hid hK
    clear hK
    generalize hB : w1.heap.size + 1 = B at *
    clear hb1 k1 f1 z1 z0
    have tz := HK.out.t.z
    obtain ⟨_, t0, t1, t2, t3, _⟩ := HK.out.t
    have ew : IntKind.i64.wrap (f + (l * 64 + a + n) / 640) = f + (l * 64 + a + n) / 640 := by rw [IntKind.wrap_i64]; omega
    obtain ⟨_, r0, r1, r2, r3, _⟩ := HK.out.r
    have tf := HK.out.t.f
    have rz := HK.out.r.z
    have rf := HK.out.r.f
    go_region_with ((go_at_call 12; refine (Bm.often_any 640 _ B _ (by omega) (by omega) (by first | exact HK.out.q | exact HK.out.drew.q) (by first | exact HK.out.z | exact HK.out.drew.z)).mono ?_; rintro e w0 ⟨rfl, rfl⟩))
    all_goals go_wp2
    all_goals
      have hF := HK.out.fin ((l * 64 + a + n) % 640 / 64) ((l * 64 + a + n) % 64) (f + (l * 64 + a + n) / 640)
      refine Pl.cutB (fun Y => Below w.heap.size w Y ∧ Y.rangeAt (w.heap.size + 1) 0 [.int .i64 (bmL l a n), .int .i64 (bmA l a n), .bool (bmG l a true n), .int .i64 (bmF l a f n)]) hF ?_
      rintro Y ⟨hY, hR⟩
      have hl := load_beam Y _ _ _ _ _ hR
      refine bodyPost_ret (v := .tuple #[.agg #[.int .i64 (bmL l a n), .int .i64 (bmA l a n), .bool (bmG l a true n), .int .i64 (bmF l a f n)], .int .i64 0]) ?_ rfl ⟨rfl, hY⟩
      simp only [results, Try.results5]
      simp
      show (Result.andThen (Sem.run Try.prog (loadVar 23 ⟨w.heap.size + 1, 0, none⟩) Y) _) = _
      rw [hl]
      rfl
theorem Bm.run_bad (l a f n : Int) (g : Bool) (w : World) (h : ¬ BOk l a f ∨ (BOk l a f ∧ ¬ (0 ≤ n ∧ n ≤ 20000))) :
    Calls Try.prog 5 #[.agg #[.int .i64 l, .int .i64 a, .bool g, .int .i64 f], .int .i64 n] w fun e w' => e = .returned (.tuple #[.agg #[.int .i64 0, .int .i64 0, .bool false, .int .i64 0], .int .i64 3]) ∧ Below w.heap.size w w' := by
  rcases h with h | ⟨h, hn⟩
  · have H := hid h
    clear h
    go_enter Try.func5, Try.ntmps5
    go_wp2_with (go_at_call 8; refine (Bm.check_no l a f _ _ H.out).mono ?_; rintro e w1 ⟨rfl, hb1⟩; obtain ⟨k1, f1⟩ := bcell hb1; have z1 : w.heap.size + 1 < w1.heap.size := Nat.lt_of_lt_of_le (by simp) hb1.size; have z0 : w.heap.size < w1.heap.size := Nat.lt_of_succ_lt z1)
    refine Pl.cutB (fun Y => Below w.heap.size w Y ∧ Y.rangeAt (w.heap.size + 1) 0 [.int .i64 0, .int .i64 0, .bool false, .int .i64 0]) (Bm.resB hb1) ?_
    rintro Y ⟨hY, hR⟩
    have hl := load_beam Y _ _ _ _ _ hR
    refine bodyPost_ret (v := .tuple #[.agg #[.int .i64 0, .int .i64 0, .bool false, .int .i64 0], .int .i64 3]) ?_ rfl ⟨rfl, hY⟩
    simp only [results, Try.results5]
    simp
    show (Result.andThen (Sem.run Try.prog (loadVar 23 ⟨w.heap.size + 1, 0, none⟩) Y) _) = _
    rw [hl]
    rfl
  · have H := hid h
    have hw := wthn_no hn
    clear h hn
    go_enter Try.func5, Try.ntmps5
    go_wp2_with (first
      | (go_at_call 8; refine (Bm.check_yes l a f _ _ H.out).mono ?_; rintro e w1 ⟨rfl, hb1⟩; obtain ⟨k1, f1⟩ := bcell hb1; have z1 : w.heap.size + 1 < w1.heap.size := Nat.lt_of_lt_of_le (by simp) hb1.size; have z0 : w.heap.size < w1.heap.size := Nat.lt_of_succ_lt z1)
      | (go_at_call 10; refine (Bm.within_any _ _ _).mono ?_; rintro e w0 ⟨rfl, rfl⟩))
    refine Pl.cutB (fun Y => Below w.heap.size w Y ∧ Y.rangeAt (w.heap.size + 1) 0 [.int .i64 0, .int .i64 0, .bool false, .int .i64 0]) (Bm.resB hb1) ?_
    rintro Y ⟨hY, hR⟩
    have hl := load_beam Y _ _ _ _ _ hR
    refine bodyPost_ret (v := .tuple #[.agg #[.int .i64 0, .int .i64 0, .bool false, .int .i64 0], .int .i64 3]) ?_ rfl ⟨rfl, hY⟩
    simp only [results, Try.results5]
    simp
    show (Result.andThen (Sem.run Try.prog (loadVar 23 ⟨w.heap.size + 1, 0, none⟩) Y) _) = _
    rw [hl]
    rfl
end Go.Proofs.Yteanddobckpcpaa
