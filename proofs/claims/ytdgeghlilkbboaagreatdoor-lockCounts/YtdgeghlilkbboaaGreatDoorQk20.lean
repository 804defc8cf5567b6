/-
  Parts of a proof, joined.
-/
import Derived.Test.YtdgeghlilkbboaaGreatDoorQk15
import Derived.Test.YtdgeghlilkbboaaGreatDoorQk19
import Derived.Test.YtdgeghlilkbboaaGreatDoorQk16
import Derived.Deep.RegionLaw
namespace Go.Proofs.YtdgeghlilkbboaaGreatDoor
open Go.ChangeShapes Go.WideShapes Go.ChangeAt Go.RowKit
set_option linter.unusedVariables false
set_option maxRecDepth 100000
theorem tick1_any (r c : Int) (g : Bool) (w : World) (hc : 0 ≤ c ∧ c ≤ 65535) :
    Calls Tryz.prog 74 #[.agg #[.int .u16 r, .int .u16 c, .bool true, .bool g]] w fun e w' => e = .returned (.agg #[.int .u16 r, .int .u16 (tkC r c true), .bool true, .bool (tkG c true g)]) ∧ Below w.heap.size w w' := by
  by_cases h : c = 0
  · subst h
    go_enter Tryz.func74, Tryz.ntmps74
    go_wp2
    refine bodyPost_ret (v := .agg _) (by simp [results, Tryz.results74, go_sem, tkC, tkG]) rfl ⟨rfl, ?_⟩
    exact (stA (stA (st0 _) _) _)
  · have hb : (c == 0) = false := by simpa using h
    have H := hid h
    clear h
    go_enter Tryz.func74, Tryz.ntmps74
    go_wp2
    have e : tkC r c true = c - 1 := by unfold tkC; simp [H.out]
    have e0 := H.out
    have e3 : IntKind.u16.wrap (c - 1) = c - 1 := by rw [IntKind.wrap_u16]; omega
    have e2 : tkG c true g = g := by unfold tkG; simp [H.out]
    rw [e, e2]
    refine bodyPost_ret (v := .agg _) (by simp [results, Tryz.results74, go_sem, e3]) rfl ⟨rfl, ?_⟩
    exact (stA (stA (st0 _) _) _)
theorem set1_any (r c : Int) (on g : Bool) (w : World) :
    Calls Tryz.prog 201 #[.agg #[.int .u16 r, .int .u16 c, .bool on, .bool g]] w fun e w' => e = .returned (.agg #[.int .u16 r, .int .u16 r, .bool on, .bool g]) ∧ Below w.heap.size w w' := by
  go_enter Tryz.func201, Tryz.ntmps201
  go_wp2
  refine bodyPost_ret (v := .agg _) (by simp [results, Tryz.results201, go_sem]; try rfl) rfl ⟨rfl, ?_⟩
  exact (stA (stA (st0 _) _) _)
theorem resT {w w1 : World} {o : Obj} (hb1 : Below ((w.alloc o).alloc (.cells #[.int .u16 0, .int .u16 0, .bool false, .bool false] 31)).heap.size ((w.alloc o).alloc (.cells #[.int .u16 0, .int .u16 0, .bool false, .bool false] 31)) w1) :
    w1.there (w.heap.size + 1) 0 4 ∧ Below w.heap.size w w1 := by
  refine ⟨Pl.there_old (Pl.there_new (w.alloc o) #[.int .u16 0, .int .u16 0, .bool false, .bool false] 31 4 (w.heap.size + 1) (by simp) rfl) hb1 (by simp), stp (stA (stA (st0 w) _) _) hb1⟩
theorem fin4 {w U : World} (r c : Int) (on g : Bool) (ht : U.there (w.heap.size + 1) 0 4) (hB : Below w.heap.size w U) :
    Below w.heap.size w ((((U.setCell ⟨w.heap.size + 1, 0, none⟩ (.int .u16 r)).setCell ⟨w.heap.size + 1, 1, none⟩ (.int .u16 c)).setCell ⟨w.heap.size + 1, 2, none⟩ (.bool on)).setCell ⟨w.heap.size + 1, 3, none⟩ (.bool g)) ∧
      ((((U.setCell ⟨w.heap.size + 1, 0, none⟩ (.int .u16 r)).setCell ⟨w.heap.size + 1, 1, none⟩ (.int .u16 c)).setCell ⟨w.heap.size + 1, 2, none⟩ (.bool on)).setCell ⟨w.heap.size + 1, 3, none⟩ (.bool g)).rangeAt (w.heap.size + 1) 0 [.int .u16 r, .int .u16 c, .bool on, .bool g] := by
  have h := World.rangeAt_setCells_same U (w.heap.size + 1) 0 [.int .u16 r, .int .u16 c, .bool on, .bool g] ht
  have h2 := Pl.below (Nat.le_succ w.heap.size) [.int .u16 r, .int .u16 c, .bool on, .bool g] 0 U hB
  simp only [World.setCells, Nat.zero_add, Nat.reduceAdd] at h h2
  exact ⟨h2, h⟩
/-! ### whenOn -/
theorem when_off (r c : Int) (g : Bool) (f : Value) (w : World) :
    Calls Tryz.prog 73 #[.agg #[.int .u16 r, .int .u16 c, .bool false, .bool g], f] w fun e w' => e = .returned (.agg #[.int .u16 r, .int .u16 c, .bool false, .bool g]) ∧ Below w.heap.size w w' := by
  go_enter Tryz.func73, Tryz.ntmps73
  go_wp2
  refine bodyPost_ret (v := .agg _) (by simp [results, Tryz.results73, go_sem]) rfl ⟨rfl, ?_⟩
  exact (stA (stA (st0 _) _) _)
theorem when_tick (r c : Int) (g : Bool) (w : World) (hc : 0 ≤ c ∧ c ≤ 65535) :
    Calls Tryz.prog 73 #[.agg #[.int .u16 r, .int .u16 c, .bool true, .bool g], .func (.func 74) #[] #[]] w fun e w' => e = .returned (.agg #[.int .u16 r, .int .u16 (tkC r c true), .bool true, .bool (tkG c true g)]) ∧ Below w.heap.size w w' := by
  go_enter Tryz.func73, Tryz.ntmps73
  go_wp2_with (go_at_call 74; refine (tick1_any _ _ _ _ hc).mono ?_; rintro e w1 ⟨rfl, hb1⟩; obtain ⟨k1, f1⟩ := bcell hb1; have z1 : w.heap.size + 1 < w1.heap.size := Nat.lt_of_lt_of_le (by simp) hb1.size)
  have hF := fin4 r (tkC r c true) true (tkG c true g) (resT hb1).1 (resT hb1).2
  refine Pl.cutB (fun Y => Below w.heap.size w Y ∧ Y.rangeAt (w.heap.size + 1) 0 [.int .u16 r, .int .u16 (tkC r c true), .bool true, .bool (tkG c true g)]) hF ?_
  rintro Y ⟨hY, hR⟩
  exact bodyPost_ret (v := .agg _) (by simp only [results, Tryz.results73]; simp; exact Pl.res (load_timer _ _ _ _ _ _ hR)) rfl ⟨rfl, hY⟩
theorem when_set (r c : Int) (g : Bool) (w : World) :
    Calls Tryz.prog 73 #[.agg #[.int .u16 r, .int .u16 c, .bool true, .bool g], .func (.func 201) #[] #[]] w fun e w' => e = .returned (.agg #[.int .u16 r, .int .u16 r, .bool true, .bool g]) ∧ Below w.heap.size w w' := by
  go_enter Tryz.func73, Tryz.ntmps73
  go_wp2_with (go_at_call 201; refine (set1_any _ _ _ _ _).mono ?_; rintro e w1 ⟨rfl, hb1⟩; obtain ⟨k1, f1⟩ := bcell hb1; have z1 : w.heap.size + 1 < w1.heap.size := Nat.lt_of_lt_of_le (by simp) hb1.size)
  have hF := fin4 r r true g (resT hb1).1 (resT hb1).2
  refine Pl.cutB (fun Y => Below w.heap.size w Y ∧ Y.rangeAt (w.heap.size + 1) 0 [.int .u16 r, .int .u16 r, .bool true, .bool g]) hF ?_
  rintro Y ⟨hY, hR⟩
  exact bodyPost_ret (v := .agg _) (by simp only [results, Tryz.results73]; simp; exact Pl.res (load_timer _ _ _ _ _ _ hR)) rfl ⟨rfl, hY⟩
/-! ### Set, Tick, Run -/
theorem Tm.tick_any (r c : Int) (on g : Bool) (w : World) (hc : 0 ≤ c ∧ c ≤ 65535) :
    Calls Tryz.prog 47 #[.agg #[.int .u16 r, .int .u16 c, .bool on, .bool g]] w fun e w' => e = .returned (.agg #[.int .u16 r, .int .u16 (tkC r c on), .bool on, .bool (tkG c on g)]) ∧ Below w.heap.size w w' := by
  cases on
  · go_enter Tryz.func47, Tryz.ntmps47
    go_wp2_with (go_at_call 73; refine (when_off _ _ _ _ _).mono ?_; rintro e w1 ⟨rfl, hb1⟩; obtain ⟨k1, f1⟩ := bcell hb1; have z1 : w.heap.size + 1 < w1.heap.size := Nat.lt_of_lt_of_le (by simp) hb1.size)
    have hF := fin4 r c false g (resT hb1).1 (resT hb1).2
    refine Pl.cutB (fun Y => Below w.heap.size w Y ∧ Y.rangeAt (w.heap.size + 1) 0 [.int .u16 r, .int .u16 c, .bool false, .bool g]) hF ?_
    rintro Y ⟨hY, hR⟩
    exact bodyPost_ret (v := .agg _) (by simp only [results, Tryz.results47]; simp; exact Pl.res (load_timer _ _ _ _ _ _ hR)) rfl ⟨rfl, hY⟩
  · go_enter Tryz.func47, Tryz.ntmps47
    go_wp2_with (go_at_call 73; refine (when_tick _ _ _ _ hc).mono ?_; rintro e w1 ⟨rfl, hb1⟩; obtain ⟨k1, f1⟩ := bcell hb1; have z1 : w.heap.size + 1 < w1.heap.size := Nat.lt_of_lt_of_le (by simp) hb1.size)
    have hF := fin4 r (tkC r c true) true (tkG c true g) (resT hb1).1 (resT hb1).2
    refine Pl.cutB (fun Y => Below w.heap.size w Y ∧ Y.rangeAt (w.heap.size + 1) 0 [.int .u16 r, .int .u16 (tkC r c true), .bool true, .bool (tkG c true g)]) hF ?_
    rintro Y ⟨hY, hR⟩
    exact bodyPost_ret (v := .agg _) (by simp only [results, Tryz.results47]; simp; exact Pl.res (load_timer _ _ _ _ _ _ hR)) rfl ⟨rfl, hY⟩
theorem set_any (r c : Int) (o0 on g : Bool) (w : World) :
    Calls Tryz.prog 174 #[.agg #[.int .u16 r, .int .u16 c, .bool o0, .bool g], .bool on] w fun e w' => e = .returned (.agg #[.int .u16 r, .int .u16 (sel on r c), .bool on, .bool g]) ∧ Below w.heap.size w w' := by
  cases on
  · go_enter Tryz.func174, Tryz.ntmps174
    go_wp2_with (go_at_call 73; refine (when_off _ _ _ _ _).mono ?_; rintro e w1 ⟨rfl, hb1⟩; obtain ⟨k1, f1⟩ := bcell hb1; have z1 : w.heap.size + 1 < w1.heap.size := Nat.lt_of_lt_of_le (by simp) hb1.size)
    have hF := fin4 r c false g (resT hb1).1 (resT hb1).2
    refine Pl.cutB (fun Y => Below w.heap.size w Y ∧ Y.rangeAt (w.heap.size + 1) 0 [.int .u16 r, .int .u16 c, .bool false, .bool g]) hF ?_
    rintro Y ⟨hY, hR⟩
    exact bodyPost_ret (v := .agg _) (by simp only [results, Tryz.results174]; simp; exact Pl.res (load_timer _ _ _ _ _ _ hR)) rfl ⟨rfl, hY⟩
  · go_enter Tryz.func174, Tryz.ntmps174
    go_wp2_with (go_at_call 73; refine (when_set _ _ _ _).mono ?_; rintro e w1 ⟨rfl, hb1⟩; obtain ⟨k1, f1⟩ := bcell hb1; have z1 : w.heap.size + 1 < w1.heap.size := Nat.lt_of_lt_of_le (by simp) hb1.size)
    have hF := fin4 r r true g (resT hb1).1 (resT hb1).2
    refine Pl.cutB (fun Y => Below w.heap.size w Y ∧ Y.rangeAt (w.heap.size + 1) 0 [.int .u16 r, .int .u16 r, .bool true, .bool g]) hF ?_
    rintro Y ⟨hY, hR⟩
    exact bodyPost_ret (v := .agg _) (by simp only [results, Tryz.results174]; simp; exact Pl.res (load_timer _ _ _ _ _ _ hR)) rfl ⟨rfl, hY⟩
section
variable {F : Fx} {W : World} {M M' : Mach} {tk : Tk}
theorem and_two : ∀ s : Nat, s < 256 → bits .and .u8 (s : Int) 2 = ((s : Int) / 2 % 2) * 2 := by decide +kernel
theorem and_two' (s : Int) (h : 0 ≤ s ∧ s ≤ 255) : bits .and .u8 s 2 = s / 2 % 2 * 2 := by
  obtain ⟨k, rfl⟩ := Int.eq_ofNat_of_zero_le h.1
  exact and_two k (by omega)
theorem odd_cases (x : Int) : (x % 2 = 0 ∧ odd x = false) ∨ (x % 2 = 1 ∧ odd x = true) := by
  unfold odd
  rcases (by omega : x % 2 = 0 ∨ x % 2 = 1) with h | h
  · exact Or.inl ⟨h, by rw [h]; rfl⟩
  · exact Or.inr ⟨h, by rw [h]; rfl⟩
theorem sel_bd {l : Bool} {a b : Int} (ha : bd16 a) (hb : bd16 b) : bd16 (sel l a b) := sel_ind (P := bd16) l ha hb
theorem TM.put_bd {t : TM} (n : Int) (h1 : bd16 t.r) (h2 : bd16 t.c) : bd16 (t.put n).r ∧ bd16 (t.put n).c := ⟨h1, sel_bd h1 h2⟩
set_option maxHeartbeats 1600000 in
theorem Bu.timer_w (h : Bd F W M tk) (n : Int) (hn : 0 ≤ n ∧ n ≤ 255) : Calls Tryz.prog 129 #[pt F.g 0, .int .u8 n] W fun e w' => e = .returned (.tuple #[]) ∧ Bd F w' (M.putM 4 n) tk ∧ Bt F W w' := by
  have c0 := h.at 41 (.int .u16 M.t.r) rfl
  have c1 := h.at 42 (.int .u16 M.t.c) rfl
  have c2 := h.at 43 (.bool M.t.on) rfl
  have c3 := h.at 44 (.bool M.t.g) rfl
  have ff := h.bx.f
  have hg := h.bx.z
  have H := hid h
  have hk := TM.put_bd (t := M.t) n h.fit.tr h.fit.tc
  have a1 := and_one' n hn
  have a2 := and_two' n hn
  have e0 : M.putM 4 n = { M with t := M.t.put n } := rfl
  rw [e0]
  have hf : Mach.fit { M with t := M.t.put n } := { H.out.fit with main := H.out.fit.main, tr := hk.1, tc := hk.2 }
  have HF := hid hf
  clear h hf e0
  rcases odd_cases n with ⟨p, q⟩ | ⟨p, q⟩
  all_goals
    rw [p] at a1
    rcases odd_cases (n / 2) with ⟨r, s⟩ | ⟨r, s⟩
  all_goals
    rw [r] at a2
    have HQ := hid q
    have HS := hid s
    clear p q r s
  · go_enter Tryz.func129, Tryz.ntmps129
    go_wp2_with (go_at_call 174; refine (set_any _ _ _ _ _ _).mono ?_; rintro e w1 ⟨rfl, hb1⟩; obtain ⟨k1, f1⟩ := bcell hb1; have z2 : F.g < w1.heap.size := lt_old hg hb1 (by simp))
    go_end0
    refine ⟨rfl, ?_, ?_⟩
    · exact (H.out.kept hb1).puts (M' := { M with t := M.t.put n }) (tk' := tk) 41 [.int .u16 M.t.r, .int .u16 (sel false M.t.r M.t.c), .bool false, .bool M.t.g] (by simp) (by unfold TM.put; rw [HQ.out, HS.out]; rfl) ⟨rfl, rfl, rfl, rfl, rfl⟩ HF.out
    · exact Bt.sets H.out.nd [.int .u16 M.t.r, .int .u16 (sel false M.t.r M.t.c), .bool false, .bool M.t.g] 41 _ (Bt.kept (Bt.refl F W) H.out.big hb1)
  · go_enter Tryz.func129, Tryz.ntmps129
    go_wp2_with (go_at_call 174; refine (set_any _ _ _ _ _ _).mono ?_; rintro e w1 ⟨rfl, hb1⟩; obtain ⟨k1, f1⟩ := bcell hb1; have z2 : F.g < w1.heap.size := lt_old hg hb1 (by simp))
    go_end0
    refine ⟨rfl, ?_, ?_⟩
    · exact ((H.out.kept hb1).puts (M' := { M with t := ⟨M.t.r, sel false M.t.r M.t.c, false, M.t.g⟩ }) (tk' := tk) 41 [.int .u16 M.t.r, .int .u16 (sel false M.t.r M.t.c), .bool false, .bool M.t.g] (by simp) rfl ⟨rfl, rfl, rfl, rfl, rfl⟩ { H.out.fit with main := H.out.fit.main, tr := H.out.fit.tr, tc := sel_bd (l := false) (a := M.t.r) (b := M.t.c) H.out.fit.tr H.out.fit.tc }).put 44 (.bool false) (by omega) (by unfold TM.put; rw [HQ.out, HS.out]; rfl) ⟨rfl, rfl, rfl, rfl, rfl⟩ HF.out
    · exact Bt.set H.out.nd (Bt.sets H.out.nd [.int .u16 M.t.r, .int .u16 (sel false M.t.r M.t.c), .bool false, .bool M.t.g] 41 _ (Bt.kept (Bt.refl F W) H.out.big hb1)) 44 _
  · go_enter Tryz.func129, Tryz.ntmps129
    go_wp2_with (go_at_call 174; refine (set_any _ _ _ _ _ _).mono ?_; rintro e w1 ⟨rfl, hb1⟩; obtain ⟨k1, f1⟩ := bcell hb1; have z2 : F.g < w1.heap.size := lt_old hg hb1 (by simp))
    go_end0
    refine ⟨rfl, ?_, ?_⟩
    · exact (H.out.kept hb1).puts (M' := { M with t := M.t.put n }) (tk' := tk) 41 [.int .u16 M.t.r, .int .u16 (sel true M.t.r M.t.c), .bool true, .bool M.t.g] (by simp) (by unfold TM.put; rw [HQ.out, HS.out]; rfl) ⟨rfl, rfl, rfl, rfl, rfl⟩ HF.out
    · exact Bt.sets H.out.nd [.int .u16 M.t.r, .int .u16 (sel true M.t.r M.t.c), .bool true, .bool M.t.g] 41 _ (Bt.kept (Bt.refl F W) H.out.big hb1)
  · go_enter Tryz.func129, Tryz.ntmps129
    go_wp2_with (go_at_call 174; refine (set_any _ _ _ _ _ _).mono ?_; rintro e w1 ⟨rfl, hb1⟩; obtain ⟨k1, f1⟩ := bcell hb1; have z2 : F.g < w1.heap.size := lt_old hg hb1 (by simp))
    go_end0
    refine ⟨rfl, ?_, ?_⟩
    · exact ((H.out.kept hb1).puts (M' := { M with t := ⟨M.t.r, sel true M.t.r M.t.c, true, M.t.g⟩ }) (tk' := tk) 41 [.int .u16 M.t.r, .int .u16 (sel true M.t.r M.t.c), .bool true, .bool M.t.g] (by simp) rfl ⟨rfl, rfl, rfl, rfl, rfl⟩ { H.out.fit with main := H.out.fit.main, tr := H.out.fit.tr, tc := sel_bd (l := true) (a := M.t.r) (b := M.t.c) H.out.fit.tr H.out.fit.tc }).put 44 (.bool false) (by omega) (by unfold TM.put; rw [HQ.out, HS.out]; rfl) ⟨rfl, rfl, rfl, rfl, rfl⟩ HF.out
    · exact Bt.set H.out.nd (Bt.sets H.out.nd [.int .u16 M.t.r, .int .u16 (sel true M.t.r M.t.c), .bool true, .bool M.t.g] 41 _ (Bt.kept (Bt.refl F W) H.out.big hb1)) 44 _
end
section
variable {F : Fx} {W : World} {M M' : Mach} {tk : Tk}
theorem lookM_bd (M : Mach) (a : Int) : 0 ≤ M.lookM a ∧ M.lookM a ≤ 255 := by
  unfold Mach.lookM romAt
  split
  · split
    · exact bget_bd _ _
    · omega
  · split
    · exact bget_bd _ _
    · split
      · exact bget_bd _ _
      · omega
theorem xfer_rest (M : Mach) (k : Nat) : (M.xfer k).fr = M.fr ∧ (M.xfer k).to = M.to ∧ (M.xfer k).mrom = M.mrom ∧ (M.xfer k).ram = M.ram ∧ (M.xfer k).video.length = M.video.length ∧ { M.xfer k with video := M.video } = M := by
  induction k with
  | zero => exact ⟨rfl, rfl, rfl, rfl, rfl, rfl⟩
  | succ k ih =>
    obtain ⟨h1, h2, h3, h4, h5, h6⟩ := ih
    exact ⟨h1, h2, h3, h4, by simp [Mach.xfer, bput_len, h5], h6⟩
theorem Bd.xf (h : Bd F W M tk) (cap : Nat) (hc : F.S.vi = .slice (some ⟨F.vi, 0, none⟩) 256 cap) : W.cell? ⟨F.g, 34, none⟩ = some (.slice (some ⟨F.vi, 0, none⟩) 256 cap) ∧ W.cell? ⟨F.g, 65, none⟩ = some (.int .u16 M.fr) ∧ W.cell? ⟨F.g, 66, none⟩ = some (.int .u16 M.to) :=
  ⟨by rw [← hc]; exact h.at 34 _ rfl, h.at 65 _ rfl, h.at 66 _ rfl⟩
theorem xf_keep {a b c : Value} {o : Nat} {v : Value} (hne : F.g ≠ F.vi) (h : W.cell? ⟨F.g, 34, none⟩ = some a ∧ W.cell? ⟨F.g, 65, none⟩ = some b ∧ W.cell? ⟨F.g, 66, none⟩ = some c) :
    (W.setCell ⟨F.vi, o, none⟩ v).drew.cell? ⟨F.g, 34, none⟩ = some a ∧ (W.setCell ⟨F.vi, o, none⟩ v).drew.cell? ⟨F.g, 65, none⟩ = some b ∧ (W.setCell ⟨F.vi, o, none⟩ v).drew.cell? ⟨F.g, 66, none⟩ = some c :=
  ⟨keep_far hne h.1, keep_far hne h.2.1, keep_far hne h.2.2⟩
set_option maxHeartbeats 3200000 in
theorem Bu.xfer_w (h : Bd F W M tk) (n : Int) (hn : 0 ≤ n ∧ n ≤ 255) (htk : 0 ≤ tk.n ∧ tk.n ≤ 1000000000000) : Calls Tryz.prog 134 #[pt F.g 0, .int .u8 n] W fun e w' => e = .returned (.tuple #[]) ∧ Bd F w' (M.putM 14 n) (tk.add (2 * n)) ∧ Bt F W w' := by
  obtain ⟨cap, hcap, _, _⟩ := h.viV
  have HC := hid hcap
  obtain ⟨N, rfl⟩ := Int.eq_ofNat_of_zero_le hn.1
  have hN : N ≤ 255 := by omega
  have H := hid h
  have hfr := h.fit.fr
  have hto := h.fit.to
  have hne := h.nd.d.2.2.1
  clear h hcap
  go_enter Tryz.func134, Tryz.ntmps134
  go_wp2
  go_loopw [7] (fun i wr => ∃ k : Nat, k ≤ N ∧ i = .int .u16 k ∧ Bd F wr (M.xfer k) tk ∧ Bt F W wr) (fun i _ => N - (intOf i).toNat)
  case atStart => exact ⟨0, by omega, rfl, H.out, Bt.refl _ _⟩
  case round =>
    obtain ⟨k, hk, rfl, hB, hT⟩ := hrel
    by_cases hlt : k < N
    · have HB := hid hB
      have HT := hid hT
      obtain ⟨r1, r2, _, _, r5, _⟩ := xfer_rest M k
      obtain ⟨c1, c2, c3⟩ := hB.xf cap HC.out
      rw [r1] at c2
      rw [r2] at c3
      have hg := hB.bx.z
      obtain ⟨v1, v2, v3⟩ := hB.viAt ((M.to + k) % 65536 % 256) (by omega) (by omega)
      have hlt2 : (k : Int) < N := by omega
      have hcell : ∀ w : World, Calls Tryz.prog 123 #[.slice (some ⟨F.vi, 0, none⟩) 256 cap, .int .u16 ((M.to + k) % 65536)] w fun e w' => e = .returned (pt F.vi ((M.to + k) % 65536 % 256).toNat) ∧ w = w' := fun w => Bu.cell_any F.vi 256 cap ((M.to + k) % 65536) w (by omega) (by omega) (by omega)
      have hput := hid (HB.out.drew.putVideo ((M.to + k) % 65536 % 256) ((M.xfer k).lookM ((M.fr + k) % 65536)) (by omega) (by omega) (lookM_bd _ _))
      have hmv := hid (Bt.setV HB.out.nd HT.out.drew ((M.to + k) % 65536 % 256).toNat (.int .u8 ((M.xfer k).lookM ((M.fr + k) % 65536))))
      clear hB hT
      have hlook := hid (Bu.look_M HB.out.drew ((M.fr + k) % 65536) (by omega))
      generalize hj : ((M.to + k) % 65536 % 256).toNat = j at *
      generalize hx : (M.xfer k).lookM ((M.fr + k) % 65536) = x at *
      have HCL := hid hcell
      have HJ := hid hj
      have HXX := hid hx
      clear hj hx hcell
      go_wp2
      go_region_held3 (fun w' => w'.cell? ⟨F.g, 34, none⟩ = some (.slice (some ⟨F.vi, 0, none⟩) 256 cap) ∧ w'.cell? ⟨F.g, 65, none⟩ = some (.int .u16 M.fr) ∧ w'.cell? ⟨F.g, 66, none⟩ = some (.int .u16 M.to))
        ((first | (with_reducible exact ⟨c1, c2, c3⟩) | (with_reducible exact xf_keep hne ⟨c1, c2, c3⟩) | (go_keep; done)))
        ((first
          | (go_at_call 123; refine (HCL.out _).mono ?_; rintro e w1 ⟨rfl, rfl⟩)
          | (go_at_call 157; refine hlook.out.mono ?_; rintro e w1 ⟨rfl, rfl⟩)))
      go_wp2
      go_roundw
      case rel =>
        refine ⟨k + 1, by omega, by go_num, ?_, hmv.out⟩
        have hp := hput.out
        rw [← HXX.out] at hp
        rw [← HXX.out]
        exact hp
      case measure => simp [intOf]; omega
    · obtain rfl : k = N := by omega
      have c1 := hB.at 75 (.int .i64 tk.n) rfl
      have f1 := hB.bx.f 75
      have hg := hB.bx.z
      have HB := hid hB
      have HT := hid hT
      have e0 : M.putM 14 (k : Int) = M.xfer k := by show M.xfer (k : Int).toNat = _; rw [Int.toNat_natCast]
      have E0 := hid e0
      clear hB hT e0
      go_wp2
      go_end0
      rw [E0.out]
      exact ⟨rfl, HB.out.put 75 _ (by omega) rfl ⟨rfl, rfl, rfl, rfl, rfl⟩ HB.out.fit, HT.out.set HB.out.nd 75 _⟩
end
section
variable {F : Fx} {W : World} {M M' : Mach} {tk : Tk}
theorem Bu.fn_r (n : Nat) (a b : Array Value) (w : World) : (binOp .eql 129 (.func (.func n) a b) .nilFunc).run Tryz.prog w = .ok (.bool false) w := by kernel_rfl
abbrev reachV (g o : Nat) : Value := .agg #[mval 87 g o, mval 88 g o]
theorem Bu.main_any (g : Nat) (w : World) : Calls Tryz.prog 52 #[pt g 0] w fun e w' => e = .returned (reachV g 77) ∧ Below w.heap.size w w' := by
  go_enter Tryz.func52, Tryz.ntmps52
  go_wp2
  go_region_with fail
  all_goals go_wp2
  all_goals
    refine bodyPost_ret (v := .agg _) (by simp [results, Tryz.results52, go_sem]) rfl ⟨rfl, ?_⟩
    exact (stA (st0 _) _).drew
theorem Bu.aux_any (g : Nat) (w : World) : Calls Tryz.prog 72 #[pt g 0] w fun e w' => e = .returned (reachV g 143) ∧ Below w.heap.size w w' := by
  go_enter Tryz.func72, Tryz.ntmps72
  go_wp2
  go_region_with fail
  all_goals go_wp2
  all_goals
    refine bodyPost_ret (v := .agg _) (by simp [results, Tryz.results72, go_sem]) rfl ⟨rfl, ?_⟩
    exact (stA (st0 _) _).drew
def ReadsAt (F : Fx) (M : Mach) (tk : Tk) (o : Nat) (a x : Int) : Prop := ∀ W, Bd F W M tk → Calls Tryz.prog 87 #[pt F.g o, .int .u16 a] W fun e w' => e = .returned (.int .u8 x) ∧ Bd F w' M tk ∧ Bt F W w'
theorem Bu.byte_at (h : Bd F W M tk) (o : Nat) (a x : Int) (hr : ReadsAt F M tk o a x) : Calls Tryz.prog 153 #[reachV F.g o, .int .u16 a] W fun e w' => e = .returned (.int .u8 x) ∧ Bd F w' M tk ∧ Bt F W w' := by
  have hn := Bu.fn_r 87 #[pt F.g o] #[]
  have H := hid h
  clear h
  go_enter Tryz.func153, Tryz.ntmps153
  go_wp2_with (go_at_call 87; refine (hr _ (H.out.over _)).mono ?_; rintro e w1 ⟨rfl, hB1, hT1⟩)
  go_ret
  exact ⟨rfl, hB1, Mv.trans (Mv.of_below H.out.big (stA (st0 _) _)) hT1⟩
end
section
variable {F : Fx} {W : World} {M : Mach} {tk : Tk}
theorem Bu.read_A (h : Bd F W M tk) (a : Int) (ha : 0 ≤ a ∧ a ≤ 65535) (hp : ∀ i, i < 32 → GetA F M tk i) :
    Calls Tryz.prog 87 #[pt F.g 143, .int .u16 a] W fun e w' => e = .returned (.int .u8 (M.rdA a).1) ∧ Bd F w' (M.rdA a).2 tk ∧ Bt F W w' := by
  unfold Mach.rdA
  cases hP : isPort a
  · have hl := hid (Bu.look_A h a ha)
    have hP' := hid hP
    have H := hid h
    clear h hP hp
    go_enter Tryz.func87, Tryz.ntmps87
    go_wp2_with (first
      | (go_at_call 155; refine (Bu.isPort_any a _ ha).mono ?_; rw [hP'.out]; rintro e w1 ⟨rfl, rfl⟩)
      | (go_at_call 157; refine hl.out.mono ?_; rintro e w1 ⟨rfl, rfl⟩))
    go_ret
    exact ⟨rfl, H.out, Bt.refl _ _⟩
  · obtain ⟨n, hn⟩ : ∃ n : Nat, a % 32 = n := ⟨(a % 32).toNat, by omega⟩
    have hn2 : n < 32 := by omega
    have hm : Int.tmod a 32 = n := by rw [Int.tmod_eq_emod_of_nonneg ha.1, hn]
    have hq := hid (hp n hn2 W h)
    have hP' := hid hP
    have e0 : portNo a = n := by unfold portNo; omega
    rw [e0]
    obtain ⟨c0, c1⟩ := h.pA n hn2
    have hg := h.bx.z
    have hn3 : (n : Int) < 32 := by omega
    clear h hP hp e0
    generalize F.rdA n = vr at *
    generalize F.wrA n = vw at *
    go_enter Tryz.func87, Tryz.ntmps87
    go_wp2_with (first
      | (go_at_call 155; refine (Bu.isPort_any a _ ha).mono ?_; rw [hP'.out]; rintro e w1 ⟨rfl, rfl⟩)
      | (go_at_call 156; refine hq.out.mono ?_; rintro e w1 ⟨rfl, hB1, hB2⟩))
    go_ret
    exact ⟨rfl, hB1, hB2⟩
set_option maxHeartbeats 800000 in
theorem Bu.write_M (h : Bd F W M tk) (a n : Int) (ha : 0 ≤ a ∧ a ≤ 65535) (hn : 0 ≤ n ∧ n ≤ 255) (hp : ∀ i, i < 32 → PutM F M tk i n) :
    Calls Tryz.prog 88 #[pt F.g 77, .int .u16 a, .int .u8 n] W fun e w' => e = .returned (.tuple #[]) ∧ Bd F w' (M.wrM a n) (tk.add (tookM a n)) ∧ Bt F W w' := by
  unfold Mach.wrM tookM
  cases hP : isPort a
  · have hm := hid (Bu.mem_M h a ha)
    have e77 := h.at 78 (mval 65 F.g 0) rfl
    have hP' := hid hP
    have H := hid h
    have hg := h.bx.z
    clear h hP hp
    simp only [Bool.false_eq_true, if_false, Tk.add_zero]
    unfold Mach.memM
    unfold Fx.memM at hm
    by_cases h1 : a < 32768
    · rw [if_pos h1]
      rw [if_pos h1] at hm
      go_enter Tryz.func88, Tryz.ntmps88
      go_wp2_with (first
        | (go_at_call 155; refine (Bu.isPort_any a _ ha).mono ?_; rw [hP'.out]; rintro e w1 ⟨rfl, rfl⟩)
        | (go_at_call 65; refine hm.out.mono ?_; rintro e w1 ⟨rfl, rfl⟩))
      go_end0
      exact ⟨rfl, H.out, Bt.refl _ _⟩
    · rw [if_neg h1]
      rw [if_neg h1] at hm
      by_cases h2 : a < 49152
      · rw [if_pos h2]
        rw [if_pos h2] at hm
        obtain ⟨ec, ez, ef⟩ := H.out.ramAt ((a - 32768) % 128) (by omega) (by omega)
        go_enter Tryz.func88, Tryz.ntmps88
        go_wp2_with (first
          | (go_at_call 155; refine (Bu.isPort_any a _ ha).mono ?_; rw [hP'.out]; rintro e w1 ⟨rfl, rfl⟩)
          | (go_at_call 65; refine hm.out.mono ?_; rintro e w1 ⟨rfl, rfl⟩))
        go_end0
        exact ⟨rfl, H.out.putRam _ n (by omega) (by omega) hn, (Bt.refl _ _).setR H.out.nd _ _⟩
      · rw [if_neg h2]
        rw [if_neg h2] at hm
        by_cases h3 : a < 53248
        · rw [if_pos h3]
          rw [if_pos h3] at hm
          obtain ⟨ec, ez, ef⟩ := H.out.viAt ((a - 49152) % 256) (by omega) (by omega)
          go_enter Tryz.func88, Tryz.ntmps88
          go_wp2_with (first
            | (go_at_call 155; refine (Bu.isPort_any a _ ha).mono ?_; rw [hP'.out]; rintro e w1 ⟨rfl, rfl⟩)
            | (go_at_call 65; refine hm.out.mono ?_; rintro e w1 ⟨rfl, rfl⟩))
          go_end0
          exact ⟨rfl, H.out.putVideo _ n (by omega) (by omega) hn, (Bt.refl _ _).setV H.out.nd _ _⟩
        · rw [if_neg h3]
          rw [if_neg h3] at hm
          go_enter Tryz.func88, Tryz.ntmps88
          go_wp2_with (first
            | (go_at_call 155; refine (Bu.isPort_any a _ ha).mono ?_; rw [hP'.out]; rintro e w1 ⟨rfl, rfl⟩)
            | (go_at_call 65; refine hm.out.mono ?_; rintro e w1 ⟨rfl, rfl⟩))
          go_end0
          exact ⟨rfl, H.out, Bt.refl _ _⟩
  · obtain ⟨k, hk⟩ : ∃ k : Nat, a % 32 = k := ⟨(a % 32).toNat, by omega⟩
    have hk2 : k < 32 := by omega
    have hm : Int.tmod a 32 = k := by rw [Int.tmod_eq_emod_of_nonneg ha.1, hk]
    have hq := hid (hp k hk2 W h)
    have hP' := hid hP
    have e0 : portNo a = k := by unfold portNo; omega
    simp only [if_true]
    rw [e0]
    obtain ⟨c0, c1⟩ := h.pM k hk2
    have hg := h.bx.z
    have hk3 : (k : Int) < 32 := by omega
    clear h hP hp e0
    generalize F.rdM k = vr at *
    generalize F.wrM k = vw at *
    go_enter Tryz.func88, Tryz.ntmps88
    go_wp2_with (first
      | (go_at_call 155; refine (Bu.isPort_any a _ ha).mono ?_; rw [hP'.out]; rintro e w1 ⟨rfl, rfl⟩)
      | (go_at_call 158; refine hq.out.mono ?_; rintro e w1 ⟨rfl, hB1, hB2⟩))
    go_end0
    exact ⟨rfl, hB1, hB2⟩
end
section
variable {F : Fx} {W : World} {M M' : Mach} {tk : Tk}
theorem Bd.fresh (h : Bd F W M tk) (ht : F.T W.heap.size) : False := by
  have h1 := h.bx.z
  obtain ⟨_, _, _, h2⟩ := h.ramV
  obtain ⟨_, _, _, h3⟩ := h.ownV
  obtain ⟨_, _, _, h4⟩ := h.viV
  have h2 := h2.z
  have h3 := h3.z
  have h4 := h4.z
  rcases ht with e | e | e | e <;> omega
theorem Bu.word_at (h : Bd F W M tk) (o : Nat) (x0 x1 : Int) (h0 : ReadsAt F M tk o 0 x0) (h1 : ReadsAt F M tk o 1 x1) (b0 : 0 ≤ x0 ∧ x0 ≤ 255) (b1 : 0 ≤ x1 ∧ x1 ≤ 255) :
    Calls Tryz.prog 86 #[reachV F.g o, .int .u16 0] W fun e w' => e = .returned (.int .u16 (x0 * 256 + x1)) ∧ Bd F w' M tk ∧ Bt F W w' := by
  have H := hid h
  have hB := h.big
  clear h
  go_enter Tryz.func86, Tryz.ntmps86
  go_wp2_with (first
    | (go_at_call 154; refine (Lnof_any x0 x1 _ b0 b1).mono ?_; rintro e w3 ⟨rfl, rfl⟩)
    | (go_at_call 153; refine (Bu.byte_at HB1.out o 1 x1 h1).mono ?_; rintro e w2 ⟨rfl, hB2, hT2⟩)
    | (go_at_call 153; refine (Bu.byte_at (H.out.over _) o 0 x0 h0).mono ?_; rintro e w1 ⟨rfl, hB1, hT1⟩; have HB1 := hid hB1; have hc := fun i => hT1.cell (k := W.heap.size) (by simp) (fun ht => H.out.fresh ht) i; have z1 : W.heap.size < w1.heap.size := Nat.lt_of_lt_of_le (by simp) hT1.size))
  go_ret
  exact ⟨rfl, hB2, Mv.trans (Mv.trans (Mv.of_below hB (stA (st0 _) _)) hT1) hT2⟩
end
section
variable {F : Fx} {W : World} {M M' : Mach} {tk : Tk}
def begL (x : Int) : List Value := [.int .u16 0, .int .u16 0, .int .u16 0, .int .u16 0, .int .u16 0, .int .u16 0, .int .u16 0, .int .u16 0, .int .u16 x, .bool false, .bool false, .bool false, .bool false, .bool false, .bool false]
theorem begL_eq (hi lo : Int) : begL (hi * 256 + lo) = cpuL (beginC hi lo) := rfl
theorem info_cpu : (Tryz.prog.info? 25).map (·.size) = some 15 := by kernel_rfl
theorem beg_one (x : Int) : (#[.int .u16 0, .int .u16 0, .int .u16 0, .int .u16 0, .int .u16 0, .int .u16 0, .int .u16 0, .int .u16 0, .int .u16 x, .bool false, .bool false, .bool false, .bool false, .bool false, .bool false] : Array Value).all (·.oneCell') = true := by simp [Value.oneCell']
theorem load_beg {Y : World} {b : Nat} {x : Int} (h : Bx Y b (begL x)) : (loadVar 25 ⟨b, 0, none⟩).run Tryz.prog Y = .ok (.agg (begL x).toArray) Y :=
  run_loadVar_mid Y b 0 25 _ _ h.c Tryz.underlying25 rfl info_cpu
theorem Rw.off {v : Value} {k : Nat} {l0 l : List UInt8} {w1 : World} {b : Nat} (h0 : Rw W v k l0) (h : Rw w1 v k l) (hb : W.heap.size ≤ b) (o : Nat) (vs : List Value) : Rw (w1.setCells b o vs) v k l := by
  rcases h with h | ⟨cap, e, hl, hx⟩
  · exact Or.inl h
  · rcases h0 with ⟨e0, _⟩ | ⟨cap0, e0, _, hx0⟩
    · rw [e0] at e; cases e
    · exact Or.inr ⟨cap, e, hl, hx.fars (by have := hx0.z; omega) o vs⟩
theorem Bd.off {M0 : Mach} {w1 : World} {b : Nat} (h0 : Bd F W M0 tk) (h : Bd F w1 M tk) (hb : W.heap.size ≤ b) (o : Nat) (vs : List Value) : Bd F (w1.setCells b o vs) M tk := by
  refine ⟨h.bx.fars (by have := h0.bx.z; omega) o vs, h0.mr.off h.mr hb o vs, h0.ar.off h.ar hb o vs, h0.ra.off h.ra hb o vs, h0.ow.off h.ow hb o vs, h0.vi.off h.vi hb o vs, fun x u hx => ?_, h.nd, h.fit, by rw [size_sets]; exact h.big, ows_of h.ws (fun k hk => heap_sets_far (by have := (h0.ws.lt k hk).2; omega) _ _ _), h.wd⟩
  have hn : x ≠ b := by have := (h0.env x u hx).1; omega
  obtain ⟨e1, e2⟩ := h.env x u hx
  exact ⟨by rw [size_sets]; exact e1, (World.cell?_of_block (w := w1) (heap_sets_far hn _ _ _)).trans e2⟩
theorem Bt.off {b : Nat} (hB : F.B ≤ W.heap.size) (hb : W.heap.size ≤ b) : ∀ (vs : List Value) (o : Nat) (w1 : World), Bt F W w1 → Bt F W (w1.setCells b o vs)
  | [], o, w1, h => h
  | v :: vs, o, w1, h => Bt.off hB hb vs (o + 1) _ (Mv.setCell h (Nat.le_trans hB hb) (Or.inr hb) v)
theorem Bt.below (h : Bd F W M tk) {w0 : World} (hb : Below W.heap.size W w0) : Bt F W w0 := Mv.of_below h.big hb
set_option maxHeartbeats 1600000 in
theorem Bu.begin_any (h : Bd F W M tk) (o : Nat) (x0 x1 : Int) (h0 : ReadsAt F M tk o 0 x0) (h1 : ReadsAt F M tk o 1 x1) (b0 : 0 ≤ x0 ∧ x0 ≤ 255) (b1 : 0 ≤ x1 ∧ x1 ≤ 255) :
    Calls Tryz.prog 51 #[reachV F.g o] W fun e w' => e = .returned (.agg (begL (x0 * 256 + x1)).toArray) ∧ Bd F w' M tk ∧ Bt F W w' := by
  have H := hid h
  have hB := h.big
  clear h
  go_enter Tryz.func51, Tryz.ntmps51
  go_wp2_with (first
    | (go_at_call 86; refine (Bu.word_at ((H.out.over _).over _) o x0 x1 h0 h1 b0 b1).mono ?_; rintro e w1 ⟨rfl, hB1, hT1⟩; have HX := hid (Bx.same (Bx.new _ (begL 0) _ (by simp)) hT1.size (hT1.block (W.heap.size + 1) (by simp) (fun ht => (H.out.over (.cells #[mval 87 F.g o, mval 88 F.g o] 132)).fresh (by simpa using ht)))); have HB1 := hid hB1; have HT1 := hid hT1; clear hB1 hT1)
    | (refine wpList_store_mid rfl 25 _ _ rfl (W.heap.size + 1) 0 _ rfl rfl (Bx.there HX.out 0 15 (by simp [begL])) info_cpu (beg_one _) ?_
       refine Pl.cutL (fun Y => Bd F Y M tk ∧ Bt F W Y ∧ Bx Y (W.heap.size + 1) (begL (x0 * 256 + x1))) ⟨?_, ?_, ?_⟩ ?_
       · exact Bd.off H.out HB1.out (Nat.le_succ _) 0 _
       · exact Bt.off hB (Nat.le_succ _) _ 0 _ (Mv.trans (Bt.below H.out (stA (stA (st0 _) _) _)) HT1.out)
       · exact HX.out.puts 0 (begL (x0 * 256 + x1)) (by simp [begL])
       rintro Y ⟨hY1, hY2, hY3⟩
       have HY1 := hid hY1
       have HY2 := hid hY2
       have HY3 := hid hY3
       clear hY1 hY2 hY3))
  exact bodyPost_ret (v := .agg _) (by simp only [results, Tryz.results51]; simp; exact Pl.res (load_beg HY3.out)) rfl ⟨rfl, HY1.out, HY2.out⟩
end
section
variable {F : Fx} {W : World} {M M' : Mach} {tk : Tk}
theorem lookA_bd (M : Mach) (a : Int) : 0 ≤ M.lookA a ∧ M.lookA a ≤ 255 := by
  unfold Mach.lookA romAt
  split
  · split
    · exact bget_bd _ _
    · omega
  · split
    · exact bget_bd _ _
    · split
      · split
        · exact bget_bd _ _
        · omega
      · omega
theorem Bu.reads_A (a : Int) (h0 : 0 ≤ a ∧ a ≤ 1) : ReadsAt F M tk 143 a (M.lookA a) := by
  intro W h
  have hP : isPort a = false := by unfold isPort; exact decide_eq_false (by omega)
  have hl := hid (Bu.look_A h a (by omega))
  have hP' := hid hP
  have H := hid h
  clear h hP
  go_enter Tryz.func87, Tryz.ntmps87
  go_wp2_with (first
    | (go_at_call 155; refine (Bu.isPort_any a _ (by omega)).mono ?_; rw [hP'.out]; rintro e w1 ⟨rfl, rfl⟩)
    | (go_at_call 157; refine hl.out.mono ?_; rintro e w1 ⟨rfl, rfl⟩))
  go_ret
  exact ⟨rfl, H.out, Bt.refl _ _⟩
theorem Bu.reads_M (a : Int) (h0 : 0 ≤ a ∧ a ≤ 1) : ReadsAt F M tk 77 a (M.lookM a) := by
  intro W h
  have hP : isPort a = false := by unfold isPort; exact decide_eq_false (by omega)
  have hl := hid (Bu.look_M h a (by omega))
  have hP' := hid hP
  have H := hid h
  clear h hP
  go_enter Tryz.func87, Tryz.ntmps87
  go_wp2_with (first
    | (go_at_call 155; refine (Bu.isPort_any a _ (by omega)).mono ?_; rw [hP'.out]; rintro e w1 ⟨rfl, rfl⟩)
    | (go_at_call 157; refine hl.out.mono ?_; rintro e w1 ⟨rfl, rfl⟩))
  go_ret
  exact ⟨rfl, H.out, Bt.refl _ _⟩
theorem grant_fit (h : M.fit) (n : Int) : (M.grant n).fit := { h with main := h.main }
theorem beg_ok (x y : Int) (hx : 0 ≤ x ∧ x ≤ 255) (hy : 0 ≤ y ∧ y ≤ 255) : (beginC x y).ok := by
  refine ⟨rfl, fun z hz => ?_, ?_, ?_⟩
  · have : z = 0 := by
      simp only [beginC, C.Cpu.zero, List.mem_cons, List.not_mem_nil, or_false] at hz
      omega
    omega
  · show 0 ≤ x * 256 + y; omega
  · show x * 256 + y ≤ 65535; omega
set_option maxHeartbeats 1600000 in
theorem Bu.aux_w0 (h : Bd F W M tk) (n : Int) (hn : 0 ≤ n ∧ n ≤ 255) (hh : (M.held && !(odd (n / 2))) = false) : Calls Tryz.prog 136 #[pt F.g 0, .int .u8 n] W fun e w' => e = .returned (.tuple #[]) ∧ Bd F w' (M.putM 16 n) tk ∧ Bt F W w' := by
  have c0 := h.at 67 (.bool M.granted) rfl
  have c1 := h.at 68 (.bool M.held) rfl
  have ff := h.bx.f
  have hg := h.bx.z
  have H := hid h
  have a1 := and_one' n hn
  have a2 := and_two' n hn
  have e0 : M.putM 16 n = M.grant n := by show M.letGo n = _; unfold Mach.letGo; rw [if_neg (by rw [hh]; decide)]
  rw [e0]
  have hp : Bd F ((W.setCell ⟨F.g, 67, none⟩ (.bool (odd n))).setCell ⟨F.g, 68, none⟩ (.bool (odd (n / 2)))) (M.grant n) tk :=
    (h.put (M' := { M with granted := odd n }) (tk' := tk) 67 _ (by omega) rfl ⟨rfl, rfl, rfl, rfl, rfl⟩ { h.fit with main := h.fit.main }).put 68 _ (by omega) rfl ⟨rfl, rfl, rfl, rfl, rfl⟩ (grant_fit h.fit n)
  have HP := hid hp
  clear h e0 hp
  generalize M.held = hd at *
  rcases odd_cases n with ⟨p, q⟩ | ⟨p, q⟩
  all_goals
    rw [p] at a1
    rw [q] at HP
    rcases odd_cases (n / 2) with ⟨r, s⟩ | ⟨r, s⟩
  all_goals
    rw [r] at a2
    rw [s] at HP hh
    clear p q r s
    cases hd
  all_goals first
    | (exfalso; revert hh; decide)
    | (clear hh
       go_enter Tryz.func136, Tryz.ntmps136
       go_wp2
       go_end0
       exact ⟨rfl, HP.out, ((Bt.refl _ _).set H.out.nd _ _).set H.out.nd _ _⟩)
end
theorem step_store_mid {P : Program} {ops : Array Oper} {op : Oper} {a : Act} {w : World} {K : Act → World → Prop} {Q : Exit → Act → World → Prop} {E : Prop} (hgd : op.guard = none) (ty : TypeId) (x y : Operand) (ho : op.op = .store ty x y)
    (b o : Nat) (cells : Array Value) (hx : a.eval x = .pointer (some ⟨b, o, none⟩)) (hy : a.eval y = .agg cells) (ht : w.there b o cells.size) (hi : (P.info? ty).map (·.size) = some cells.size) (h1 : cells.all (·.oneCell') = true)
    (h : K (a.put op.dst undef) (w.setCells b o cells.toList)) : if Region.wanted op (yielded ops a.tmps) = true then Oper.wp P op a w K Q else E := by
  rw [if_pos (by simp [Region.wanted, hgd])]
  exact wp_store_mid ty x y ho b o cells hx hy ht hi h1 h
theorem step_load_mid {P : Program} {ops : Array Oper} {op : Oper} {a : Act} {w : World} {K : Act → World → Prop} {Q : Exit → Act → World → Prop} {E : Prop} (hgd : op.guard = none) (ty : TypeId) (x : Operand) (ho : op.op = .load ty x)
    (b o : Nat) (hx : a.eval x = .pointer (some ⟨b, o, none⟩)) (cs : List Value) (u : TypeDesc) (hc : w.rangeAt b o cs) (hu : P.underlying ty = some u) (hag : u.isRow = true) (hi : (P.info? ty).map (·.size) = some cs.length)
    (h : K (a.put op.dst (.agg cs.toArray)) w) : if Region.wanted op (yielded ops a.tmps) = true then Oper.wp P op a w K Q else E := by
  rw [if_pos (by simp [Region.wanted, hgd])]
  exact wp_load_mid ty x ho b o hx cs u hc hu hag hi h
end Go.Proofs.YtdgeghlilkbboaaGreatDoor
