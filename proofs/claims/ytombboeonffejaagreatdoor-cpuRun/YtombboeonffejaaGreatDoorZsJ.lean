/-
  The reference: orders of two words, and rings.
-/
import Derived.Test.YtombboeonffejaaGreatDoorZsC
import Derived.Deep.DeepCutAuto
namespace Go.Proofs.YtombboeonffejaaGreatDoor
open Go.ChangeShapes Go.WideShapes Go.ChangeAt Go.RowKit
set_option linter.unusedVariables false

section
variable {σ : Type} {m : C.Mem σ} {B bs : Nat} {I : World → σ → Prop} {T : σ → Nat → Prop}
set_option maxRecDepth 100000 in
set_option maxHeartbeats 3200000 in
theorem rpre1_true (R : QS m B bs I T) (c : C.Cpu) (hc : c.ok) (w : World) (s s1 : σ) (a : Int) (hI : I w s) (hw : c.Waits = false) (hm : c.May = false)
    (h1 : ∀ W, I W s → Calls Tryz.prog 25 #[.agg #[gv bs, pv bs], .int .u16 c.PC] W fun e w' => e = .returned (.int .u16 a) ∧ I w' s1 ∧ Mv B (T s) (T s1) W w')
    (k d e1 : Nat) (n : Int) (hk : k < 32)
    (h2 : ∀ W, Facts W → Calls Tryz.prog 27 #[.int .u16 a, .int .u16 0] W fun e w' => e = .returned (.tuple #[.agg #[.int .i64 k, .int .i64 d, .int .i64 e1, .int .i64 n, .int .i64 0], .int .i64 1]) ∧ Below W.heap.size W w')
    (z : C.St σ) (HZ : Rest B bs I T w s k d e1 n 0 ⟨{ c with PC := (c.PC + 2) % 65536 }, s1, 0⟩ z) :
    Calls Tryz.prog 13 #[cpuV c, .agg #[gv bs, pv bs], .bool true] w (RP B I T w s z) := by
  have hB := R.big hI
  have hs0 := SW.start R c hc w s hI 0
  have hpc := hc.2.2
  have hw8 : IntKind.u16.wrap (c.PC + 2) = (c.PC + 2) % 65536 := u16w _
  simp only [cpuA] at hs0
  unfold cpuV
  generalize hcc : ({ c with PC := (c.PC + 2) % 65536 } : C.Cpu) = cc at HZ
  have HCC := hid hcc
  rw [hw] at hs0 ⊢
  rw [hm] at hs0 ⊢
  have HS := hid hs0
  have HR := hid R
  have H1 := hid h1
  have H2 := hid h2
  have hki : (0 : Int) ≤ k := by omega
  have hki2 : (k : Int) < 32 := by omega
  clear hI R hs0 h1 h2 hw hcc hm
  go_enter Tryz.func13, Tryz.ntmps13
  go_upto_region 14 with (first
    | (go_at_call 25; refine (H1.out _ HS.out.qc.inv).mono ?_; rintro e w1 ⟨rfl, hI1, hm1⟩; have S1 := hid (HS.out.moved hI1 hm1); clear hI1 hm1)
    | (go_at_call 27; refine (H2.out _ (HR.out.facts S1.out.qc.inv)).mono ?_; rintro e w2 ⟨rfl, hb2⟩; have S2 := hid (S1.out.kept HR.out hb2); obtain ⟨c8, _⟩ := S2.out.qc.cells; have z2 := S2.out.qc.lt; have f2 := S2.out.qc.frozen; clear hb2))
  have S3 : Hid (SW B bs I T w s (w2.setCell ⟨w.heap.size, 8, none⟩ (.int .u16 ((c.PC + 2) % 65536))) ⟨cc, s1, 0⟩) := by
    have h := S2.out.putPC HR.out ((c.PC + 2) % 65536) (by omega) (by omega)
    rw [← HCC.out]
    exact h
  go_cut [14] (fun p wx => ∃ kb, p = .pointer (some ⟨kb, 0, none⟩) ∧ KW B bs I T w s w2.heap.size kb k d e1 n 0 wx ⟨cc, s1, 0⟩)
  case first =>
    have ne2 : w.heap.size ≠ w2.heap.size := Nat.ne_of_lt z2
    have ne3 := Ne.symm ne2
    have o0 : ((w2.setCell ⟨w.heap.size, 8, none⟩ (.int .u16 ((c.PC + 2) % 65536))).alloc (.cells #[.int .i64 k, .int .i64 d, .int .i64 e1, .int .i64 n, .int .i64 0] 64)).cell? ⟨w2.heap.size, 0, none⟩ = some (.int .i64 k) := cell_new _ _ _ _ (by simp)
    have hz2 : w2.heap.size < ((w2.setCell ⟨w.heap.size, 8, none⟩ (.int .u16 ((c.PC + 2) % 65536))).alloc (.cells #[.int .i64 k, .int .i64 d, .int .i64 e1, .int .i64 n, .int .i64 0] 64)).heap.size := by simp
    go_region_with (go_at_call 28; refine (kinds_of _ ?_).mono ?_; (first | exact HR.out.facts (HR.out.same (HR.out.kept S3.out.qc.inv (stA (st0 _) _)) rfl) | exact HR.out.facts (HR.out.same (HR.out.kept S3.out.qc.inv (stA (stA (st0 _) _) _)) rfl)); rintro e w4 ⟨g, cap, rfl, htb, hg1, hg2, hb4⟩; obtain ⟨t0, t1, t2⟩ := htb k hk; clear htb; obtain ⟨hcX, hfX⟩ := bcell hb4; have o4 : w4.cell? ⟨w2.heap.size, 0, none⟩ = some (.int .i64 k) := (hcX _ _ (by simp <;> omega)).trans (by first | exact o0 | exact (World.cell?_alloc_lt _ _ _ hz2).trans o0); have z4 : w2.heap.size < w4.heap.size := Nat.lt_of_lt_of_le (by simp <;> omega) hb4.size; have HB4 := hid hb4; clear hb4)
    all_goals (go_wp2_with fail; go_meet)
    all_goals first
      | exact ⟨_, rfl, KW.meetA' HR.out S3.out (by simp) HB4.out⟩
      | exact ⟨_, rfl, KW.meetB' HR.out S3.out (by simp) HB4.out⟩
  case rest =>
    obtain ⟨kb, rfl, hK⟩ := hcut
    refine (by assumption : ∀ (a : Act) (w : World), Code.wp _ _ _ a w → _) _ _ ?_
    exact HZ _ _ _ _ _ _ _ _ _ _ _ _ _ _ _ _ _ _ _ _ _ _ _ _ _ _ _ _ _ _ _ _ _ _ _ _ _ _ _ _ _ _ _ _ _ _ _ _ _ _ _ _ _ _ _ _ _ _ _ _ _ _ _ _ _ _ _ _ _ _ _ _ _ _ _ _ _ _ _ _ _ _ _ _ _ _ _ _ _ _ _ _ _ _ _ _ _ _ _ _ _ _ _ _ _ _ _ _ _ _ _ _ _ _ _ _ _ _ _ _ _ _ _ _ _ _ _ _ _ _ _ _ _ _ _ _ _ _ _ _ _ _ _ _ _ _ _ _ _ _ _ _ _ _ _ _ _ _ _ _ _ _ _ _ _ _ _ _ _ _ _ _ _ _ _ _ _ _ _ _ _ _ _ _ _ _ _ _ _ _ _ _ _ _ _ _ _ _ _ _ _ _ _ _ _ _ _ _ _ _ _ _ _ _ _ _ _ _ _ _ _ _ _ _ _ _ _ _ _ _ _ _ _ _ _ _ _ _ _ _ _ _ _ _ _ _ _ _ _ _ _ _ _ _ _ _ _ _ _ _ _ _ _ _ _ _ _ _ _ _ _ _ _ _ _ _ _ _ _ _ _ _ _ _ _ _ _ _ _ _ _ _ _ _ _ hK
end
section
variable {σ : Type} {m : C.Mem σ} {B bs : Nat} {I : World → σ → Prop} {T : σ → Nat → Prop}
theorem obox (R : QS m B bs I T) {w W w3 : World} {s0 : σ} {x : C.St σ} {s2 : σ} {k d e n v : Int} (h : SW B bs I T w s0 W x) (hm : Mv B (T x.s) (T s2) (W.alloc (.cells #[.int .i64 k, .int .i64 d, .int .i64 e, .int .i64 n, .int .i64 v] 64)) w3) :
    w3.heap[W.heap.size]? = some (.cells #[.int .i64 k, .int .i64 d, .int .i64 e, .int .i64 n, .int .i64 v] 64 (0, 0)) ∧ ¬ T s2 W.heap.size := by
  have hT : ¬ T x.s W.heap.size := KW.out R h (Nat.le_refl _)
  have hl : W.heap.size < (W.alloc (.cells #[.int .i64 k, .int .i64 d, .int .i64 e, .int .i64 n, .int .i64 v] 64)).heap.size := by simp
  exact ⟨(hm.block _ hl hT).trans (heap_alloc_new W _), fun y => (hm.fresh _ y).elim hT (fun z => by omega)⟩
theorem obox_cells {w3 : World} {bo : Nat} {k d e n v : Int} (h : w3.heap[bo]? = some (.cells #[.int .i64 k, .int .i64 d, .int .i64 e, .int .i64 n, .int .i64 v] 64 (0, 0))) : w3.cell? ⟨bo, 0, none⟩ = some (.int .i64 k) ∧ w3.cell? ⟨bo, 4, none⟩ = some (.int .i64 v) ∧ (∀ o, w3.frozen? ⟨bo, o, none⟩ = false) ∧ bo < w3.heap.size :=
  ⟨Lib.cell_of_heap h 0, Lib.cell_of_heap h 4, fun o => Lib.frozen_of_heap h o, (Array.getElem?_eq_some_iff.1 h).1⟩
set_option maxRecDepth 100000 in
set_option maxHeartbeats 3200000 in
theorem rpre2_false (R : QS m B bs I T) (c : C.Cpu) (hc : c.ok) (w : World) (s s1 s2 : σ) (a v : Int) (hI : I w s) (hw : c.Waits = false)
    (h1 : ∀ W, I W s → Calls Tryz.prog 25 #[.agg #[gv bs, pv bs], .int .u16 c.PC] W fun e w' => e = .returned (.int .u16 a) ∧ I w' s1 ∧ Mv B (T s) (T s1) W w')
    (k d e1 : Nat) (n : Int) (hk : k < 32)
    (h2 : ∀ W, Facts W → Calls Tryz.prog 27 #[.int .u16 a, .int .u16 0] W fun e w' => e = .returned (.tuple #[.agg #[.int .i64 k, .int .i64 d, .int .i64 e1, .int .i64 n, .int .i64 0], .int .i64 2]) ∧ Below W.heap.size W w')
    (h3 : ∀ W, I W s1 → Calls Tryz.prog 25 #[.agg #[gv bs, pv bs], .int .u16 ((c.PC + 2) % 65536)] W fun e w' => e = .returned (.int .u16 v) ∧ I w' s2 ∧ Mv B (T s1) (T s2) W w') (hv : 0 ≤ v ∧ v ≤ 65535)
    (z : C.St σ) (HZ : Rest B bs I T w s k d e1 n v ⟨{ c with PC := (c.PC + 4) % 65536 }, s2, 0⟩ z) :
    Calls Tryz.prog 13 #[cpuV c, .agg #[gv bs, pv bs], .bool false] w (RP B I T w s z) := by
  have hB := R.big hI
  have hs0 := SW.start R c hc w s hI 0
  have hpc := hc.2.2
  have hw8 : IntKind.u16.wrap (c.PC + 2) = (c.PC + 2) % 65536 := u16w _
  have hw9 : IntKind.u16.wrap (c.PC + 4) = (c.PC + 4) % 65536 := u16w _
  simp only [cpuA] at hs0
  unfold cpuV
  generalize hcc : ({ c with PC := (c.PC + 4) % 65536 } : C.Cpu) = cc at HZ
  have HCC := hid hcc
  rw [hw] at hs0 ⊢
  have HS := hid hs0
  have HR := hid R
  have H1 := hid h1
  have H2 := hid h2
  have H3 := hid h3
  have hki : (0 : Int) ≤ k := by omega
  have hki2 : (k : Int) < 32 := by omega
  clear hI R hs0 h1 h2 h3 hw hcc
  go_enter Tryz.func13, Tryz.ntmps13
  go_upto_region 14 with (first
    | (have zz := S2; clear zz; go_at_call 25; refine (H3.out _ (S2.out.kept HR.out (stA (st0 _) _)).qc.inv).mono ?_; rintro e w3 ⟨rfl, hI3, hm3⟩; have S3 := hid ((S2.out.kept HR.out (stA (st0 _) _)).moved hI3 hm3); have O3 : Hid (w3.heap[w2.heap.size]? = some (.cells #[.int .i64 k, .int .i64 d, .int .i64 e1, .int .i64 n, .int .i64 0] 64 (0, 0)) ∧ ¬ T s2 w2.heap.size) := hid (obox HR.out S2.out hm3); obtain ⟨d8, _⟩ := S3.out.qc.cells; have z3 := S3.out.qc.lt; have f3 := S3.out.qc.frozen; obtain ⟨q0, q4, fq, zq⟩ := obox_cells O3.out.1; clear hI3 hm3)
    | (go_at_call 25; refine (H1.out _ HS.out.qc.inv).mono ?_; rintro e w1 ⟨rfl, hI1, hm1⟩; have S1 := hid (HS.out.moved hI1 hm1); clear hI1 hm1)
    | (go_at_call 27; refine (H2.out _ (HR.out.facts S1.out.qc.inv)).mono ?_; rintro e w2 ⟨rfl, hb2⟩; have S2 := hid (S1.out.kept HR.out hb2); obtain ⟨c8, _⟩ := S2.out.qc.cells; have z2 := S2.out.qc.lt; have hroom := S2.out.room; obtain ⟨mm0, mm1⟩ := S2.out.qc.mem; have zm2 := S2.out.qc.ltq; have ne2 : w.heap.size ≠ w2.heap.size := Nat.ne_of_lt z2; have ne3 := Ne.symm ne2; clear hb2))
  have S4 : Hid (SW B bs I T w s ((w3.setCell ⟨w2.heap.size, 4, none⟩ (.int .i64 v)).setCell ⟨w.heap.size, 8, none⟩ (.int .u16 ((c.PC + 4) % 65536))) ⟨cc, s2, 0⟩) := by
    have h := (S3.out.box HR.out (o := 4) hroom O3.out.2 (.int .i64 v)).putPC HR.out ((c.PC + 4) % 65536) (by omega) (by omega)
    rw [← HCC.out]
    exact h
  have O4 : Hid (((w3.setCell ⟨w2.heap.size, 4, none⟩ (.int .i64 v)).setCell ⟨w.heap.size, 8, none⟩ (.int .u16 ((c.PC + 4) % 65536))).heap[w2.heap.size]? = some (.cells #[.int .i64 k, .int .i64 d, .int .i64 e1, .int .i64 n, .int .i64 v] 64 (0, 0))) := by
    have h := (Below.heap_setCell (w3.setCell ⟨w2.heap.size, 4, none⟩ (.int .i64 v)) ⟨w.heap.size, 8, none⟩ (.int .u16 ((c.PC + 4) % 65536)) w2.heap.size ne3).trans (setCell_blk O3.out.1 (.int .i64 v))
    exact h
  go_cut [14] (fun p wx => ∃ kb, p = .pointer (some ⟨kb, 0, none⟩) ∧ KW B bs I T w s w2.heap.size kb k d e1 n v wx ⟨cc, s2, 0⟩)
  case first =>
    have szz : ((w3.setCell ⟨w2.heap.size, 4, none⟩ (.int .i64 v)).setCell ⟨w.heap.size, 8, none⟩ (.int .u16 ((c.PC + 4) % 65536))).heap.size = w3.heap.size := by simp
    have o0 : ((w3.setCell ⟨w2.heap.size, 4, none⟩ (.int .i64 v)).setCell ⟨w.heap.size, 8, none⟩ (.int .u16 ((c.PC + 4) % 65536))).cell? ⟨w2.heap.size, 0, none⟩ = some (.int .i64 k) := Lib.cell_of_heap O4.out 0
    have hz2 : w2.heap.size < ((w3.setCell ⟨w2.heap.size, 4, none⟩ (.int .i64 v)).setCell ⟨w.heap.size, 8, none⟩ (.int .u16 ((c.PC + 4) % 65536))).heap.size := by simpa using zq
    go_region_with (go_at_call 28; refine (kinds_of _ ?_).mono ?_; (first | exact HR.out.facts (HR.out.same S4.out.qc.inv rfl) | exact HR.out.facts (HR.out.same (HR.out.kept S4.out.qc.inv (stA (st0 _) _)) rfl)); rintro e w4 ⟨g, cap, rfl, htb, hg1, hg2, hb4⟩; obtain ⟨t0, t1, t2⟩ := htb k hk; clear htb; obtain ⟨hcX, hfX⟩ := bcell hb4; have o4 : w4.cell? ⟨w2.heap.size, 0, none⟩ = some (.int .i64 k) := (hcX _ _ (by simp <;> omega)).trans (by first | exact o0 | exact (World.cell?_alloc_lt _ _ _ hz2).trans o0); have z4 : w2.heap.size < w4.heap.size := Nat.lt_of_lt_of_le (by simp <;> omega) hb4.size; have z5 : w3.heap.size ≤ w4.heap.size := Nat.le_trans (by simp <;> omega) hb4.size; have HB4 := hid hb4; clear hb4)
    all_goals (go_wp2_with fail; go_meet)
    all_goals first
      | exact ⟨_, rfl, KW.meetA2 HR.out S4.out O4.out hroom O3.out.2 HB4.out⟩
      | exact ⟨_, rfl, KW.meetB2 HR.out S4.out O4.out hroom O3.out.2 (by simp) HB4.out⟩
  case rest =>
    obtain ⟨kb, rfl, hK⟩ := hcut
    refine (by assumption : ∀ (a : Act) (w : World), Code.wp _ _ _ a w → _) _ _ ?_
    exact HZ _ _ _ _ _ _ _ _ _ _ _ _ _ _ _ _ _ _ _ _ _ _ _ _ _ _ _ _ _ _ _ _ _ _ _ _ _ _ _ _ _ _ _ _ _ _ _ _ _ _ _ _ _ _ _ _ _ _ _ _ _ _ _ _ _ _ _ _ _ _ _ _ _ _ _ _ _ _ _ _ _ _ _ _ _ _ _ _ _ _ _ _ _ _ _ _ _ _ _ _ _ _ _ _ _ _ _ _ _ _ _ _ _ _ _ _ _ _ _ _ _ _ _ _ _ _ _ _ _ _ _ _ _ _ _ _ _ _ _ _ _ _ _ _ _ _ _ _ _ _ _ _ _ _ _ _ _ _ _ _ _ _ _ _ _ _ _ _ _ _ _ _ _ _ _ _ _ _ _ _ _ _ _ _ _ _ _ _ _ _ _ _ _ _ _ _ _ _ _ _ _ _ _ _ _ _ _ _ _ _ _ _ _ _ _ _ _ _ _ _ _ _ _ _ _ _ _ _ _ _ _ _ _ _ _ _ _ _ _ _ _ _ _ _ _ _ _ _ _ _ _ _ _ _ _ _ _ _ _ _ _ _ _ _ _ _ _ _ _ _ _ _ _ _ _ _ _ _ _ _ _ _ _ _ _ _ _ _ _ _ _ _ _ _ _ hK
end
section
variable {σ : Type} {m : C.Mem σ} {B bs : Nat} {I : World → σ → Prop} {T : σ → Nat → Prop}
set_option maxRecDepth 100000 in
set_option maxHeartbeats 3200000 in
theorem rpre2_true (R : QS m B bs I T) (c : C.Cpu) (hc : c.ok) (w : World) (s s1 s2 : σ) (a v : Int) (hI : I w s) (hw : c.Waits = false) (hm : c.May = false)
    (h1 : ∀ W, I W s → Calls Tryz.prog 25 #[.agg #[gv bs, pv bs], .int .u16 c.PC] W fun e w' => e = .returned (.int .u16 a) ∧ I w' s1 ∧ Mv B (T s) (T s1) W w')
    (k d e1 : Nat) (n : Int) (hk : k < 32)
    (h2 : ∀ W, Facts W → Calls Tryz.prog 27 #[.int .u16 a, .int .u16 0] W fun e w' => e = .returned (.tuple #[.agg #[.int .i64 k, .int .i64 d, .int .i64 e1, .int .i64 n, .int .i64 0], .int .i64 2]) ∧ Below W.heap.size W w')
    (h3 : ∀ W, I W s1 → Calls Tryz.prog 25 #[.agg #[gv bs, pv bs], .int .u16 ((c.PC + 2) % 65536)] W fun e w' => e = .returned (.int .u16 v) ∧ I w' s2 ∧ Mv B (T s1) (T s2) W w') (hv : 0 ≤ v ∧ v ≤ 65535)
    (z : C.St σ) (HZ : Rest B bs I T w s k d e1 n v ⟨{ c with PC := (c.PC + 4) % 65536 }, s2, 0⟩ z) :
    Calls Tryz.prog 13 #[cpuV c, .agg #[gv bs, pv bs], .bool true] w (RP B I T w s z) := by
  have hB := R.big hI
  have hs0 := SW.start R c hc w s hI 0
  have hpc := hc.2.2
  have hw8 : IntKind.u16.wrap (c.PC + 2) = (c.PC + 2) % 65536 := u16w _
  have hw9 : IntKind.u16.wrap (c.PC + 4) = (c.PC + 4) % 65536 := u16w _
  simp only [cpuA] at hs0
  unfold cpuV
  generalize hcc : ({ c with PC := (c.PC + 4) % 65536 } : C.Cpu) = cc at HZ
  have HCC := hid hcc
  rw [hw] at hs0 ⊢
  rw [hm] at hs0 ⊢
  have HS := hid hs0
  have HR := hid R
  have H1 := hid h1
  have H2 := hid h2
  have H3 := hid h3
  have hki : (0 : Int) ≤ k := by omega
  have hki2 : (k : Int) < 32 := by omega
  clear hI R hs0 h1 h2 h3 hw hcc hm
  go_enter Tryz.func13, Tryz.ntmps13
  go_upto_region 14 with (first
    | (have zz := S2; clear zz; go_at_call 25; refine (H3.out _ (S2.out.kept HR.out (stA (st0 _) _)).qc.inv).mono ?_; rintro e w3 ⟨rfl, hI3, hm3⟩; have S3 := hid ((S2.out.kept HR.out (stA (st0 _) _)).moved hI3 hm3); have O3 : Hid (w3.heap[w2.heap.size]? = some (.cells #[.int .i64 k, .int .i64 d, .int .i64 e1, .int .i64 n, .int .i64 0] 64 (0, 0)) ∧ ¬ T s2 w2.heap.size) := hid (obox HR.out S2.out hm3); obtain ⟨d8, _⟩ := S3.out.qc.cells; have z3 := S3.out.qc.lt; have f3 := S3.out.qc.frozen; obtain ⟨q0, q4, fq, zq⟩ := obox_cells O3.out.1; clear hI3 hm3)
    | (go_at_call 25; refine (H1.out _ HS.out.qc.inv).mono ?_; rintro e w1 ⟨rfl, hI1, hm1⟩; have S1 := hid (HS.out.moved hI1 hm1); clear hI1 hm1)
    | (go_at_call 27; refine (H2.out _ (HR.out.facts S1.out.qc.inv)).mono ?_; rintro e w2 ⟨rfl, hb2⟩; have S2 := hid (S1.out.kept HR.out hb2); obtain ⟨c8, _⟩ := S2.out.qc.cells; have z2 := S2.out.qc.lt; have hroom := S2.out.room; obtain ⟨mm0, mm1⟩ := S2.out.qc.mem; have zm2 := S2.out.qc.ltq; have ne2 : w.heap.size ≠ w2.heap.size := Nat.ne_of_lt z2; have ne3 := Ne.symm ne2; clear hb2))
  have S4 : Hid (SW B bs I T w s ((w3.setCell ⟨w2.heap.size, 4, none⟩ (.int .i64 v)).setCell ⟨w.heap.size, 8, none⟩ (.int .u16 ((c.PC + 4) % 65536))) ⟨cc, s2, 0⟩) := by
    have h := (S3.out.box HR.out (o := 4) hroom O3.out.2 (.int .i64 v)).putPC HR.out ((c.PC + 4) % 65536) (by omega) (by omega)
    rw [← HCC.out]
    exact h
  have O4 : Hid (((w3.setCell ⟨w2.heap.size, 4, none⟩ (.int .i64 v)).setCell ⟨w.heap.size, 8, none⟩ (.int .u16 ((c.PC + 4) % 65536))).heap[w2.heap.size]? = some (.cells #[.int .i64 k, .int .i64 d, .int .i64 e1, .int .i64 n, .int .i64 v] 64 (0, 0))) := by
    have h := (Below.heap_setCell (w3.setCell ⟨w2.heap.size, 4, none⟩ (.int .i64 v)) ⟨w.heap.size, 8, none⟩ (.int .u16 ((c.PC + 4) % 65536)) w2.heap.size ne3).trans (setCell_blk O3.out.1 (.int .i64 v))
    exact h
  go_cut [14] (fun p wx => ∃ kb, p = .pointer (some ⟨kb, 0, none⟩) ∧ KW B bs I T w s w2.heap.size kb k d e1 n v wx ⟨cc, s2, 0⟩)
  case first =>
    have szz : ((w3.setCell ⟨w2.heap.size, 4, none⟩ (.int .i64 v)).setCell ⟨w.heap.size, 8, none⟩ (.int .u16 ((c.PC + 4) % 65536))).heap.size = w3.heap.size := by simp
    have o0 : ((w3.setCell ⟨w2.heap.size, 4, none⟩ (.int .i64 v)).setCell ⟨w.heap.size, 8, none⟩ (.int .u16 ((c.PC + 4) % 65536))).cell? ⟨w2.heap.size, 0, none⟩ = some (.int .i64 k) := Lib.cell_of_heap O4.out 0
    have hz2 : w2.heap.size < ((w3.setCell ⟨w2.heap.size, 4, none⟩ (.int .i64 v)).setCell ⟨w.heap.size, 8, none⟩ (.int .u16 ((c.PC + 4) % 65536))).heap.size := by simpa using zq
    go_region_with (go_at_call 28; refine (kinds_of _ ?_).mono ?_; (first | exact HR.out.facts (HR.out.same S4.out.qc.inv rfl) | exact HR.out.facts (HR.out.same (HR.out.kept S4.out.qc.inv (stA (st0 _) _)) rfl)); rintro e w4 ⟨g, cap, rfl, htb, hg1, hg2, hb4⟩; obtain ⟨t0, t1, t2⟩ := htb k hk; clear htb; obtain ⟨hcX, hfX⟩ := bcell hb4; have o4 : w4.cell? ⟨w2.heap.size, 0, none⟩ = some (.int .i64 k) := (hcX _ _ (by simp <;> omega)).trans (by first | exact o0 | exact (World.cell?_alloc_lt _ _ _ hz2).trans o0); have z4 : w2.heap.size < w4.heap.size := Nat.lt_of_lt_of_le (by simp <;> omega) hb4.size; have z5 : w3.heap.size ≤ w4.heap.size := Nat.le_trans (by simp <;> omega) hb4.size; have HB4 := hid hb4; clear hb4)
    all_goals (go_wp2_with fail; go_meet)
    all_goals first
      | exact ⟨_, rfl, KW.meetA2 HR.out S4.out O4.out hroom O3.out.2 HB4.out⟩
      | exact ⟨_, rfl, KW.meetB2 HR.out S4.out O4.out hroom O3.out.2 (by simp) HB4.out⟩
  case rest =>
    obtain ⟨kb, rfl, hK⟩ := hcut
    refine (by assumption : ∀ (a : Act) (w : World), Code.wp _ _ _ a w → _) _ _ ?_
    exact HZ _ _ _ _ _ _ _ _ _ _ _ _ _ _ _ _ _ _ _ _ _ _ _ _ _ _ _ _ _ _ _ _ _ _ _ _ _ _ _ _ _ _ _ _ _ _ _ _ _ _ _ _ _ _ _ _ _ _ _ _ _ _ _ _ _ _ _ _ _ _ _ _ _ _ _ _ _ _ _ _ _ _ _ _ _ _ _ _ _ _ _ _ _ _ _ _ _ _ _ _ _ _ _ _ _ _ _ _ _ _ _ _ _ _ _ _ _ _ _ _ _ _ _ _ _ _ _ _ _ _ _ _ _ _ _ _ _ _ _ _ _ _ _ _ _ _ _ _ _ _ _ _ _ _ _ _ _ _ _ _ _ _ _ _ _ _ _ _ _ _ _ _ _ _ _ _ _ _ _ _ _ _ _ _ _ _ _ _ _ _ _ _ _ _ _ _ _ _ _ _ _ _ _ _ _ _ _ _ _ _ _ _ _ _ _ _ _ _ _ _ _ _ _ _ _ _ _ _ _ _ _ _ _ _ _ _ _ _ _ _ _ _ _ _ _ _ _ _ _ _ _ _ _ _ _ _ _ _ _ _ _ _ _ _ _ _ _ _ _ _ _ _ _ _ _ _ _ _ _ _ _ _ _ _ _ _ _ _ _ _ _ _ _ _ _ hK
end
theorem Pl0.cutW {P : Program} {code : Code} {Q : Exit → Act → World → Prop} {a : Act} {w : World} (K : World → Prop) (h : K w) (k : ∀ w', K w' → code.wp P Q a w') : code.wp P Q a w := k w h
section
variable {σ : Type} {m : C.Mem σ} {B bs : Nat} {I : World → σ → Prop} {T : σ → Nat → Prop}
set_option maxRecDepth 100000 in
set_option maxHeartbeats 3200000 in
theorem rstep_waits1 (R : QS m B bs I T) (c : C.Cpu) (hc : c.ok) (w : World) (s : σ) (hI : I w s) (hm : c.May = false) (hw : c.Waits = true) :
    Calls Tryz.prog 13 #[cpuV c, .agg #[gv bs, pv bs], .bool true] w fun e w' => e = .returned (.tuple #[cpuV c, .int .i64 1]) ∧ I w' s ∧ Mv B (T s) (T s) w w' := by
  have hB := R.big hI
  have HI := hid hI
  have HR := hid R
  clear hI R
  go_enter Tryz.func13, Tryz.ntmps13
  go_wp2
  refine bodyPost_ret (v := .tuple #[cpuV c, .int .i64 1]) (by simp [results, Tryz.results13, go_sem, hw, hm]) rfl ⟨rfl, HR.out.kept HI.out (stA (stA (stA (stA (st0 w) _) _) _) _), Mv.of_below hB (stA (stA (stA (stA (st0 w) _) _) _) _)⟩
set_option maxRecDepth 100000 in
set_option maxHeartbeats 3200000 in
theorem rstep_rung (R : QS m B bs I T) (c : C.Cpu) (hc : c.ok) (w : World) (s : σ) (hI : I w s) (hm : c.May = true) :
    Calls Tryz.prog 13 #[cpuV c, .agg #[gv bs, pv bs], .bool true] w fun e w' => e = .returned (.tuple #[cpuV (C.leave m ⟨c, s, 0⟩ 2).c, .int .i64 6]) ∧ I w' (C.leave m ⟨c, s, 0⟩ 2).s ∧ Mv B (T s) (T (C.leave m ⟨c, s, 0⟩ 2).s) w w' := by
  have hB := R.big hI
  have HR := hid R
  have HS := hid (SW.start R c hc w s hI 0)
  have HM := hid hm
  clear hI R hm
  go_enter Tryz.func13, Tryz.ntmps13
  go_upto_region 4 with fail
  refine Pl0.cutW (fun W => SW B bs I T w s W ⟨c, s, 0⟩) HS.out ?_
  intro W hS
  obtain ⟨r0, r1, r2, r3, r4, r5, r6, r7⟩ := hS.qc.regs
  obtain ⟨r8, r9, r10, r11, r12, r13, r14⟩ := hS.qc.cells
  have zp := hS.qc.lt
  have fp := hS.qc.frozen
  have pp : W.cell? ⟨w.heap.size + 1 + 1 + 1, 0, none⟩ = some (pushV w.heap.size (w.heap.size + 1)) := Lib.cell_of_heap hS.push 0
  have zpp : w.heap.size + 1 + 1 + 1 < W.heap.size := (Array.getElem?_eq_some_iff.1 hS.push).1
  rw [show (⟨c, s, 0⟩ : C.St σ).c.May = true from HM.out] at r13
  have HW := hid hS
  clear hS HS
  go_wp2_with (first
    | (go_at_call 26; refine (rleave_any HR.out 2 (by decide) (by decide) _ _ _ _ ⟨c, s, 0⟩ HW.out.qc pp (by omega) HW.out.nopush).mono ?_; rintro e w5 ⟨rfl, hq6, hm6⟩; have HF := hid (HW.out.step hq6 hm6); clear r0 r1 r2 r3 r4 r5 r6 r7 r8 r9 r10 r11 r12 r13 r14; obtain ⟨r0, r1, r2, r3, r4, r5, r6, r7⟩ := hq6.regs; obtain ⟨r8, r9, r10, r11, r12, r13, r14⟩ := hq6.cells; have zp6 := hq6.lt; clear hq6 hm6)
    | (refine wpList_store_mid rfl 25 (.tmp 6) _ rfl (w.heap.size + 1 + 1) 0 _ rfl rfl ?_ ?_ ?_ ?_
       · exact HF.out.there
       · exact info_cpu
       · exact cpuL_one (C.leave m ⟨c, s, 0⟩ 2).c
       refine cutL (fun W => I W (C.leave m ⟨c, s, 0⟩ 2).s ∧ Mv B (T s) (T (C.leave m ⟨c, s, 0⟩ 2).s) w W ∧ W.rangeAt (w.heap.size + 1 + 1) 0 (cpuL (C.leave m ⟨c, s, 0⟩ 2).c)) ?_ ?_
       · exact HF.out.fin HR.out hB (cpuL (C.leave m ⟨c, s, 0⟩ 2).c) rfl
       rintro W ⟨hIW, hmW, hrW⟩))
  have hl := load_cpu W _ _ hrW
  refine bodyPost_ret (v := .tuple #[cpuV (C.leave m ⟨c, s, 0⟩ 2).c, .int .i64 6]) ?_ rfl ⟨rfl, hIW, hmW⟩
  simp only [results, Tryz.results13]
  simp
  show (Result.andThen (Sem.run Tryz.prog (loadVar 25 ⟨w.heap.size + 1 + 1, 0, none⟩) W) _) = _
  rw [hl]
  rfl
end
end Go.Proofs.YtombboeonffejaaGreatDoor
