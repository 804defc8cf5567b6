/-
  What Step of package cpu answers, of any processor in any space that is right.
-/
import Derived.Test.YthfngejmihdafaaDoorCpuU
namespace Go.Proofs.YthfngejmihdafaaDoor
open Go.ChangeShapes Go.WideShapes Go.ChangeAt Go.RowKit
set_option linter.unusedVariables false

theorem cop_sp {B sb : Nat} {rom ram : List UInt8} {w : World} {vR vM : Value} (h : Cop B rom ram w vR vM) (hs : shapesAt w) (hg : 0 < B) (hb : w.heap[sb]? = some (.cells #[vR, vM] 24 (0, 0))) (hB : B ≤ w.heap.size) (hf : rom.length ≤ 1024 ∧ ram.length ≤ 256) : SpI B sb vR vM rom w ram := by
  refine ⟨hs, hB, hb, h.1, h.2.1, fun k hk => ⟨h.2.2 k hk, fun e => ?_, fun e => ?_⟩, hf⟩
  · subst e
    rcases h.2.1.2 with ⟨h1, _⟩ | ⟨g, cap, cur, h1, _, hg', _⟩
    · rw [h1] at hk; cases hk
    · rw [h1] at hk
      have : g = k := Option.some.inj hk
      subst this
      rw [hg'] at hb
      simp at hb
  · subst e
    have := (h.2.1.lt _ hk).1
    omega
theorem spT_no {B sb : Nat} {rom ram ram' : List UInt8} {W : World} {vR vM : Value} (h : Cop B rom ram W vR vM) {k : Nat} (hk : k < B) (hg : 0 < k) (hs : k < sb) : ¬ spT sb vR vM ram' k := by
  rintro (x | x | x | x)
  · omega
  · omega
  · have := (h.1.lt k x).1; omega
  · have := (h.2.1.lt k x).1; omega
theorem mv_cells {B b2 : Nat} {rom ram : List UInt8} {W w3 w4 : World} {vR vM : Value} {T' : Nat → Prop} (h : Cop B rom ram W vR vM) (hm : Mv B (spT W.heap.size vR vM ram) T' w3 w4) (hb : Below W.drew.heap.size W.drew w3) (hz : b2 < W.heap.size) (hB : B ≤ b2) : (∀ k o, k < B → 0 < k → w4.cell? ⟨k, o, none⟩ = W.cell? ⟨k, o, none⟩) ∧ (∀ k o, k < B → 0 < k → w4.frozen? ⟨k, o, none⟩ = W.frozen? ⟨k, o, none⟩) := by
  have hs : W.heap.size ≤ w3.heap.size := hb.size
  refine ⟨fun k o hk hg => ?_, fun k o hk hg => ?_⟩
  · exact (hm.cell (by omega) (spT_no h hk hg (by omega)) o).trans (hb.cell (p := ⟨k, o, none⟩) (show k < W.heap.size by omega))
  · exact (hm.froz (by omega) (spT_no h hk hg (by omega)) o).trans (hb.frozen (p := ⟨k, o, none⟩) (show k < W.heap.size by omega))
theorem info_space : (Tryd.prog.info? 24).map (·.size) = some 2 := by kernel_rfl
theorem step_fin {w X : World} {B : Nat} {vR vM : Value} {rom ram : List UInt8} (L : List Value) (hb : Below w.heap.size w X) (hR : X.ownsRow B 5 1 vR rom.length (bcs rom)) (hM : X.ownsRow B 5 1 vM ram.length (bcs ram)) (hth : X.there (w.heap.size + 1 + 1) 0 L.length) (hB : w.heap.size + 1 + 1 + 1 < B) {z0 z1 : Value} (h0 : X.cell? ⟨w.heap.size + 1 + 1 + 1, 0, none⟩ = some z0) (h1 : X.cell? ⟨w.heap.size + 1 + 1 + 1, 1, none⟩ = some z1) :
    Below w.heap.size w (((X.setCells (w.heap.size + 1 + 1) 0 L).setCell ⟨w.heap.size + 1 + 1 + 1, 0, none⟩ vR).setCell ⟨w.heap.size + 1 + 1 + 1, 1, none⟩ vM).drew ∧ sliceAt (((X.setCells (w.heap.size + 1 + 1) 0 L).setCell ⟨w.heap.size + 1 + 1 + 1, 0, none⟩ vR).setCell ⟨w.heap.size + 1 + 1 + 1, 1, none⟩ vM).drew vR rom ∧ sliceAt (((X.setCells (w.heap.size + 1 + 1) 0 L).setCell ⟨w.heap.size + 1 + 1 + 1, 0, none⟩ vR).setCell ⟨w.heap.size + 1 + 1 + 1, 1, none⟩ vM).drew vM ram ∧
      (((X.setCells (w.heap.size + 1 + 1) 0 L).setCell ⟨w.heap.size + 1 + 1 + 1, 0, none⟩ vR).setCell ⟨w.heap.size + 1 + 1 + 1, 1, none⟩ vM).drew.rangeAt (w.heap.size + 1 + 1) 0 L ∧ (((X.setCells (w.heap.size + 1 + 1) 0 L).setCell ⟨w.heap.size + 1 + 1 + 1, 0, none⟩ vR).setCell ⟨w.heap.size + 1 + 1 + 1, 1, none⟩ vM).drew.rangeAt (w.heap.size + 1 + 1 + 1) 0 [vR, vM] := by
  have hh := setCells_heap (w.heap.size + 1 + 1) L 0 X
  have hbl := below_setCells (n := w.heap.size) (a := w) (b := w.heap.size + 1 + 1) (by omega) L 0 X hb
  have hr := World.rangeAt_setCells_same X (w.heap.size + 1 + 1) 0 L hth
  have c0 : (X.setCells (w.heap.size + 1 + 1) 0 L).cell? ⟨w.heap.size + 1 + 1 + 1, 0, none⟩ = some z0 := (World.cell?_of_block (w := X) (hh (w.heap.size + 1 + 1 + 1) (by omega))).trans h0
  have c1 : (X.setCells (w.heap.size + 1 + 1) 0 L).cell? ⟨w.heap.size + 1 + 1 + 1, 1, none⟩ = some z1 := (World.cell?_of_block (w := X) (hh (w.heap.size + 1 + 1 + 1) (by omega))).trans h1
  generalize X.setCells (w.heap.size + 1 + 1) 0 L = U at hh hbl hr c0 c1 ⊢
  have ho : ∀ k, k ≠ w.heap.size + 1 + 1 → k ≠ w.heap.size + 1 + 1 + 1 → (((U.setCell ⟨w.heap.size + 1 + 1 + 1, 0, none⟩ vR).setCell ⟨w.heap.size + 1 + 1 + 1, 1, none⟩ vM).drew).heap[k]? = X.heap[k]? := fun k a b => (Below.heap_setCell _ _ _ _ b).trans ((Below.heap_setCell _ _ _ _ b).trans (hh k a))
  refine ⟨((hbl.setCell (by simp; omega) _).setCell (by simp; omega) _).drew, slice_of_own (own_of_block hR (fun k hk => ho k (by have := (hR.lt k hk).1; omega) (by have := (hR.lt k hk).1; omega))), slice_of_own (own_of_block hM (fun k hk => ho k (by have := (hM.lt k hk).1; omega) (by have := (hM.lt k hk).1; omega))), fun j v hj => ?_, fun j v hj => ?_⟩
  · exact (World.cell?_setCell_far _ _ _ _ (by simp)).trans ((World.cell?_setCell_far _ _ _ _ (by simp)).trans (hr j v hj))
  · have e0 := World.cell?_setCell_same U _ vR c0
    have e1 : (U.setCell ⟨w.heap.size + 1 + 1 + 1, 0, none⟩ vR).cell? ⟨w.heap.size + 1 + 1 + 1, 1, none⟩ = some z1 := (World.cell?_setCell_other _ _ _ _ (by simp)).trans c1
    match j, hj with
    | 0, hj => cases hj; exact (World.cell?_setCell_other _ _ _ _ (by simp)).trans e0
    | 1, hj => cases hj; exact World.cell?_setCell_same _ _ _ e1
theorem fnew (W : World) (b i : Nat) (cs : Array Value) {t : TypeId} (h : b = W.heap.size) : (W.alloc (.cells cs t)).frozen? ⟨b, i, none⟩ = false := by
  subst h
  exact Lib.frozen_of_heap (heap_alloc_new W _) i
theorem c4 (w : World) (cs : Array Value) (t : TypeId) (o1 o2 o3 : Obj) (n : Nat) : ((((w.alloc (.cells cs t)).alloc o1).alloc o2).alloc o3).cell? ⟨w.heap.size, n, none⟩ = cs[n]? := by
  rw [World.cell?_alloc_lt _ _ _ (by simp <;> omega), World.cell?_alloc_lt _ _ _ (by simp <;> omega), World.cell?_alloc_lt _ _ _ (by simp)]
  exact cell_new _ _ _ _ rfl
theorem f4 (w : World) (cs : Array Value) (t : TypeId) (o1 o2 o3 : Obj) (n : Nat) : ((((w.alloc (.cells cs t)).alloc o1).alloc o2).alloc o3).frozen? ⟨w.heap.size, n, none⟩ = false := by
  refine (World.frozen?_of_block (w := w.alloc (.cells cs t)) ?_).trans (Lib.frozen_of_heap (heap_alloc_new w _) n)
  exact (heap_alloc_old _ _ (by simp <;> omega)).trans ((heap_alloc_old _ _ (by simp <;> omega)).trans (heap_alloc_old _ _ (by simp)))
set_option maxRecDepth 100000 in
set_option maxHeartbeats 3200000 in
theorem step_ok (c : C.Cpu) (hc : c.ok) (v1 v2 : Value) (rom ram : List UInt8) (r : Bool) (w : World) (h1 : sliceAt w v1 rom) (h2 : sliceAt w v2 ram) (hl1 : rom.length ≤ 1024) (hl2 : ram.length ≤ 256) (hs : shapesAt w) :
    Calls Tryd.prog 7 #[cpuV c, .agg #[v1, v2], .bool r] w fun e w' => ∃ vR vM, e = .returned (.tuple #[cpuV (C.step (spc rom) c ram r).c, .agg #[vR, vM], .int .i64 (C.step (spc rom) c ram r).n, .int .i64 0]) ∧ sliceAt w' vR rom ∧ sliceAt w' vM (C.step (spc rom) c ram r).s ∧ (C.step (spc rom) c ram r).c.ok ∧ Below w.heap.size w w' := by
  obtain ⟨y, hy⟩ : ∃ y, C.step (spc rom) c ram r = y := ⟨_, rfl⟩
  rw [hy]
  have HY := hid hy
  clear hy
  have H1 := hid h1
  have H2 := hid h2
  obtain ⟨a1, k1, x1⟩ := slice_len h1
  obtain ⟨a2, k2, x2⟩ := slice_len h2
  subst x1 x2
  have HS := hid hs
  have HC := hid hc
  have HCK := fun W : World => hid (chk_any a1 a2 rom.length ram.length k1 k2 W)
  rw [if_neg (by omega)] at HCK
  clear h1 h2 hs hc
  go_enter Tryd.func7, Tryd.ntmps7
  go_wp2_with (first
    | (go_at_call 9; refine (HCK _).out.mono ?_; rintro e w1 ⟨rfl, hb1⟩; have hbA := hid (stp (stA (stA (stA (stA (st0 w) _) _) _) _) hb1); obtain ⟨kk1, ff1⟩ := bcell hb1; have z1 : w.heap.size + 1 + 1 + 1 < w1.heap.size := Nat.lt_of_lt_of_le (by simp) hb1.size)
    | (go_at_call 11; refine (copyOf_any _ _ rom ram _ (H1.out.kept hbA.out) (H2.out.kept hbA.out) hl1 hl2).mono ?_; rintro e w2 ⟨vR, vM, rfl, hcop, hb2⟩; obtain ⟨aR, cR, rfl⟩ := own_slice hcop.1; obtain ⟨aM, cM, rfl⟩ := own_slice hcop.2.1; have HCOP := hid hcop; have hbB := hid (stp hbA.out hb2); obtain ⟨kk2, ff2⟩ := bcell hb2; have z2 := Nat.lt_of_lt_of_le z1 hb2.size; clear hcop))
  have hg := HS.out.lt
  refine cutW (fun W => Below w.heap.size w W ∧ Cop w1.heap.size rom ram W (.slice aR rom.length cR) (.slice aM ram.length cM) ∧ w2.heap.size < W.heap.size ∧ W.cell? ⟨w2.heap.size, 0, none⟩ = some (.slice aR rom.length cR) ∧ W.cell? ⟨w2.heap.size, 1, none⟩ = some (.slice aM ram.length cM) ∧ (∀ k o, k < w1.heap.size → W.cell? ⟨k, o, none⟩ = w1.cell? ⟨k, o, none⟩) ∧ (∀ k o, k < w1.heap.size → W.frozen? ⟨k, o, none⟩ = w1.frozen? ⟨k, o, none⟩) ∧ (∀ k, (Value.slice aR rom.length cR).ownBlock = some k ∨ (Value.slice aM ram.length cM).ownBlock = some k → k < w2.heap.size)) ⟨stA hbB.out _, ⟨own_kept HCOP.out.1 (stA (st0 _) _), own_kept HCOP.out.2.1 (stA (st0 _) _), HCOP.out.2.2⟩, by simp, by simp, by simp, fun k o hk => (World.cell?_alloc_lt _ _ _ (Nat.lt_of_lt_of_le hk hb2.size)).trans (kk2 k o hk), fun k o hk => (World.frozen?_of_block (w := w2) (heap_alloc_old _ _ (Nat.lt_of_lt_of_le hk hb2.size))).trans (ff2 k o hk), fun k hk => hk.elim (fun x => (HCOP.out.1.lt k x).2) (fun x => (HCOP.out.2.1.lt k x).2)⟩ ?_
  have hz4 : w.heap.size < ((((w.alloc (.cells #[.int .u16 (c.r 0), .int .u16 (c.r 1), .int .u16 (c.r 2), .int .u16 (c.r 3), .int .u16 (c.r 4), .int .u16 (c.r 5), .int .u16 (c.r 6), .int .u16 (c.r 7), .int .u16 c.PC, .bool c.Z, .bool c.N, .bool c.C, .bool c.V, .bool c.May, .bool c.Waits] 28)).alloc (.cells #[.slice a1 rom.length k1, .slice a2 ram.length k2] 24)).alloc (.cells #[.int .u16 0, .int .u16 0, .int .u16 0, .int .u16 0, .int .u16 0, .int .u16 0, .int .u16 0, .int .u16 0, .int .u16 0, .bool false, .bool false, .bool false, .bool false, .bool false, .bool false] 28)).alloc (.cells #[.slice none 0 0, .slice none 0 0] 24)).heap.size := by simp <;> omega
  have hs12 := hb2.size
  have HK1 := hid kk1
  have HF1 := hid ff1
  clear kk2 ff2 kk1 ff1 hb2 HCOP hbB
  rintro W ⟨hbW, hcop, hzW, o0, o1, hcW, hfW, hrows⟩
  have HRW := hid hrows
  clear hrows
  have HBW := hid hbW
  have HCOP := hid hcop
  have HCW := hid hcW
  have HFW := hid hfW
  have e0 : W.cell? ⟨w.heap.size, 0, none⟩ = some (.int .u16 (c.r 0)) := (hcW (w.heap.size) 0 (by omega)).trans ((HK1.out (w.heap.size) 0 hz4).trans (c4 _ _ _ _ _ _ _))
  have e1 : W.cell? ⟨w.heap.size, 1, none⟩ = some (.int .u16 (c.r 1)) := (hcW (w.heap.size) 1 (by omega)).trans ((HK1.out (w.heap.size) 1 hz4).trans (c4 _ _ _ _ _ _ _))
  have e2 : W.cell? ⟨w.heap.size, 2, none⟩ = some (.int .u16 (c.r 2)) := (hcW (w.heap.size) 2 (by omega)).trans ((HK1.out (w.heap.size) 2 hz4).trans (c4 _ _ _ _ _ _ _))
  have e3 : W.cell? ⟨w.heap.size, 3, none⟩ = some (.int .u16 (c.r 3)) := (hcW (w.heap.size) 3 (by omega)).trans ((HK1.out (w.heap.size) 3 hz4).trans (c4 _ _ _ _ _ _ _))
  have e4 : W.cell? ⟨w.heap.size, 4, none⟩ = some (.int .u16 (c.r 4)) := (hcW (w.heap.size) 4 (by omega)).trans ((HK1.out (w.heap.size) 4 hz4).trans (c4 _ _ _ _ _ _ _))
  have e5 : W.cell? ⟨w.heap.size, 5, none⟩ = some (.int .u16 (c.r 5)) := (hcW (w.heap.size) 5 (by omega)).trans ((HK1.out (w.heap.size) 5 hz4).trans (c4 _ _ _ _ _ _ _))
  have e6 : W.cell? ⟨w.heap.size, 6, none⟩ = some (.int .u16 (c.r 6)) := (hcW (w.heap.size) 6 (by omega)).trans ((HK1.out (w.heap.size) 6 hz4).trans (c4 _ _ _ _ _ _ _))
  have e7 : W.cell? ⟨w.heap.size, 7, none⟩ = some (.int .u16 (c.r 7)) := (hcW (w.heap.size) 7 (by omega)).trans ((HK1.out (w.heap.size) 7 hz4).trans (c4 _ _ _ _ _ _ _))
  have e8 : W.cell? ⟨w.heap.size, 8, none⟩ = some (.int .u16 c.PC) := (hcW (w.heap.size) 8 (by omega)).trans ((HK1.out (w.heap.size) 8 hz4).trans (c4 _ _ _ _ _ _ _))
  have e9 : W.cell? ⟨w.heap.size, 9, none⟩ = some (.bool c.Z) := (hcW (w.heap.size) 9 (by omega)).trans ((HK1.out (w.heap.size) 9 hz4).trans (c4 _ _ _ _ _ _ _))
  have e10 : W.cell? ⟨w.heap.size, 10, none⟩ = some (.bool c.N) := (hcW (w.heap.size) 10 (by omega)).trans ((HK1.out (w.heap.size) 10 hz4).trans (c4 _ _ _ _ _ _ _))
  have e11 : W.cell? ⟨w.heap.size, 11, none⟩ = some (.bool c.C) := (hcW (w.heap.size) 11 (by omega)).trans ((HK1.out (w.heap.size) 11 hz4).trans (c4 _ _ _ _ _ _ _))
  have e12 : W.cell? ⟨w.heap.size, 12, none⟩ = some (.bool c.V) := (hcW (w.heap.size) 12 (by omega)).trans ((HK1.out (w.heap.size) 12 hz4).trans (c4 _ _ _ _ _ _ _))
  have e13 : W.cell? ⟨w.heap.size, 13, none⟩ = some (.bool c.May) := (hcW (w.heap.size) 13 (by omega)).trans ((HK1.out (w.heap.size) 13 hz4).trans (c4 _ _ _ _ _ _ _))
  have e14 : W.cell? ⟨w.heap.size, 14, none⟩ = some (.bool c.Waits) := (hcW (w.heap.size) 14 (by omega)).trans ((HK1.out (w.heap.size) 14 hz4).trans (c4 _ _ _ _ _ _ _))
  have ef : ∀ o, W.frozen? ⟨w.heap.size, o, none⟩ = false := fun o => (hfW (w.heap.size) o (by omega)).trans ((HF1.out (w.heap.size) o hz4).trans (f4 _ _ _ _ _ _ _))
  clear hbW hcop hcW hfW
  have HD := hid (fun (sb : Nat) (X : World) (hI : SpI w1.heap.size sb (.slice aR rom.length cR) (.slice aM ram.length cM) rom X ram) => do_any (space_rs w1.heap.size sb (.slice aR rom.length cR) (.slice aM ram.length cM) rom) r X c ram HC.out hI)
  rw [HY.out] at HD
  have HSW : Hid (shapesAt W) := HS.out.kept HBW.out
  go_region_with (first
    | (go_at_call 12; refine (reachOf_any _ _ aR aM rom.length ram.length cR cM rfl rfl _).mono ?_; rintro e w3 ⟨rfl, hx3, hb3⟩; obtain ⟨k3, f3⟩ := bcell hb3; have z3 := Nat.lt_of_lt_of_le hzW hb3.size; have z30 : w.heap.size < W.heap.size := Nat.lt_trans (by omega) hzW; have z33 : w.heap.size < w3.heap.size := Nat.lt_of_lt_of_le z30 hb3.size; have q0 := (k3 (w.heap.size) 0 z30).trans e0; have q1 := (k3 (w.heap.size) 1 z30).trans e1; have q2 := (k3 (w.heap.size) 2 z30).trans e2; have q3 := (k3 (w.heap.size) 3 z30).trans e3; have q4 := (k3 (w.heap.size) 4 z30).trans e4; have q5 := (k3 (w.heap.size) 5 z30).trans e5; have q6 := (k3 (w.heap.size) 6 z30).trans e6; have q7 := (k3 (w.heap.size) 7 z30).trans e7; have q8 := (k3 (w.heap.size) 8 z30).trans e8; have q9 := (k3 (w.heap.size) 9 z30).trans e9; have q10 := (k3 (w.heap.size) 10 z30).trans e10; have q11 := (k3 (w.heap.size) 11 z30).trans e11; have q12 := (k3 (w.heap.size) 12 z30).trans e12; have q13 := (k3 (w.heap.size) 13 z30).trans e13; have q14 := (k3 (w.heap.size) 14 z30).trans e14; have HX3 := hid hx3; clear hx3 k3 f3)
    | (go_at_call 15; refine (HD.out W.heap.size _ ?_).mono ?_; (exact cop_sp ⟨own_kept HCOP.out.1 (stp (st0 W).drew hb3), own_kept HCOP.out.2.1 (stp (st0 W).drew hb3), HCOP.out.2.2⟩ (HSW.out.kept (stp (st0 W).drew hb3)) (by omega) HX3.out (by omega) ⟨hl1, hl2⟩); rintro e w4 ⟨rfl, hI4, hm4, hok4⟩; have hMc := mv_cells HCOP.out hm4 hb3 hzW hs12; have p0 := (hMc.1 (w.heap.size) 0 (by omega) (by omega)).trans e0; have p1 := (hMc.1 (w.heap.size) 1 (by omega) (by omega)).trans e1; have p2 := (hMc.1 (w.heap.size) 2 (by omega) (by omega)).trans e2; have p3 := (hMc.1 (w.heap.size) 3 (by omega) (by omega)).trans e3; have p4 := (hMc.1 (w.heap.size) 4 (by omega) (by omega)).trans e4; have p5 := (hMc.1 (w.heap.size) 5 (by omega) (by omega)).trans e5; have p6 := (hMc.1 (w.heap.size) 6 (by omega) (by omega)).trans e6; have p7 := (hMc.1 (w.heap.size) 7 (by omega) (by omega)).trans e7; have p8 := (hMc.1 (w.heap.size) 8 (by omega) (by omega)).trans e8; have p9 := (hMc.1 (w.heap.size) 9 (by omega) (by omega)).trans e9; have p10 := (hMc.1 (w.heap.size) 10 (by omega) (by omega)).trans e10; have p11 := (hMc.1 (w.heap.size) 11 (by omega) (by omega)).trans e11; have p12 := (hMc.1 (w.heap.size) 12 (by omega) (by omega)).trans e12; have p13 := (hMc.1 (w.heap.size) 13 (by omega) (by omega)).trans e13; have p14 := (hMc.1 (w.heap.size) 14 (by omega) (by omega)).trans e14; have pf := fun o => (hMc.2 (w.heap.size) o (by omega) (by omega)).trans (ef o); have z4 : w.heap.size < w4.heap.size := Nat.lt_of_lt_of_le (Nat.lt_of_lt_of_le z30 hb3.size) hm4.size; have HMC := hid hMc; have HM4 := hid hm4; have HI4 := hid hI4; clear hMc hm4 hI4))
  all_goals go_wp2
  all_goals
    rw [nested_eq]
    refine cutW (fun X => Below w.heap.size w X ∧ X.ownsRow w1.heap.size 5 1 (.slice aR rom.length cR) rom.length (bcs rom) ∧ X.ownsRow w1.heap.size 5 1 (.slice aM ram.length cM) y.s.length (bcs y.s) ∧ X.there (w.heap.size + 1 + 1) 0 15 ∧ w.heap.size + 1 + 1 + 1 < X.heap.size ∧ w2.heap.size < X.heap.size ∧ X.cell? ⟨w2.heap.size, 0, none⟩ = some (.slice aR rom.length cR) ∧ X.cell? ⟨w2.heap.size, 1, none⟩ = some (.slice aM ram.length cM) ∧ X.cell? ⟨w.heap.size + 1 + 1 + 1, 0, none⟩ = some (.slice none 0 0) ∧ X.cell? ⟨w.heap.size + 1 + 1 + 1, 1, none⟩ = some (.slice none 0 0) ∧ (∀ o, X.frozen? ⟨w.heap.size + 1 + 1, o, none⟩ = false) ∧ (∀ o, X.frozen? ⟨w.heap.size + 1 + 1 + 1, o, none⟩ = false) ∧ (X.cell? ⟨w.heap.size, 0, none⟩ = some (.int .u16 (y.c.r 0)) ∧ X.cell? ⟨w.heap.size, 1, none⟩ = some (.int .u16 (y.c.r 1)) ∧ X.cell? ⟨w.heap.size, 2, none⟩ = some (.int .u16 (y.c.r 2)) ∧ X.cell? ⟨w.heap.size, 3, none⟩ = some (.int .u16 (y.c.r 3)) ∧ X.cell? ⟨w.heap.size, 4, none⟩ = some (.int .u16 (y.c.r 4)) ∧ X.cell? ⟨w.heap.size, 5, none⟩ = some (.int .u16 (y.c.r 5)) ∧ X.cell? ⟨w.heap.size, 6, none⟩ = some (.int .u16 (y.c.r 6)) ∧ X.cell? ⟨w.heap.size, 7, none⟩ = some (.int .u16 (y.c.r 7)) ∧ X.cell? ⟨w.heap.size, 8, none⟩ = some (.int .u16 y.c.PC) ∧ X.cell? ⟨w.heap.size, 9, none⟩ = some (.bool y.c.Z) ∧ X.cell? ⟨w.heap.size, 10, none⟩ = some (.bool y.c.N) ∧ X.cell? ⟨w.heap.size, 11, none⟩ = some (.bool y.c.C) ∧ X.cell? ⟨w.heap.size, 12, none⟩ = some (.bool y.c.V) ∧ X.cell? ⟨w.heap.size, 13, none⟩ = some (.bool y.c.May) ∧ X.cell? ⟨w.heap.size, 14, none⟩ = some (.bool y.c.Waits)) ∧ (X.cell? ⟨w.heap.size + 1 + 1, 0, none⟩ = some (.int .u16 0) ∧ X.cell? ⟨w.heap.size + 1 + 1, 1, none⟩ = some (.int .u16 0) ∧ X.cell? ⟨w.heap.size + 1 + 1, 2, none⟩ = some (.int .u16 0) ∧ X.cell? ⟨w.heap.size + 1 + 1, 3, none⟩ = some (.int .u16 0) ∧ X.cell? ⟨w.heap.size + 1 + 1, 4, none⟩ = some (.int .u16 0) ∧ X.cell? ⟨w.heap.size + 1 + 1, 5, none⟩ = some (.int .u16 0) ∧ X.cell? ⟨w.heap.size + 1 + 1, 6, none⟩ = some (.int .u16 0) ∧ X.cell? ⟨w.heap.size + 1 + 1, 7, none⟩ = some (.int .u16 0) ∧ X.cell? ⟨w.heap.size + 1 + 1, 8, none⟩ = some (.int .u16 0) ∧ X.cell? ⟨w.heap.size + 1 + 1, 9, none⟩ = some (.bool false) ∧ X.cell? ⟨w.heap.size + 1 + 1, 10, none⟩ = some (.bool false) ∧ X.cell? ⟨w.heap.size + 1 + 1, 11, none⟩ = some (.bool false) ∧ X.cell? ⟨w.heap.size + 1 + 1, 12, none⟩ = some (.bool false) ∧ X.cell? ⟨w.heap.size + 1 + 1, 13, none⟩ = some (.bool false) ∧ X.cell? ⟨w.heap.size + 1 + 1, 14, none⟩ = some (.bool false))) ?_ ?_
    · have hg1 : 0 < w.heap.size := hg
      have hzA : ∀ k, k < w.heap.size + 1 + 1 + 1 + 1 → k < (((((w.alloc (.cells #[.int .u16 (c.r 0), .int .u16 (c.r 1), .int .u16 (c.r 2), .int .u16 (c.r 3), .int .u16 (c.r 4), .int .u16 (c.r 5), .int .u16 (c.r 6), .int .u16 (c.r 7), .int .u16 c.PC, .bool c.Z, .bool c.N, .bool c.C, .bool c.V, .bool c.May, .bool c.Waits] 28)).alloc (.cells #[.slice a1 rom.length k1, .slice a2 ram.length k2] 24))).alloc (.cells #[.int .u16 0, .int .u16 0, .int .u16 0, .int .u16 0, .int .u16 0, .int .u16 0, .int .u16 0, .int .u16 0, .int .u16 0, .bool false, .bool false, .bool false, .bool false, .bool false, .bool false] 28)).alloc (.cells #[.slice none 0 0, .slice none 0 0] 24)).heap.size := fun k hk => by simp <;> omega
      have hcell : ∀ k o, w.heap.size ≤ k → k < w.heap.size + 1 + 1 + 1 + 1 → w4.cell? ⟨k, o, none⟩ = (((((w.alloc (.cells #[.int .u16 (c.r 0), .int .u16 (c.r 1), .int .u16 (c.r 2), .int .u16 (c.r 3), .int .u16 (c.r 4), .int .u16 (c.r 5), .int .u16 (c.r 6), .int .u16 (c.r 7), .int .u16 c.PC, .bool c.Z, .bool c.N, .bool c.C, .bool c.V, .bool c.May, .bool c.Waits] 28)).alloc (.cells #[.slice a1 rom.length k1, .slice a2 ram.length k2] 24))).alloc (.cells #[.int .u16 0, .int .u16 0, .int .u16 0, .int .u16 0, .int .u16 0, .int .u16 0, .int .u16 0, .int .u16 0, .int .u16 0, .bool false, .bool false, .bool false, .bool false, .bool false, .bool false] 28)).alloc (.cells #[.slice none 0 0, .slice none 0 0] 24)).cell? ⟨k, o, none⟩ := fun k o h1 h2 => (HMC.out.1 k o (by omega) (by omega)).trans ((HCW.out k o (by omega)).trans (HK1.out k o (hzA k h2)))
      have hfroz : ∀ k o, w.heap.size ≤ k → k < w.heap.size + 1 + 1 + 1 + 1 → w4.frozen? ⟨k, o, none⟩ = (((((w.alloc (.cells #[.int .u16 (c.r 0), .int .u16 (c.r 1), .int .u16 (c.r 2), .int .u16 (c.r 3), .int .u16 (c.r 4), .int .u16 (c.r 5), .int .u16 (c.r 6), .int .u16 (c.r 7), .int .u16 c.PC, .bool c.Z, .bool c.N, .bool c.C, .bool c.V, .bool c.May, .bool c.Waits] 28)).alloc (.cells #[.slice a1 rom.length k1, .slice a2 ram.length k2] 24))).alloc (.cells #[.int .u16 0, .int .u16 0, .int .u16 0, .int .u16 0, .int .u16 0, .int .u16 0, .int .u16 0, .int .u16 0, .int .u16 0, .bool false, .bool false, .bool false, .bool false, .bool false, .bool false] 28)).alloc (.cells #[.slice none 0 0, .slice none 0 0] 24)).frozen? ⟨k, o, none⟩ := fun k o h1 h2 => (HMC.out.2 k o (by omega) (by omega)).trans ((HFW.out k o (by omega)).trans (HF1.out k o (hzA k h2)))
      have hth : w4.there w.heap.size 0 (cpuL y.c).length := fun j hj => by
        rw [hcell _ _ (Nat.le_refl _) (by omega), hfroz _ _ (Nat.le_refl _) (by omega), c4, f4]
        have hj' : j < 15 := hj
        refine ⟨?_, rfl⟩
        rw [Array.getElem?_eq_getElem (by simp; omega)]
        rfl
      have hr := World.rangeAt_setCells_same w4 w.heap.size 0 (cpuL y.c) hth
      have hout : ∀ k o, k ≠ w.heap.size → (w4.setCells w.heap.size 0 (cpuL y.c)).cell? ⟨k, o, none⟩ = w4.cell? ⟨k, o, none⟩ := fun k o h => World.cell?_setCells_out _ _ _ _ _ (fun e => absurd e h)
      have hoh := setCells_heap w.heap.size (cpuL y.c) 0 w4
      have hos := setCells_size w.heap.size (cpuL y.c) 0 w4
      have hbl := below_setCells (n := w.heap.size) (a := w) (b := w.heap.size) (Nat.le_refl _) (cpuL y.c) 0 w4 ((stp HBW.out.drew hb3).trans (HM4.out.below.mono (by omega)))
      generalize w4.setCells w.heap.size 0 (cpuL y.c) = X at hr hout hoh hos hbl ⊢
      have hs4 : w3.heap.size ≤ w4.heap.size := HM4.out.size
      have hs3 : W.heap.size ≤ w3.heap.size := hb3.size
      have hnT : ¬ spT W.heap.size (.slice aR rom.length cR) (.slice aM ram.length cM) ram w2.heap.size := by
        rintro (x | x | x | x)
        · omega
        · omega
        · have := HRW.out _ (Or.inl x); omega
        · have := HRW.out _ (Or.inr x); omega
      have hoc : ∀ o, X.cell? ⟨w2.heap.size, o, none⟩ = W.cell? ⟨w2.heap.size, o, none⟩ := fun o => (hout _ o (by omega)).trans ((HM4.out.cell (by omega) hnT o).trans (hb3.cell (p := ⟨w2.heap.size, o, none⟩) (show w2.heap.size < W.heap.size from hzW)))
      have hz2 : ∀ o v, (#[.int .u16 0, .int .u16 0, .int .u16 0, .int .u16 0, .int .u16 0, .int .u16 0, .int .u16 0, .int .u16 0, .int .u16 0, .bool false, .bool false, .bool false, .bool false, .bool false, .bool false] : Array Value)[o]? = some v → X.cell? ⟨w.heap.size + 1 + 1, o, none⟩ = some v := fun o v hv => (hout _ o (by omega)).trans ((hcell _ o (by omega) (by omega)).trans ((qz _ _ _ _ _ (by simp)).trans hv))
      have hz3 : ∀ o v, (#[.slice none 0 0, .slice none 0 0] : Array Value)[o]? = some v → X.cell? ⟨w.heap.size + 1 + 1 + 1, o, none⟩ = some v := fun o v hv => (hout _ o (by omega)).trans ((hcell _ o (by omega) (by omega)).trans ((cell_new _ _ _ _ (by simp)).trans hv))
      have hf2 : ∀ o, X.frozen? ⟨w.heap.size + 1 + 1, o, none⟩ = false := fun o => (World.frozen?_of_block (w := w4) (hoh (w.heap.size + 1 + 1) (by omega))).trans ((hfroz _ o (by omega) (by omega)).trans (qzf _ _ _ _ _ (by simp)))
      have hf3 : ∀ o, X.frozen? ⟨w.heap.size + 1 + 1 + 1, o, none⟩ = false := fun o => (World.frozen?_of_block (w := w4) (hoh (w.heap.size + 1 + 1 + 1) (by omega))).trans ((hfroz _ o (by omega) (by omega)).trans (fnew _ _ _ _ (by simp)))
      have hth2 : X.there (w.heap.size + 1 + 1) 0 15 := fun j hj => ⟨by rw [Nat.zero_add, hz2 j _ (Array.getElem?_eq_getElem (by simp; omega))]; rfl, by rw [Nat.zero_add]; exact hf2 j⟩
      exact ⟨hbl, own_of_block HI4.out.hrom (fun k hk => hoh k (by have := (HI4.out.hrom.lt k hk).1; omega)), own_of_block HI4.out.hram (fun k hk => hoh k (by have := (HI4.out.hram.lt k hk).1; omega)), hth2, by omega, by omega, (hoc 0).trans o0, (hoc 1).trans o1, hz3 0 _ rfl, hz3 1 _ rfl, hf2, hf3, ⟨hr 0 _ rfl, hr 1 _ rfl, hr 2 _ rfl, hr 3 _ rfl, hr 4 _ rfl, hr 5 _ rfl, hr 6 _ rfl, hr 7 _ rfl, hr 8 _ rfl, hr 9 _ rfl, hr 10 _ rfl, hr 11 _ rfl, hr 12 _ rfl, hr 13 _ rfl, hr 14 _ rfl⟩, ⟨hz2 0 _ rfl, hz2 1 _ rfl, hz2 2 _ rfl, hz2 3 _ rfl, hz2 4 _ rfl, hz2 5 _ rfl, hz2 6 _ rfl, hz2 7 _ rfl, hz2 8 _ rfl, hz2 9 _ rfl, hz2 10 _ rfl, hz2 11 _ rfl, hz2 12 _ rfl, hz2 13 _ rfl, hz2 14 _ rfl⟩⟩
    · clear e0 e1 e2 e3 e4 e5 e6 e7 e8 e9 e10 e11 e12 e13 e14 ef p0 p1 p2 p3 p4 p5 p6 p7 p8 p9 p10 p11 p12 p13 p14 pf q0 q1 q2 q3 q4 q5 q6 q7 q8 q9 q10 q11 q12 q13 q14 o0 o1 HMC HM4 HI4 hb3 HX3 HK1 HF1 HCW HFW HCOP HD
      rintro X ⟨hbX, hsR, hsM, hth2, hX3, hX2, r0, r1, s0, s1, gf2, gf3, ⟨u0, u1, u2, u3, u4, u5, u6, u7, u8, u9, u10, u11, u12, u13, u14⟩, ⟨t0, t1, t2, t3, t4, t5, t6, t7, t8, t9, t10, t11, t12, t13, t14⟩⟩
      have HBX := hid hbX
      have HSR := hid hsR
      have HSM := hid hsM
      have HT2 := hid hth2
      have HG3 := hid gf3
      have HS0 := hid s0
      have HS1 := hid s1
      have n1 : w.heap.size ≠ w.heap.size + 1 + 1 := by omega
      have n2 : w2.heap.size ≠ w.heap.size + 1 + 1 := by omega
      have n3 : w2.heap.size ≠ w.heap.size + 1 + 1 + 1 := by omega
      have m1 : ¬ (w.heap.size + 1 + 1 = w.heap.size) := by omega
      have m2 : ¬ (w.heap.size + 1 + 1 = w2.heap.size) := by omega
      have m3 : ¬ (w.heap.size + 1 + 1 + 1 = w.heap.size) := by omega
      have m4 : ¬ (w.heap.size + 1 + 1 + 1 = w2.heap.size) := by omega
      have n4 : w.heap.size < X.heap.size := by omega
      have n5 : w.heap.size + 1 + 1 < X.heap.size := by omega
      clear hbX hsR hsM hth2
      go_region_held3 (fun w' => w'.cell? ⟨w.heap.size, 0, none⟩ = some (.int .u16 (y.c.r 0)) ∧ w'.cell? ⟨w.heap.size, 1, none⟩ = some (.int .u16 (y.c.r 1)) ∧ w'.cell? ⟨w.heap.size, 2, none⟩ = some (.int .u16 (y.c.r 2)) ∧ w'.cell? ⟨w.heap.size, 3, none⟩ = some (.int .u16 (y.c.r 3)) ∧ w'.cell? ⟨w.heap.size, 4, none⟩ = some (.int .u16 (y.c.r 4)) ∧ w'.cell? ⟨w.heap.size, 5, none⟩ = some (.int .u16 (y.c.r 5)) ∧ w'.cell? ⟨w.heap.size, 6, none⟩ = some (.int .u16 (y.c.r 6)) ∧ w'.cell? ⟨w.heap.size, 7, none⟩ = some (.int .u16 (y.c.r 7)) ∧ w'.cell? ⟨w.heap.size, 8, none⟩ = some (.int .u16 y.c.PC) ∧ w'.cell? ⟨w.heap.size, 9, none⟩ = some (.bool y.c.Z) ∧ w'.cell? ⟨w.heap.size, 10, none⟩ = some (.bool y.c.N) ∧ w'.cell? ⟨w.heap.size, 11, none⟩ = some (.bool y.c.C) ∧ w'.cell? ⟨w.heap.size, 12, none⟩ = some (.bool y.c.V) ∧ w'.cell? ⟨w.heap.size, 13, none⟩ = some (.bool y.c.May) ∧ w'.cell? ⟨w.heap.size, 14, none⟩ = some (.bool y.c.Waits) ∧ w'.cell? ⟨w2.heap.size, 0, none⟩ = some (.slice aR rom.length cR) ∧ w'.cell? ⟨w2.heap.size, 1, none⟩ = some (.slice aM ram.length cM))
        ((go_keep; done))
        (fail)
      go_wp2
      rw [nested_eq]
      refine cutB (fun Y => Below w.heap.size w Y ∧ sliceAt Y (.slice aR rom.length cR) rom ∧ sliceAt Y (.slice aM ram.length cM) y.s ∧ Y.rangeAt (w.heap.size + 1 + 1) 0 (cpuL y.c) ∧ Y.rangeAt (w.heap.size + 1 + 1 + 1) 0 [(.slice aR rom.length cR), (.slice aM ram.length cM)]) (step_fin (cpuL y.c) HBX.out HSR.out HSM.out HT2.out (by omega) HS0.out HS1.out) ?_
      rintro Y ⟨hbY, hsR, hsM, hrA, hrB⟩
      have hl := load_cpu Y _ y.c hrA
      have hl2 := run_loadVar_mid (P := Tryd.prog) Y _ 0 24 _ _ hrB Tryd.underlying24 rfl info_space
      refine bodyPost_ret (v := .tuple #[cpuV y.c, .agg #[(.slice aR rom.length cR), (.slice aM ram.length cM)], .int .i64 y.n, .int .i64 0]) ?_ rfl ⟨_, _, rfl, hsR, hsM, hok4, hbY⟩
      simp only [results, Tryd.results7]
      simp
      show (Result.andThen (Sem.run Tryd.prog (loadVar 28 ⟨w.heap.size + 1 + 1, 0, none⟩) Y) _) = _
      rw [hl]
      show (Result.andThen (Sem.run Tryd.prog (loadVar 24 ⟨w.heap.size + 1 + 1 + 1, 0, none⟩) Y) _) = _
      rw [hl2]
      rfl
end Go.Proofs.YthfngejmihdafaaDoor
