/-
  The Go text of the law CpuOn returns true where the space is right and a step is done.
-/
import Derived.Test.YthfngejmihdafaaDoorZoA
namespace Go.Proofs.YthfngejmihdafaaDoor
open Go.ChangeShapes Go.WideShapes Go.ChangeAt Go.RowKit
set_option linter.unusedVariables false

set_option maxRecDepth 100000 in
set_option maxHeartbeats 3200000 in
theorem on_pos (n : Nat) (hn : n < 500) (h0 : 0 < n) (more : Bool) (v1 v2 : Value) (rom ram : List UInt8) (w : World) (h1 : sliceAt w v1 rom) (h2 : sliceAt w v2 ram) (hl1 : rom.length ≤ 1024) (hl2 : ram.length ≤ 256) (hs : shapesAt w) :
    Calls Tryd.prog 3 #[.agg #[v1, v2], .int .i64 n, .bool more] w fun e w' => e = .returned (.bool true) ∧ Below w.heap.size w w' := by
  have HS := hid hs
  have H1 := hid h1
  have H2 := hid h2
  have hT := fun W s1 s2 ss => run_ok v1 v2 (.slice none 0 0) rom ram [] n (by omega) W s1 s2 (Or.inl ⟨none, 0, rfl, rfl⟩) (by simp) hl1 hl2 ss
  have hU := fun W v3 s1 s2 s3 ss => run_ok v1 v2 v3 rom ram (onL more n) (n + 1) (by omega) W s1 s2 s3 (by unfold onL; cases more <;> simp [maxLen]) hl1 hl2 ss
  rw [on_fact] at hU
  have e1 : ((n + 1 : Nat) : Int) = (n : Int) + 1 := rfl
  rw [e1] at hU
  have hlen := runTo_len rom ram (rg []) n
  have hkn := runTo_n rom ram (rg []) n
  have hz : n = 0 → (runTo (spc rom) ram (rg []) n).2.2 = 0 := fun e => by subst e; rfl
  generalize runTo (spc rom) ram (rg []) n = T at *
  obtain ⟨c, r1, k⟩ := T
  dsimp only at hT hU hlen hkn hz
  have hST := fun (hc : c.ok) W vR vM s1 s2 ss => step_ok c hc vR vM rom r1 more W s1 s2 hl1 (by omega) ss
  obtain ⟨y, hy⟩ : ∃ y, C.step (spc rom) c r1 more = y := ⟨_, rfl⟩
  have hyn := sp_step_n rom c r1 more
  have hyl := sp_step_len rom c r1 more
  rw [hy] at hU hST hyn hyl
  have HT := hid hT
  have HU := hid hU
  have HST := hid hST
  obtain ⟨a1, k1, x1⟩ := slice_len h1
  obtain ⟨a2, k2, x2⟩ := slice_len h2
  subst x1 x2
  have hw : IntKind.i64.wrap (k + y.n) = k + y.n := by simp [IntKind.wrap, IntKind.bits, IntKind.signed]; omega
  have hq1 : (0 : Int) < n := by omega
  have hn0 : ¬ ((n : Int) < 0) := by omega
  have hn1 : ¬ ((500 : Int) ≤ n) := by omega
  have hn2 : ¬ ((n : Int) < 0 ∨ (500 : Int) ≤ n) := by omega
  have eqc : ∀ W : World, (binOp .eql 28 (.agg #[.int .u16 (y.c.r 0), .int .u16 (y.c.r 1), .int .u16 (y.c.r 2), .int .u16 (y.c.r 3), .int .u16 (y.c.r 4), .int .u16 (y.c.r 5), .int .u16 (y.c.r 6), .int .u16 (y.c.r 7), .int .u16 y.c.PC, .bool y.c.Z, .bool y.c.N, .bool y.c.C, .bool y.c.V, .bool y.c.May, .bool y.c.Waits]) (.agg #[.int .u16 (y.c.r 0), .int .u16 (y.c.r 1), .int .u16 (y.c.r 2), .int .u16 (y.c.r 3), .int .u16 (y.c.r 4), .int .u16 (y.c.r 5), .int .u16 (y.c.r 6), .int .u16 (y.c.r 7), .int .u16 y.c.PC, .bool y.c.Z, .bool y.c.N, .bool y.c.C, .bool y.c.V, .bool y.c.May, .bool y.c.Waits])).run Tryd.prog W = .ok (.bool true) W := fun W => eq_cpu y.c W
  clear h1 h2 hs hT hU hST hlen hkn hz hyn hyl hy
  have hmm := @run_makeMap Tryd.prog
  clear e1
  go_enter Tryd.func3, Tryd.ntmps3
  go_wp2_with (first
    | (have zz := B4; clear zz; go_at_call 7; refine (HST.out HOK1.out _ _ _ (HR1.out.kept W14.out) (HM1.out.kept W14.out) (HS.out.kept B4.out)).mono ?_; rintro e w5 ⟨vR5, vM5, rfl, hR5, hM5, hok5, hb5⟩; obtain ⟨aR5, kR5, rfl⟩ := slice_len hR5; obtain ⟨aM5, kM5, rfl⟩ := slice_len hM5; have B5 := hid (stp B4.out hb5); have R5 := hid hR5; have M5 := hid hM5; have D5 := hid (D4.out.kept hb5); have Z5 := hid (Z4.out.kept hb5); have QR5 := hid ((R3.out.kept W34.out).kept hb5); have QM5 := hid ((M3.out.kept W34.out).kept hb5); obtain ⟨d0, d1, d2, d3, d4, d5, d6, d7, d8, d9, d10, d11, d12, d13, d14⟩ := D5.out.all; obtain ⟨bz, bs0, bs1⟩ := Z5.out; have dz := D5.out.z; clear hR5 hM5 hok5 hb5 c0 c1 c2 c3 c4 c5 c6 c7 c8 c9 c10 c11 c12 c13 c14)
    | (go_at_call 8; refine (same_any _ _ _ _ rom y.s _ (R5.out.kept (stA (stA (st0 w5) _) _)) (M5.out.kept (stA (stA (st0 w5) _) _)) (QR5.out.kept (stA (stA (st0 w5) _) _)) (QM5.out.kept (stA (stA (st0 w5) _) _))).mono ?_; rintro e w6 ⟨rfl, hb6⟩; have B6 := hid (stp (stA (stA B5.out _) _) hb6); clear hb6)
    | (have zz := B3; clear zz; go_at_call 6; refine (stepped_any _ (HS.out.kept (stA (stA B3.out _) _))).mono ?_; rintro e w4 ⟨rfl, hb4⟩; have B4 := hid (stp (stA (stA B3.out _) _) hb4); have W34 := hid (stp (stA (stA (st0 w3) _) _) hb4); have W14 := hid (stp W13.out W34.out); have C4 := hid (C3.out.kept W34.out); have A4 := hid (A3.out.kept W34.out); have D4 := hid (((Cat.new w3 y.c _ rfl).over _).kept hb4); have Z4 := hid ((Sat.new (w3.alloc _) _ _ (w3.heap.size + 1) (by simp)).kept hb4); obtain ⟨c0, c1, c2, c3, c4, c5, c6, c7, c8, c9, c10, c11, c12, c13, c14⟩ := C4.out.all; obtain ⟨az, as0, as1⟩ := A4.out; have cz := C4.out.z; clear hb4)
    | (have zz := B2; clear zz; go_at_call 5; refine (HU.out _ _ (H1.out.kept B2.out) (H2.out.kept B2.out) (onL_at n more L2.out.1 L2.out.2) (HS.out.kept B2.out)).mono ?_; rintro e w3 ⟨vR3, vM3, rfl, hR3, hM3, hok3, hb3⟩; obtain ⟨aR3, kR3, rfl⟩ := slice_len hR3; obtain ⟨aM3, kM3, rfl⟩ := slice_len hM3; have B3 := hid (stp B2.out hb3); have R3 := hid hR3; have M3 := hid hM3; have C3 := hid (C2.out.kept hb3); have A3 := hid (A2.out.kept hb3); have W13 := hid (stp W12.out hb3); clear hR3 hM3 hok3 hb3)
    | (refine wpList_binsert _ rfl _ _ _ 33 rfl 4 32 under_bmap Tryd.underlying4 (w1.heap.size + 1 + 1) 0 rfl ?_ _ rfl rfl ?_; (exact (heap_alloc_old _ _ (by simp)).trans (heap_new_at _ _ _ (by simp))); intro w2 hm2 hs2; have lk := blookup_run under_bmap Tryd.underlying4 hm2 more _ (zero_ints w2); have DD := hid (hs2.grown _ (stA (stA (st0 _) _) _) (by simp)); have B2 := hid (stp (stA (stA B1.out _) _) DD.out); have W12 := hid (stp (stA (stA (st0 w1) _) _) DD.out); have C2 := hid (((Cat.new w1 c _ rfl).over _).kept DD.out); have A2 := hid ((Sat.new (w1.alloc _) _ _ (w1.heap.size + 1) (by simp)).kept DD.out); have L2 : Hid (w1.heap.size + 1 + 1 + 1 < w2.heap.size ∧ w2.cell? ⟨w1.heap.size + 1 + 1 + 1, 0, none⟩ = some (.int .i64 n)) := hid ⟨(by rw [hs2.size]; simp), hs2.cell _ _ (cell_new _ _ _ _ (by simp))⟩; clear hm2 hs2)
    | (go_at_call 5; refine (HT.out _ (H1.out.kept (stA (st0 w) _)) (H2.out.kept (stA (st0 w) _)) (HS.out.kept (stA (st0 w) _))).mono ?_; rintro e w1 ⟨vR, vM, rfl, hR1, hM1, hok1, hb1⟩; obtain ⟨aR, kR, rfl⟩ := slice_len hR1; obtain ⟨aM, kM, rfl⟩ := slice_len hM1; have B1 := hid (stp (stA (st0 w) _) hb1); have HR1 := hid hR1; have HM1 := hid hM1; have S1 := hid ((Sat.new w _ _ _ rfl).kept hb1); obtain ⟨sz, s0, s1⟩ := S1.out; have HB1 := hid hb1; have HOK1 := hid hok1; clear hR1 hM1 hok1 hb1))
  go_ret
  exact ⟨ret_b rfl, B6.out⟩
end Go.Proofs.YthfngejmihdafaaDoor
