/-
  The law CpuQuiet: a processor that waits (the texts CpuQw, CpuQv in one).
-/
import Derived.Test.YtimidkhppbhaeaaDoorZqD
namespace Go.Proofs.YtimidkhppbhaeaaDoor
open Go.ChangeShapes Go.WideShapes Go.ChangeAt Go.RowKit
set_option linter.unusedVariables false

set_option maxRecDepth 100000 in
set_option maxHeartbeats 3200000 in
theorem quiet_waits (c : C.Cpu) (hc : c.ok) (v1 v2 : Value) (rom ram : List UInt8) (r : Bool) (w : World) (h1 : sliceAt w v1 rom) (h2 : sliceAt w v2 ram) (hl1 : rom.length ≤ 1024) (hl2 : ram.length ≤ 256) (hs : shapesAt w) (hr : r = false) (hw : c.Waits = true) :
    Calls Tryd.prog 5 #[cpuV c, .agg #[v1, v2], .bool r] w fun e w' => e = .returned (.bool true) ∧ Below w.heap.size w w' := by
  have HS := hid hs
  have H1 := hid h1
  have H2 := hid h2
  have HC := hid hc
  obtain ⟨y, hy⟩ : ∃ y, C.step (spc rom) c ram r = y := ⟨_, rfl⟩
  have HST := hid (fun W s1 s2 ss => step_ok c hc v1 v2 rom ram r W s1 s2 hl1 hl2 ss)
  rw [hy] at HST
  obtain ⟨a1, k1, x1⟩ := slice_len h1
  obtain ⟨a2, k2, x2⟩ := slice_len h2
  subst x1 x2
  have hn := sp_step_n rom c ram r
  have hlen0 := sp_step_len rom c ram r
  rw [hy] at hn hlen0
  have hlen : ((y.s.length : Int) != ram.length) = false := by simp [hlen0]
  have hn1 : ¬ y.n < 1 := by omega
  clear hn hlen0
  have hrg := sp_step_waits rom c ram r (by simp [hr]) hw
  rw [hy] at hrg
  subst hrg
  dsimp only at HST hlen hn1
  have eqc : ∀ W : World, (binOp .eql 28 (.agg #[.int .u16 (c.r 0), .int .u16 (c.r 1), .int .u16 (c.r 2), .int .u16 (c.r 3), .int .u16 (c.r 4), .int .u16 (c.r 5), .int .u16 (c.r 6), .int .u16 (c.r 7), .int .u16 c.PC, .bool c.Z, .bool c.N, .bool c.C, .bool c.V, .bool c.May, .bool true]) (.agg #[.int .u16 (c.r 0), .int .u16 (c.r 1), .int .u16 (c.r 2), .int .u16 (c.r 3), .int .u16 (c.r 4), .int .u16 (c.r 5), .int .u16 (c.r 6), .int .u16 (c.r 7), .int .u16 c.PC, .bool c.Z, .bool c.N, .bool c.C, .bool c.V, .bool c.May, .bool true])).run Tryd.prog W = .ok (.bool true) W := fun W => eq_cpu { c with Waits := true } W
  have HWW := hid hw
  have HRM := hid hr
  clear hw hr
  clear h1 h2 hs hc hy
  go_enter Tryd.func5, Tryd.ntmps5
  go_wp2_with (first
    | (go_at_call 8; refine (HST.out _ (H1.out.kept (stA (stA (st0 w) _) _)) (H2.out.kept (stA (stA (st0 w) _) _)) (HS.out.kept (stA (stA (st0 w) _) _))).mono ?_; rintro e w1 ⟨vR, vM, rfl, hR1, hM1, hok1, hb1⟩; obtain ⟨aR, kR, rfl⟩ := slice_len hR1; obtain ⟨aM, kM, rfl⟩ := slice_len hM1; have B1 := hid (stp (stA (stA (st0 w) _) _) hb1); have HR1 := hid hR1; have HM1 := hid hM1; have HB1 := hid hb1; clear hR1 hM1 hok1 hb1)
    | (go_at_call 7; refine (stepped_any _ (HS.out.kept (stA (stA B1.out _) _))).mono ?_; rintro e w2 ⟨rfl, hb2⟩; have B2 := hid (stp (stA (stA B1.out _) _) hb2); have R2 := hid ((HR1.out.kept (stA (stA (st0 w1) _) _)).kept hb2); have M2 := hid ((HM1.out.kept (stA (stA (st0 w1) _) _)).kept hb2); have S1 := hid (H1.out.kept B2.out); have S2 := hid (H2.out.kept B2.out); obtain ⟨q0, q1, q2, q3, y0, y1, y2, y3⟩ := box4 HB1.out hb2; have c0 : w2.cell? ⟨w.heap.size, 0, none⟩ = some (.int .u16 (c.r 0)) := q0 0; have c1 : w2.cell? ⟨w.heap.size, 1, none⟩ = some (.int .u16 (c.r 1)) := q0 1; have c2 : w2.cell? ⟨w.heap.size, 2, none⟩ = some (.int .u16 (c.r 2)) := q0 2; have c3 : w2.cell? ⟨w.heap.size, 3, none⟩ = some (.int .u16 (c.r 3)) := q0 3; have c4 : w2.cell? ⟨w.heap.size, 4, none⟩ = some (.int .u16 (c.r 4)) := q0 4; have c5 : w2.cell? ⟨w.heap.size, 5, none⟩ = some (.int .u16 (c.r 5)) := q0 5; have c6 : w2.cell? ⟨w.heap.size, 6, none⟩ = some (.int .u16 (c.r 6)) := q0 6; have c7 : w2.cell? ⟨w.heap.size, 7, none⟩ = some (.int .u16 (c.r 7)) := q0 7; have c8 : w2.cell? ⟨w.heap.size, 8, none⟩ = some (.int .u16 c.PC) := q0 8; have c9 : w2.cell? ⟨w.heap.size, 9, none⟩ = some (.bool c.Z) := q0 9; have c10 : w2.cell? ⟨w.heap.size, 10, none⟩ = some (.bool c.N) := q0 10; have c11 : w2.cell? ⟨w.heap.size, 11, none⟩ = some (.bool c.C) := q0 11; have c12 : w2.cell? ⟨w.heap.size, 12, none⟩ = some (.bool c.V) := q0 12; have c13 : w2.cell? ⟨w.heap.size, 13, none⟩ = some (.bool c.May) := q0 13; have c14 : w2.cell? ⟨w.heap.size, 14, none⟩ = some (.bool c.Waits) := q0 14; have d0 : w2.cell? ⟨w1.heap.size, 0, none⟩ = some (.int .u16 (c.r 0)) := q2 0; have d1 : w2.cell? ⟨w1.heap.size, 1, none⟩ = some (.int .u16 (c.r 1)) := q2 1; have d2 : w2.cell? ⟨w1.heap.size, 2, none⟩ = some (.int .u16 (c.r 2)) := q2 2; have d3 : w2.cell? ⟨w1.heap.size, 3, none⟩ = some (.int .u16 (c.r 3)) := q2 3; have d4 : w2.cell? ⟨w1.heap.size, 4, none⟩ = some (.int .u16 (c.r 4)) := q2 4; have d5 : w2.cell? ⟨w1.heap.size, 5, none⟩ = some (.int .u16 (c.r 5)) := q2 5; have d6 : w2.cell? ⟨w1.heap.size, 6, none⟩ = some (.int .u16 (c.r 6)) := q2 6; have d7 : w2.cell? ⟨w1.heap.size, 7, none⟩ = some (.int .u16 (c.r 7)) := q2 7; have d8 : w2.cell? ⟨w1.heap.size, 8, none⟩ = some (.int .u16 c.PC) := q2 8; have d9 : w2.cell? ⟨w1.heap.size, 9, none⟩ = some (.bool c.Z) := q2 9; have d10 : w2.cell? ⟨w1.heap.size, 10, none⟩ = some (.bool c.N) := q2 10; have d11 : w2.cell? ⟨w1.heap.size, 11, none⟩ = some (.bool c.C) := q2 11; have d12 : w2.cell? ⟨w1.heap.size, 12, none⟩ = some (.bool c.V) := q2 12; have d13 : w2.cell? ⟨w1.heap.size, 13, none⟩ = some (.bool c.May) := q2 13; have d14 : w2.cell? ⟨w1.heap.size, 14, none⟩ = some (.bool c.Waits) := q2 14; have s0 : w2.cell? ⟨w.heap.size + 1, 0, none⟩ = some (.slice a1 rom.length k1) := q1 0; have s1 : w2.cell? ⟨w.heap.size + 1, 1, none⟩ = some (.slice a2 ram.length k2) := q1 1; have o0 : w2.cell? ⟨w1.heap.size + 1, 0, none⟩ = some (.slice aR rom.length kR) := q3 0; have o1 : w2.cell? ⟨w1.heap.size + 1, 1, none⟩ = some (.slice aM ram.length kM) := q3 1; have hw := HWW.out; have hr := HRM.out; clear HR1 HM1 HB1 hb2 q0 q1 q2 q3)
    | (go_at_call 12; refine (equal_any _ _ rom rom _ R2.out S1.out).mono ?_; rintro e w3 ⟨rfl, rfl⟩)
    | (go_at_call 12; refine (equal_any _ _ ram ram _ M2.out S2.out).mono ?_; rintro e w3 ⟨rfl, rfl⟩))
  all_goals go_ret
  all_goals exact ⟨rfl, B2.out⟩
set_option maxRecDepth 100000 in
set_option maxHeartbeats 3200000 in
theorem quiet_waits2 (c : C.Cpu) (hc : c.ok) (v1 v2 : Value) (rom ram : List UInt8) (r : Bool) (w : World) (h1 : sliceAt w v1 rom) (h2 : sliceAt w v2 ram) (hl1 : rom.length ≤ 1024) (hl2 : ram.length ≤ 256) (hs : shapesAt w) (hr : r = true ∧ c.May = false) (hw : c.Waits = true) :
    Calls Tryd.prog 5 #[cpuV c, .agg #[v1, v2], .bool r] w fun e w' => e = .returned (.bool true) ∧ Below w.heap.size w w' := by
  have HS := hid hs
  have H1 := hid h1
  have H2 := hid h2
  have HC := hid hc
  obtain ⟨y, hy⟩ : ∃ y, C.step (spc rom) c ram r = y := ⟨_, rfl⟩
  have HST := hid (fun W s1 s2 ss => step_ok c hc v1 v2 rom ram r W s1 s2 hl1 hl2 ss)
  rw [hy] at HST
  obtain ⟨a1, k1, x1⟩ := slice_len h1
  obtain ⟨a2, k2, x2⟩ := slice_len h2
  subst x1 x2
  have hn := sp_step_n rom c ram r
  have hlen0 := sp_step_len rom c ram r
  rw [hy] at hn hlen0
  have hlen : ((y.s.length : Int) != ram.length) = false := by simp [hlen0]
  have hn1 : ¬ y.n < 1 := by omega
  clear hn hlen0
  have hrg := sp_step_waits rom c ram r (by simp [hr]) hw
  rw [hy] at hrg
  subst hrg
  dsimp only at HST hlen hn1
  have eqc : ∀ W : World, (binOp .eql 28 (.agg #[.int .u16 (c.r 0), .int .u16 (c.r 1), .int .u16 (c.r 2), .int .u16 (c.r 3), .int .u16 (c.r 4), .int .u16 (c.r 5), .int .u16 (c.r 6), .int .u16 (c.r 7), .int .u16 c.PC, .bool c.Z, .bool c.N, .bool c.C, .bool c.V, .bool false, .bool true]) (.agg #[.int .u16 (c.r 0), .int .u16 (c.r 1), .int .u16 (c.r 2), .int .u16 (c.r 3), .int .u16 (c.r 4), .int .u16 (c.r 5), .int .u16 (c.r 6), .int .u16 (c.r 7), .int .u16 c.PC, .bool c.Z, .bool c.N, .bool c.C, .bool c.V, .bool false, .bool true])).run Tryd.prog W = .ok (.bool true) W := fun W => eq_cpu { c with Waits := true, May := false } W
  have HWW := hid hw
  have HRM := hid hr
  clear hw hr
  clear h1 h2 hs hc hy
  go_enter Tryd.func5, Tryd.ntmps5
  go_wp2_with (first
    | (go_at_call 8; refine (HST.out _ (H1.out.kept (stA (stA (st0 w) _) _)) (H2.out.kept (stA (stA (st0 w) _) _)) (HS.out.kept (stA (stA (st0 w) _) _))).mono ?_; rintro e w1 ⟨vR, vM, rfl, hR1, hM1, hok1, hb1⟩; obtain ⟨aR, kR, rfl⟩ := slice_len hR1; obtain ⟨aM, kM, rfl⟩ := slice_len hM1; have B1 := hid (stp (stA (stA (st0 w) _) _) hb1); have HR1 := hid hR1; have HM1 := hid hM1; have HB1 := hid hb1; clear hR1 hM1 hok1 hb1)
    | (go_at_call 7; refine (stepped_any _ (HS.out.kept (stA (stA B1.out _) _))).mono ?_; rintro e w2 ⟨rfl, hb2⟩; have B2 := hid (stp (stA (stA B1.out _) _) hb2); have R2 := hid ((HR1.out.kept (stA (stA (st0 w1) _) _)).kept hb2); have M2 := hid ((HM1.out.kept (stA (stA (st0 w1) _) _)).kept hb2); have S1 := hid (H1.out.kept B2.out); have S2 := hid (H2.out.kept B2.out); obtain ⟨q0, q1, q2, q3, y0, y1, y2, y3⟩ := box4 HB1.out hb2; have c0 : w2.cell? ⟨w.heap.size, 0, none⟩ = some (.int .u16 (c.r 0)) := q0 0; have c1 : w2.cell? ⟨w.heap.size, 1, none⟩ = some (.int .u16 (c.r 1)) := q0 1; have c2 : w2.cell? ⟨w.heap.size, 2, none⟩ = some (.int .u16 (c.r 2)) := q0 2; have c3 : w2.cell? ⟨w.heap.size, 3, none⟩ = some (.int .u16 (c.r 3)) := q0 3; have c4 : w2.cell? ⟨w.heap.size, 4, none⟩ = some (.int .u16 (c.r 4)) := q0 4; have c5 : w2.cell? ⟨w.heap.size, 5, none⟩ = some (.int .u16 (c.r 5)) := q0 5; have c6 : w2.cell? ⟨w.heap.size, 6, none⟩ = some (.int .u16 (c.r 6)) := q0 6; have c7 : w2.cell? ⟨w.heap.size, 7, none⟩ = some (.int .u16 (c.r 7)) := q0 7; have c8 : w2.cell? ⟨w.heap.size, 8, none⟩ = some (.int .u16 c.PC) := q0 8; have c9 : w2.cell? ⟨w.heap.size, 9, none⟩ = some (.bool c.Z) := q0 9; have c10 : w2.cell? ⟨w.heap.size, 10, none⟩ = some (.bool c.N) := q0 10; have c11 : w2.cell? ⟨w.heap.size, 11, none⟩ = some (.bool c.C) := q0 11; have c12 : w2.cell? ⟨w.heap.size, 12, none⟩ = some (.bool c.V) := q0 12; have c13 : w2.cell? ⟨w.heap.size, 13, none⟩ = some (.bool c.May) := q0 13; have c14 : w2.cell? ⟨w.heap.size, 14, none⟩ = some (.bool c.Waits) := q0 14; have d0 : w2.cell? ⟨w1.heap.size, 0, none⟩ = some (.int .u16 (c.r 0)) := q2 0; have d1 : w2.cell? ⟨w1.heap.size, 1, none⟩ = some (.int .u16 (c.r 1)) := q2 1; have d2 : w2.cell? ⟨w1.heap.size, 2, none⟩ = some (.int .u16 (c.r 2)) := q2 2; have d3 : w2.cell? ⟨w1.heap.size, 3, none⟩ = some (.int .u16 (c.r 3)) := q2 3; have d4 : w2.cell? ⟨w1.heap.size, 4, none⟩ = some (.int .u16 (c.r 4)) := q2 4; have d5 : w2.cell? ⟨w1.heap.size, 5, none⟩ = some (.int .u16 (c.r 5)) := q2 5; have d6 : w2.cell? ⟨w1.heap.size, 6, none⟩ = some (.int .u16 (c.r 6)) := q2 6; have d7 : w2.cell? ⟨w1.heap.size, 7, none⟩ = some (.int .u16 (c.r 7)) := q2 7; have d8 : w2.cell? ⟨w1.heap.size, 8, none⟩ = some (.int .u16 c.PC) := q2 8; have d9 : w2.cell? ⟨w1.heap.size, 9, none⟩ = some (.bool c.Z) := q2 9; have d10 : w2.cell? ⟨w1.heap.size, 10, none⟩ = some (.bool c.N) := q2 10; have d11 : w2.cell? ⟨w1.heap.size, 11, none⟩ = some (.bool c.C) := q2 11; have d12 : w2.cell? ⟨w1.heap.size, 12, none⟩ = some (.bool c.V) := q2 12; have d13 : w2.cell? ⟨w1.heap.size, 13, none⟩ = some (.bool c.May) := q2 13; have d14 : w2.cell? ⟨w1.heap.size, 14, none⟩ = some (.bool c.Waits) := q2 14; have s0 : w2.cell? ⟨w.heap.size + 1, 0, none⟩ = some (.slice a1 rom.length k1) := q1 0; have s1 : w2.cell? ⟨w.heap.size + 1, 1, none⟩ = some (.slice a2 ram.length k2) := q1 1; have o0 : w2.cell? ⟨w1.heap.size + 1, 0, none⟩ = some (.slice aR rom.length kR) := q3 0; have o1 : w2.cell? ⟨w1.heap.size + 1, 1, none⟩ = some (.slice aM ram.length kM) := q3 1; have hw := HWW.out; obtain ⟨hr, hm⟩ := HRM.out; clear HR1 HM1 HB1 hb2 q0 q1 q2 q3)
    | (go_at_call 12; refine (equal_any _ _ rom rom _ R2.out S1.out).mono ?_; rintro e w3 ⟨rfl, rfl⟩)
    | (go_at_call 12; refine (equal_any _ _ ram ram _ M2.out S2.out).mono ?_; rintro e w3 ⟨rfl, rfl⟩))
  all_goals go_ret
  all_goals exact ⟨rfl, B2.out⟩
end Go.Proofs.YtimidkhppbhaeaaDoor
