/-
  The law CpuQuiet: a processor that is rung, may not be, and does not wait.
-/
import Derived.Test.YtimidkhppbhaeaaDoorZqD
namespace Go.Proofs.YtimidkhppbhaeaaDoor
open Go.ChangeShapes Go.WideShapes Go.ChangeAt Go.RowKit
set_option linter.unusedVariables false

theorem nw_quiet_on {a : Int} (h4 : (O.rOp a == 4) = false) (h6 : (O.rOp a == 6) = false) (h22 : (O.rOp a == 22) = false) (h20 : (O.rOp a == 20) = false) (h31 : (O.rOp a == 31) = false) : ¬ writes (O.rk a) := by
  simp only [beq_eq_false_iff_ne, ne_eq] at h4 h6 h22 h20 h31
  unfold writes O.rk
  omega
set_option maxRecDepth 100000 in
set_option maxHeartbeats 3200000 in
theorem quiet_on (c : C.Cpu) (hc : c.ok) (v1 v2 : Value) (rom ram : List UInt8) (r : Bool) (w : World) (h1 : sliceAt w v1 rom) (h2 : sliceAt w v2 ram) (hl1 : rom.length ≤ 1024) (hl2 : ram.length ≤ 256) (hs : shapesAt w) (hr : r = true ∧ c.May = false) (hw : c.Waits = false) :
    Calls Tryd.prog 5 #[cpuV c, .agg #[v1, v2], .bool r] w fun e w' => e = .returned (.bool true) ∧ Below w.heap.size w w' := by
  have HS := hid hs
  have H1 := hid h1
  have H2 := hid h2
  have HC := hid hc
  obtain ⟨y, hy⟩ : ∃ y, C.step (spc rom) c ram r = y := ⟨_, rfl⟩
  have HST := hid (fun W s1 s2 ss => step_ok c hc v1 v2 rom ram r W s1 s2 hl1 hl2 ss)
  rw [hy] at HST
  obtain ⟨a1, k1, x1⟩ := slice_len h1
  obtain ⟨a2, k2, x2⟩ := slice_len h2
  subst x1 x2
  have hn := sp_step_n rom c ram r
  have hlen0 := sp_step_len rom c ram r
  rw [hy] at hn hlen0
  have hlen : ((y.s.length : Int) != ram.length) = false := by simp [hlen0]
  have hn1 : ¬ y.n < 1 := by omega
  clear hn hlen0
  obtain ⟨pc, hpc⟩ := Int.eq_ofNat_of_zero_le hc.2.2.1
  have hp65 : pc ≤ 65535 := by have := hc.2.2.2; omega
  have hqt := sp_step_quiet rom c ram r (by simp [hr]) hw
  rw [hy] at hqt
  have HQT := hid hqt
  have HPC := hid hpc
  have HWW := hid hw
  have HRM := hid hr
  clear hpc hw hr hqt
  clear h1 h2 hs hc hy
  go_enter Tryd.func5, Tryd.ntmps5
  go_wp2_with (first
    | (go_at_call 8; refine (HST.out _ (H1.out.kept (stA (stA (st0 w) _) _)) (H2.out.kept (stA (stA (st0 w) _) _)) (HS.out.kept (stA (stA (st0 w) _) _))).mono ?_; rintro e w1 ⟨vR, vM, rfl, hR1, hM1, hok1, hb1⟩; obtain ⟨aR, kR, rfl⟩ := slice_len hR1; obtain ⟨aM, kM, rfl⟩ := slice_len hM1; have B1 := hid (stp (stA (stA (st0 w) _) _) hb1); have HR1 := hid hR1; have HM1 := hid hM1; have HB1 := hid hb1; clear hR1 hM1 hok1 hb1)
    | (go_at_call 7; refine (stepped_any _ (HS.out.kept (stA (stA B1.out _) _))).mono ?_; rintro e w2 ⟨rfl, hb2⟩; have B2 := hid (stp (stA (stA B1.out _) _) hb2); have R2 := hid ((HR1.out.kept (stA (stA (st0 w1) _) _)).kept hb2); have M2 := hid ((HM1.out.kept (stA (stA (st0 w1) _) _)).kept hb2); have S1 := hid (H1.out.kept B2.out); have S2 := hid (H2.out.kept B2.out); obtain ⟨q0, q1, q2, q3, y0, y1, y2, y3⟩ := box4 HB1.out hb2; have c8 : w2.cell? ⟨w.heap.size, 8, none⟩ = some (.int .u16 c.PC) := q0 8; have c13 : w2.cell? ⟨w.heap.size, 13, none⟩ = some (.bool c.May) := q0 13; have c14 : w2.cell? ⟨w.heap.size, 14, none⟩ = some (.bool c.Waits) := q0 14; have d13 : w2.cell? ⟨w1.heap.size, 13, none⟩ = some (.bool y.c.May) := q2 13; have d14 : w2.cell? ⟨w1.heap.size, 14, none⟩ = some (.bool y.c.Waits) := q2 14; have s0 : w2.cell? ⟨w.heap.size + 1, 0, none⟩ = some (.slice a1 rom.length k1) := q1 0; have s1 : w2.cell? ⟨w.heap.size + 1, 1, none⟩ = some (.slice a2 ram.length k2) := q1 1; have o0 : w2.cell? ⟨w1.heap.size + 1, 0, none⟩ = some (.slice aR rom.length kR) := q3 0; have o1 : w2.cell? ⟨w1.heap.size + 1, 1, none⟩ = some (.slice aM y.s.length kM) := q3 1; have hw := HWW.out; have hpc := HPC.out; obtain ⟨hr, hm⟩ := HRM.out; clear HR1 HM1 HB1 hb2 q0 q1 q2 q3)
    | (go_at_call 12; refine (equal_any _ _ rom rom _ R2.out S1.out).mono ?_; rintro e w3 ⟨rfl, rfl⟩))
  all_goals first
    | (go_ret; exact ⟨rfl, B2.out⟩)
    | skip
  have hpp : ((pc : Nat) : Int) + 1 < (rom.length : Int) ∧ ((pc : Nat) : Int) < 32767 := by assumption
  have hpl : pc + 1 < rom.length := by omega
  have hp7 : pc < 32767 := by omega
  have i0 : (0 : Int) ≤ (pc : Int) := by omega
  have i1 : ((pc : Nat) : Int) < (rom.length : Int) := by omega
  have i2 : ((pc : Nat) : Int) + 1 < (rom.length : Int) := by omega
  have i3 : (0 : Int) ≤ (pc : Int) + 1 := by omega
  have i4 : IntKind.u16.wrap ((pc : Int) + 1) = (pc : Int) + 1 := by simp [IntKind.wrap, IntKind.bits, IntKind.signed]; omega
  obtain ⟨x, z, g, o, ha1, hx, hz, hg, hcx, hcz⟩ := q_rom S1.out hpl
  subst ha1
  rw [hpc] at c8
  have HSW := hid (HS.out.kept B2.out)
  have HW : Hid (QF w2 w.heap.size g o pc x z rom.length k1) := ⟨c8, s0, hcx, hcz, y0, y1, hg⟩
  obtain ⟨a, i5, ha, hwd⟩ := q_word rom c ram hpc hx hz hpl hp7
  have HWD := hid hwd
  have HRD := hid (fun W (h : shapesAt W) => read_any a 0 ha (by omega) W h)
  unfold orderV at HRD
  clear hwd ha
  clear hcx hcz hx hz c8 c13 c14 d13 d14 s0 hpp
  go_region_held3 (fun w' => w'.cell? ⟨w.heap.size, 8, none⟩ = some (.int .u16 ((pc : Nat) : Int)) ∧ w'.cell? ⟨w.heap.size + 1, 0, none⟩ = some (.slice (some ⟨g, o, none⟩) rom.length k1) ∧ w'.cell? ⟨g, o + pc, none⟩ = some (.int .u8 (x.toNat : Int)) ∧ w'.cell? ⟨g, o + (pc + 1), none⟩ = some (.int .u8 (z.toNat : Int)) ∧ Below w2.heap.size w2 w')
    (first
      | with_reducible exact q_of HW.out (st0 w2).drew
      | with_reducible exact q_of HW.out (stA (q_be (by assumption)) _)
      | with_reducible exact q_of HW.out (stp (q_be (by assumption)) (by assumption))
      | with_reducible exact q_of HW.out (stA hB3 _)
      | with_reducible exact q_of HW.out (((((hB3.setCell (Nat.le_refl _) _).setCell (Nat.le_refl _) _).setCell (Nat.le_refl _) _).setCell (Nat.le_refl _) _).setCell (Nat.le_refl _) _)
      | (go_keep; done))
    ((go_at_call 13; refine (HRD.out _ (HSW.out.kept (q_be (by assumption)))).mono ?_; rintro e w3 ⟨rfl, hb3⟩; have hB3 := stp (q_be (by assumption)) hb3; have p1 : w3.cell? ⟨w1.heap.size + 1, 1, none⟩ = some (.slice aM y.s.length kM) := (hB3.cell (p := ⟨w1.heap.size + 1, 1, none⟩) y3).trans o1; have p2 : w3.cell? ⟨w.heap.size + 1, 1, none⟩ = some (.slice a2 ram.length k2) := (hB3.cell (p := ⟨w.heap.size + 1, 1, none⟩) y1).trans s1; have z31 := Nat.lt_of_lt_of_le y3 hB3.size; have z32 := Nat.lt_of_lt_of_le y1 hB3.size; obtain ⟨k3, f3⟩ := bcell hb3))
  all_goals clear i5 R2 B1 HS HC HRD HSW i0 i1 i2 i3 i4
  all_goals go_wp2_with (go_at_call 12; refine (equal_any _ _ y.s ram _ (M2.out.kept (q_be (by assumption))) (S2.out.kept (q_be (by assumption)))).mono ?_; rintro e w4 ⟨rfl, rfl⟩)
  all_goals first
    | (go_ret; exact ⟨rfl, stp B2.out (q_be (by assumption))⟩)
    | (go_ret; have hq := HQT.out (by rw [HWD.out]; exact nw_quiet_on (by assumption) (by assumption) (by assumption) (by assumption) (by assumption)); exact ⟨ret_b (by rw [hq]; simp), stp B2.out (q_be (by assumption))⟩)
end Go.Proofs.YtimidkhppbhaeaaDoor
