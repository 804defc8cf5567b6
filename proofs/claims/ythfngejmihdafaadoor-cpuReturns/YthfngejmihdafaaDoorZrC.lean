/-
  The Go text of the law CpuReturns returns true where the stack lies in the memory.
-/
import Derived.Test.YthfngejmihdafaaDoorZrA
namespace Go.Proofs.YthfngejmihdafaaDoor
open Go.ChangeShapes Go.WideShapes Go.ChangeAt Go.RowKit
set_option linter.unusedVariables false

set_option maxRecDepth 100000 in
set_option maxHeartbeats 3200000 in
theorem ret_ok (c : C.Cpu) (hc : c.ok) (v1 v2 : Value) (rom ram : List UInt8) (w : World) (h1 : sliceAt w v1 rom) (h2 : sliceAt w v2 ram) (hl1 : rom.length ≤ 1024) (hl2 : ram.length ≤ 256) (hs : shapesAt w)
    (g1 : 8 ≤ ram.length) (g2 : ram.length % 2 = 0) (g3 : 12 ≤ rom.length) (g4 : c.r 7 % 2 = 0) (g5 : 32772 ≤ c.r 7) (g6 : c.r 7 ≤ 49152) :
    Calls Tryd.prog 4 #[cpuV c, .agg #[v1, v2]] w fun e w' => e = .returned (.bool true) ∧ Below w.heap.size w w' := by
  have HS := hid hs
  have H1 := hid h1
  have H2 := hid h2
  obtain ⟨a1, k1, x1⟩ := slice_len h1
  obtain ⟨a2, k2, x2⟩ := slice_len h2
  subst x1 x2
  have HL1 := hid (show rom.length ≤ 140737488355328 by omega)
  have HL2 := hid (show ram.length ≤ 140737488355328 by omega)
  have hck := fun W => chk_any a1 a2 rom.length ram.length k1 k2 W
  rw [if_neg (by omega)] at hck
  have HCK := hid hck
  have q1 : ¬ ((ram.length : Int) < 8) := by omega
  have q2 : ((ram.length : Int) % 2 != 0) = false := by rw [show (ram.length : Int) % 2 = 0 by omega]; rfl
  have q3 : ¬ ((rom.length : Int) < 12) := by omega
  have q4 : (c.r 7 % 2 != 0) = false := by rw [g4]; rfl
  have q5 : ¬ (c.r 7 < 32772) := by omega
  have q6 : ¬ (49152 < c.r 7) := by omega
  have i2 : (2 : Int) < rom.length := by omega
  have i3 : (3 : Int) < rom.length := by omega
  have i10 : (10 : Int) < rom.length := by omega
  have i11 : (11 : Int) < rom.length := by omega
  have J2 := hid (show 2 < rom.length ∧ 3 < rom.length ∧ 10 < rom.length ∧ 11 < rom.length by omega)
  obtain ⟨r2, r3, r10, r11⟩ := rom4_at rom g3
  have hc1 : ({ c with May := true } : C.Cpu).ok := hc
  have hret := sp_returns (rom4 rom) { c with May := true } hc1 ram rfl g5 g6 g1 (by rw [rom4_len]; exact g3) r2 r3 r10 r11
  have hst1 := fun W vR vM s1 s2 ss => step_ok { c with May := true } hc1 vR vM (rom4 rom) ram true W s1 s2 (by rw [rom4_len]; exact hl1) hl2 ss
  have hyl := sp_step_len (rom4 rom) { c with May := true } ram true
  obtain ⟨y, hy⟩ : ∃ y, C.step (spc (rom4 rom)) { c with May := true } ram true = y := ⟨_, rfl⟩
  rw [hy] at hret hst1 hyl
  have hst2 := fun (hok : y.c.ok) W vR vM s1 s2 ss => step_ok y.c hok vR vM (rom4 rom) y.s false W s1 s2 (by rw [rom4_len]; exact hl1) (by omega) ss
  obtain ⟨z, hz⟩ : ∃ z, C.step (spc (rom4 rom)) y.c y.s false = z := ⟨_, rfl⟩
  rw [hz] at hret hst2
  obtain ⟨p1, p2, p3, p4, p5, p6⟩ := hret
  rw [p5, p6] at hst2
  rw [p1] at hst1
  have HST1 : Hid (∀ (W : World) (vR vM : Value), sliceAt W vR (rom4 rom) → sliceAt W vM ram → shapesAt W → Calls Tryd.prog 7 #[.agg #[.int .u16 (c.r 0), .int .u16 (c.r 1), .int .u16 (c.r 2), .int .u16 (c.r 3), .int .u16 (c.r 4), .int .u16 (c.r 5), .int .u16 (c.r 6), .int .u16 (c.r 7), .int .u16 c.PC, .bool c.Z, .bool c.N, .bool c.C, .bool c.V, .bool true, .bool c.Waits], .agg #[vR, vM], .bool true] W fun e w' => ∃ vR vM, e = .returned (.tuple #[cpuV y.c, .agg #[vR, vM], .int .i64 6, .int .i64 0]) ∧ sliceAt w' vR (rom4 rom) ∧ sliceAt w' vM y.s ∧ y.c.ok ∧ Below W.heap.size W w') := hst1
  have hyv : cpuV y.c = .agg #[.int .u16 (y.c.r 0), .int .u16 (y.c.r 1), .int .u16 (y.c.r 2), .int .u16 (y.c.r 3), .int .u16 (y.c.r 4), .int .u16 (y.c.r 5), .int .u16 (y.c.r 6), .int .u16 (y.c.r 7), .int .u16 10, .bool y.c.Z, .bool y.c.N, .bool y.c.C, .bool y.c.V, .bool false, .bool false] := by unfold cpuV; rw [p2, p3, p4]
  have HST2 : Hid (∀ (hok : y.c.ok) (W : World) (vR vM : Value), sliceAt W vR (rom4 rom) → sliceAt W vM y.s → shapesAt W → Calls Tryd.prog 7 #[.agg #[.int .u16 (y.c.r 0), .int .u16 (y.c.r 1), .int .u16 (y.c.r 2), .int .u16 (y.c.r 3), .int .u16 (y.c.r 4), .int .u16 (y.c.r 5), .int .u16 (y.c.r 6), .int .u16 (y.c.r 7), .int .u16 10, .bool y.c.Z, .bool y.c.N, .bool y.c.C, .bool y.c.V, .bool false, .bool false], .agg #[vR, vM], .bool false] W fun e w' => ∃ vR vM, e = .returned (.tuple #[.agg #[.int .u16 (c.r 0), .int .u16 (c.r 1), .int .u16 (c.r 2), .int .u16 (c.r 3), .int .u16 (c.r 4), .int .u16 (c.r 5), .int .u16 (c.r 6), .int .u16 (c.r 7), .int .u16 c.PC, .bool c.Z, .bool c.N, .bool c.C, .bool c.V, .bool true, .bool false], .agg #[vR, vM], .int .i64 5, .int .i64 0]) ∧ sliceAt w' vR (rom4 rom) ∧ sliceAt w' vM z.s ∧ True ∧ Below W.heap.size W w') := by
    rw [← hyv]
    exact fun hok W vR vM s1 s2 ss => (hst2 hok W vR vM s1 s2 ss).mono (fun e w' ⟨a, b, h1, h2, h3, h4, h5⟩ => ⟨a, b, h1, h2, h3, trivial, h5⟩)
  have PP := hid (And.intro p2 (And.intro p3 p4))
  have eqc : ∀ W : World, (binOp .eql 28 (.agg #[.int .u16 (c.r 0), .int .u16 (c.r 1), .int .u16 (c.r 2), .int .u16 (c.r 3), .int .u16 (c.r 4), .int .u16 (c.r 5), .int .u16 (c.r 6), .int .u16 (c.r 7), .int .u16 c.PC, .bool c.Z, .bool c.N, .bool c.C, .bool c.V, .bool true, .bool false]) (.agg #[.int .u16 (c.r 0), .int .u16 (c.r 1), .int .u16 (c.r 2), .int .u16 (c.r 3), .int .u16 (c.r 4), .int .u16 (c.r 5), .int .u16 (c.r 6), .int .u16 (c.r 7), .int .u16 c.PC, .bool c.Z, .bool c.N, .bool c.C, .bool c.V, .bool true, .bool false])).run Tryd.prog W = .ok (.bool true) W := fun W => eq_cpu { c with May := true, Waits := false } W
  clear h1 h2 hs hc hck hl1 hl2 g1 g2 g3 g4 g5 g6 hst1 hst2 hz hy hyl p1 p2 p3 p4 p5 p6 hyv r2 r3 r10 r11 hc1
  go_enter Tryd.func4, Tryd.ntmps4
  go_wp2_with (first
    | (go_at_call 10; refine (own_any _ _ rom ram _ (H1.out.kept B2.out) (H2.out.kept B2.out) HL1.out HL2.out).mono ?_; rintro e w3 ⟨vR, vM, rfl, hC3, hb3⟩; have B3 := hid (stp B2.out hb3); have S3 := hid (S2.out.kept hb3); have C3 := hid (C2.out.kept hb3); have fs := fz_kept FS.out hb3 S2.out.z; have fc := fz_kept FC.out hb3 C2.out.z; have HC3 := hid hC3; obtain ⟨g, cR, rfl, gz, _, _⟩ := own_at hC3.1 J2.out.1; obtain ⟨aM, cM, rfl⟩ := own_slice hC3.2.1; have gB : w2.heap.size ≤ g := (hC3.1.lt g rfl).1; have ng1 : g ≠ w.heap.size := Nat.ne_of_gt (Nat.lt_of_lt_of_le C2.out.z gB); have ng2 : g ≠ w.heap.size + 1 := Nat.ne_of_gt (Nat.lt_of_lt_of_le S2.out.z gB); have ng3 := Ne.symm ng1; have ng4 := Ne.symm ng2; have fg := fun o => hC3.1.frozenAt o; have y2 := own_cell hC3.1 J2.out.1; have y3 := own_cell hC3.1 J2.out.2.1; have y10 := own_cell hC3.1 J2.out.2.2.1; have y11 := own_cell hC3.1 J2.out.2.2.2; clear sz ss0 ss1 c0 c1 c2 c3 c4 c5 c6 c7 c8 c9 c10 c11 c12 c13 c14 cz; obtain ⟨sz, ss0, ss1⟩ := S3.out; obtain ⟨c0, c1, c2, c3, c4, c5, c6, c7, c8, c9, c10, c11, c12, c13, c14⟩ := C3.out.all; have cz := C3.out.z; clear hC3 hb3)
    | (go_at_call 6; refine (stepped_any _ (HS.out.kept (stA (stA (st0 w) _) _))).mono ?_; rintro e w1 ⟨rfl, hb1⟩; have B1 := hid (stp (stA (stA (st0 w) _) _) hb1); have C1 := hid (((Cat.new w c _ rfl).over _).kept hb1); have S1 := hid ((Sat.new (w.alloc _) _ _ (w.heap.size + 1) (by simp)).kept hb1); have FC1 := hid (fz_kept (fz_kept (fz_new w _ _ _ rfl) (stA (st0 _) _) (by simp)) hb1 (by simp; omega)); have FS1 := hid (fz_kept (fz_new (w.alloc _) _ _ (w.heap.size + 1) (by simp)) hb1 (by simp)); obtain ⟨sz, ss0, ss1⟩ := S1.out; clear hb1)
    | (go_at_call 9; refine (HCK.out _).mono ?_; rintro e w2 ⟨rfl, hb2⟩; have B2 := hid (stp B1.out hb2); have C2 := hid (C1.out.kept hb2); have S2 := hid (S1.out.kept hb2); have FC := hid (fz_kept FC1.out hb2 C1.out.z); have FS := hid (fz_kept FS1.out hb2 S1.out.z); clear sz ss0 ss1; obtain ⟨sz, ss0, ss1⟩ := S2.out; obtain ⟨c0, c1, c2, c3, c4, c5, c6, c7, c8, c9, c10, c11, c12, c13, c14⟩ := C2.out.all; have cz := C2.out.z; clear hb2))
  have K3 := hid (RetW.start HC3.out B3.out S2.out.z (by rw [S3.out.c0]; rfl) (by rw [S3.out.c1]; rfl) fs C3.out fc)
  clear c0 c1 c2 c3 c4 c5 c6 c7 c8 c9 c10 c11 c12 c13 c14 y2 y3 y10 y11 fs fc fg ss0 ss1 sz cz
  refine cutW (fun W => RetW w w2.heap.size g cR rom.length (.slice aM ram.length cM) c (rom) ram W) (K3.out) ?_
  intro W4 hW4
  obtain ⟨u4a, y4a⟩ := hW4.at J2.out.1
  obtain ⟨u4b, y4b⟩ := hW4.at J2.out.2.1
  have s4 := hW4.s0
  have f4 := hW4.fg
  have gz4 := hW4.gz
  have sz4 := hW4.zs
  have HW4 := hid hW4
  clear hW4
  go_region_held3 (fun w' => w'.cell? ⟨w.heap.size + 1, 0, none⟩ = some (.slice (some ⟨g, 0, none⟩) rom.length cR))
    ((go_keep; done))
    (fail)
  go_wp2
  refine cutW (fun W => RetW w w2.heap.size g cR rom.length (.slice aM ram.length cM) c ((rom.set 2 0).set 3 10) ram W) (((HW4.out.put 2 0).put 3 10).drew) ?_
  intro W5 hW5
  obtain ⟨u5a, y5a⟩ := hW5.at J2.out.2.2.1
  obtain ⟨u5b, y5b⟩ := hW5.at J2.out.2.2.2
  have s5 := hW5.s0
  have f5 := hW5.fg
  have gz5 := hW5.gz
  have sz5 := hW5.zs
  have HW5 := hid hW5
  clear hW5
  go_region_held3 (fun w' => w'.cell? ⟨w.heap.size + 1, 0, none⟩ = some (.slice (some ⟨g, 0, none⟩) rom.length cR))
    ((go_keep; done))
    (fail)
  have hW6 : RetW w w2.heap.size g cR rom.length (.slice aM ram.length cM) c (rom4 rom) ram ((W5.setCell ⟨g, 10, none⟩ (.int .u8 208)).setCell ⟨g, 11, none⟩ (.int .u8 0)).drew := ((HW5.out.put 10 208).put 11 0).drew
  generalize ((W5.setCell ⟨g, 10, none⟩ (.int .u8 208)).setCell ⟨g, 11, none⟩ (.int .u8 0)).drew = W6 at hW6 ⊢
  obtain ⟨c0, c1, c2, c3, c4, c5, c6, c7, c8, c9, c10, c11, c12, c13, c14⟩ := hW6.cat.all
  have s6 := hW6.s0
  have s61 := hW6.s1
  have fc6 := hW6.fc
  have z6 := hW6.cat.z
  have sz6 := hW6.zs
  have HW6 := hid hW6
  clear hW6 HW4 HW5 y4a y4b s4 f4 gz4 sz4 y5a y5b s5 f5 gz5 sz5 K3
  go_wp2_with (first
    | (have zz := B4; clear zz; go_at_call 7; refine (HST2.out HOK.out _ _ _ (HR4.out.kept (stA (stA (st0 w4) _) _)) (HM4.out.kept (stA (stA (st0 w4) _) _)) (HS.out.kept (stA (stA B4.out _) _))).mono ?_; rintro e w5 ⟨vR5, vM5, rfl, hR5, hM5, _, hb5⟩; obtain ⟨aR5, kR5, rfl⟩ := slice_len hR5; obtain ⟨aM5, kM5, rfl⟩ := slice_len hM5; have B5 := hid (stp (stA (stA B4.out _) _) hb5); have C5 := hid (((C4.out.over _).over _).kept hb5); have fc5 := fz_kept (fz_kept FC4.out (stA (stA (st0 w4) _) _) C4.out.z) hb5 (Nat.lt_of_lt_of_le C4.out.z (stA (stA (st0 w4) _) _).size); have c0 : w5.cell? ⟨w.heap.size, 0, none⟩ = some (.int .u16 (c.r 0)) := C5.out.q 0; have c1 : w5.cell? ⟨w.heap.size, 1, none⟩ = some (.int .u16 (c.r 1)) := C5.out.q 1; have c2 : w5.cell? ⟨w.heap.size, 2, none⟩ = some (.int .u16 (c.r 2)) := C5.out.q 2; have c3 : w5.cell? ⟨w.heap.size, 3, none⟩ = some (.int .u16 (c.r 3)) := C5.out.q 3; have c4 : w5.cell? ⟨w.heap.size, 4, none⟩ = some (.int .u16 (c.r 4)) := C5.out.q 4; have c5 : w5.cell? ⟨w.heap.size, 5, none⟩ = some (.int .u16 (c.r 5)) := C5.out.q 5; have c6 : w5.cell? ⟨w.heap.size, 6, none⟩ = some (.int .u16 (c.r 6)) := C5.out.q 6; have c7 : w5.cell? ⟨w.heap.size, 7, none⟩ = some (.int .u16 (c.r 7)) := C5.out.q 7; have c8 : w5.cell? ⟨w.heap.size, 8, none⟩ = some (.int .u16 c.PC) := C5.out.q 8; have c9 : w5.cell? ⟨w.heap.size, 9, none⟩ = some (.bool c.Z) := C5.out.q 9; have c10 : w5.cell? ⟨w.heap.size, 10, none⟩ = some (.bool c.N) := C5.out.q 10; have c11 : w5.cell? ⟨w.heap.size, 11, none⟩ = some (.bool c.C) := C5.out.q 11; have c12 : w5.cell? ⟨w.heap.size, 12, none⟩ = some (.bool c.V) := C5.out.q 12; have c13 : w5.cell? ⟨w.heap.size, 13, none⟩ = some (.bool true) := C5.out.q 13; have c14 : w5.cell? ⟨w.heap.size, 14, none⟩ = some (.bool c.Waits) := C5.out.q 14; have z5 := C5.out.z; clear hR5 hM5 hb5)
    | (go_at_call 7; refine (HST1.out _ _ _ HW6.out.may.slices.1 HW6.out.may.slices.2 (HS.out.kept HW6.out.may.low)).mono ?_; rintro e w4 ⟨vR4, vM4, rfl, hR4, hM4, hok4, hb4⟩; obtain ⟨aR4, kR4, rfl⟩ := slice_len hR4; obtain ⟨aM4, kM4, rfl⟩ := slice_len hM4; have B4 := hid (stp HW6.out.may.low hb4); have HR4 := hid hR4; have HM4 := hid hM4; have HOK := hid hok4; have C4 := hid (HW6.out.may.cat.kept hb4); have FC4 := hid (fz_kept HW6.out.may.fc hb4 HW6.out.may.cat.z); obtain ⟨p2, p3, p4⟩ := PP.out; clear hR4 hM4 hok4 hb4 s6 s61 fc6 z6 sz6 c0 c1 c2 c3 c4 c5 c6 c7 c8 c9 c10 c11 c12 c13 c14))
  go_ret
  exact ⟨ret_b rfl, stA (stA (B5.out.setCell (Nat.le_refl _) _) _) _⟩
end Go.Proofs.YthfngejmihdafaaDoor
