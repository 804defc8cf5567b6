/-
  The law CpuReturns: its row and card, its text where it has nothing to do, and all of it (the texts CpuRetC, CpuReturnsFrame, CpuReturnsWalk in one).
-/
import Derived.Test.YthfngejmihdafaaDoorZrA
import Derived.Test.YthfngejmihdafaaDoorShapes
import Derived.Test.YthfngejmihdafaaDoorCards
import Derived.Test.YthfngejmihdafaaDoorTie
import Derived.SevenTiedAt
import Derived.Test.YthfngejmihdafaaDoorZrC
namespace Go.Proofs.YthfngejmihdafaaDoor
open Go.ChangeShapes Go.WideShapes Go.ChangeAt Go.RowKit
set_option linter.unusedVariables false

set_option maxRecDepth 100000 in
set_option maxHeartbeats 3200000 in
theorem ret_err (c : C.Cpu) (hc : c.ok) (v1 v2 : Value) (rom ram : List UInt8) (w : World) (h1 : sliceAt w v1 rom) (h2 : sliceAt w v2 ram) (hs : shapesAt w) (hl : 1024 < rom.length ∨ 256 < ram.length) :
    Calls Tryd.prog 4 #[cpuV c, .agg #[v1, v2]] w fun e w' => e = .returned (.bool true) ∧ Below w.heap.size w w' := by
  have HS := hid hs
  obtain ⟨a1, k1, x1⟩ := slice_len h1
  obtain ⟨a2, k2, x2⟩ := slice_len h2
  subst x1 x2
  have hck := fun W => chk_any a1 a2 rom.length ram.length k1 k2 W
  rw [if_pos hl] at hck
  have HCK := hid hck
  obtain ⟨b70, b71⟩ := C.Cpu.r_bd hc 7
  clear h1 h2 hs hck hl
  go_enter Tryd.func4, Tryd.ntmps4
  go_wp2_with (first
    | (have zz := B2; clear zz; go_at_call 6; refine (stepped_any _ (HS.out.kept B2.out)).mono ?_; rintro e w3 ⟨rfl, hb3⟩; have B3 := hid (stp B2.out hb3); clear hb3)
    | (go_at_call 6; refine (stepped_any _ (HS.out.kept (stA (stA (st0 w) _) _))).mono ?_; rintro e w1 ⟨rfl, hb1⟩; have B1 := hid (stp (stA (stA (st0 w) _) _) hb1); have C1 := hid (((Cat.new w c _ rfl).over _).kept hb1); have S1 := hid ((Sat.new (w.alloc _) _ _ (w.heap.size + 1) (by simp)).kept hb1); obtain ⟨sz, ss0, ss1⟩ := S1.out; clear hb1)
    | (go_at_call 9; refine (HCK.out _).mono ?_; rintro e w2 ⟨rfl, hb2⟩; have B2 := hid (stp B1.out hb2); clear sz ss0 ss1; obtain ⟨sz, ss0, ss1⟩ := S1.out.kept hb2; have c7 : w2.cell? ⟨w.heap.size, 7, none⟩ = some (.int .u16 (c.r 7)) := (C1.out.kept hb2).q 7; have cz := (C1.out.kept hb2).z; clear hb2))
  go_ret
  exact ⟨rfl, B3.out⟩
set_option maxRecDepth 100000 in
set_option maxHeartbeats 3200000 in
theorem ret_n1 (c : C.Cpu) (hc : c.ok) (v1 v2 : Value) (rom ram : List UInt8) (w : World) (h1 : sliceAt w v1 rom) (h2 : sliceAt w v2 ram) (hs : shapesAt w) (hl : ¬ (1024 < rom.length ∨ 256 < ram.length))  (g1 : ¬ (8 ≤ ram.length)) :
    Calls Tryd.prog 4 #[cpuV c, .agg #[v1, v2]] w fun e w' => e = .returned (.bool true) ∧ Below w.heap.size w w' := by
  have HS := hid hs
  obtain ⟨a1, k1, x1⟩ := slice_len h1
  obtain ⟨a2, k2, x2⟩ := slice_len h2
  subst x1 x2
  have hck := fun W => chk_any a1 a2 rom.length ram.length k1 k2 W
  rw [if_neg hl] at hck
  have HCK := hid hck
  obtain ⟨b70, b71⟩ := C.Cpu.r_bd hc 7
  have q1 : (ram.length : Int) < 8 := by omega
  clear h1 h2 hs hck hl g1
  go_enter Tryd.func4, Tryd.ntmps4
  go_wp2_with (first
    | (have zz := B2; clear zz; go_at_call 6; refine (stepped_any _ (HS.out.kept B2.out)).mono ?_; rintro e w3 ⟨rfl, hb3⟩; have B3 := hid (stp B2.out hb3); clear hb3)
    | (go_at_call 6; refine (stepped_any _ (HS.out.kept (stA (stA (st0 w) _) _))).mono ?_; rintro e w1 ⟨rfl, hb1⟩; have B1 := hid (stp (stA (stA (st0 w) _) _) hb1); have C1 := hid (((Cat.new w c _ rfl).over _).kept hb1); have S1 := hid ((Sat.new (w.alloc _) _ _ (w.heap.size + 1) (by simp)).kept hb1); obtain ⟨sz, ss0, ss1⟩ := S1.out; clear hb1)
    | (go_at_call 9; refine (HCK.out _).mono ?_; rintro e w2 ⟨rfl, hb2⟩; have B2 := hid (stp B1.out hb2); clear sz ss0 ss1; obtain ⟨sz, ss0, ss1⟩ := S1.out.kept hb2; have c7 : w2.cell? ⟨w.heap.size, 7, none⟩ = some (.int .u16 (c.r 7)) := (C1.out.kept hb2).q 7; have cz := (C1.out.kept hb2).z; clear hb2))
  go_ret
  exact ⟨rfl, B3.out⟩
set_option maxRecDepth 100000 in
set_option maxHeartbeats 3200000 in
theorem ret_n2 (c : C.Cpu) (hc : c.ok) (v1 v2 : Value) (rom ram : List UInt8) (w : World) (h1 : sliceAt w v1 rom) (h2 : sliceAt w v2 ram) (hs : shapesAt w) (hl : ¬ (1024 < rom.length ∨ 256 < ram.length)) (g1 : 8 ≤ ram.length) (g2 : ¬ (ram.length % 2 = 0)) :
    Calls Tryd.prog 4 #[cpuV c, .agg #[v1, v2]] w fun e w' => e = .returned (.bool true) ∧ Below w.heap.size w w' := by
  have HS := hid hs
  obtain ⟨a1, k1, x1⟩ := slice_len h1
  obtain ⟨a2, k2, x2⟩ := slice_len h2
  subst x1 x2
  have hck := fun W => chk_any a1 a2 rom.length ram.length k1 k2 W
  rw [if_neg hl] at hck
  have HCK := hid hck
  obtain ⟨b70, b71⟩ := C.Cpu.r_bd hc 7
  have q1 : ¬ ((ram.length : Int) < 8) := by omega
  have q2 : ((ram.length : Int) % 2 != 0) = true := by simp; omega
  clear h1 h2 hs hck hl g1 g2
  go_enter Tryd.func4, Tryd.ntmps4
  go_wp2_with (first
    | (have zz := B2; clear zz; go_at_call 6; refine (stepped_any _ (HS.out.kept B2.out)).mono ?_; rintro e w3 ⟨rfl, hb3⟩; have B3 := hid (stp B2.out hb3); clear hb3)
    | (go_at_call 6; refine (stepped_any _ (HS.out.kept (stA (stA (st0 w) _) _))).mono ?_; rintro e w1 ⟨rfl, hb1⟩; have B1 := hid (stp (stA (stA (st0 w) _) _) hb1); have C1 := hid (((Cat.new w c _ rfl).over _).kept hb1); have S1 := hid ((Sat.new (w.alloc _) _ _ (w.heap.size + 1) (by simp)).kept hb1); obtain ⟨sz, ss0, ss1⟩ := S1.out; clear hb1)
    | (go_at_call 9; refine (HCK.out _).mono ?_; rintro e w2 ⟨rfl, hb2⟩; have B2 := hid (stp B1.out hb2); clear sz ss0 ss1; obtain ⟨sz, ss0, ss1⟩ := S1.out.kept hb2; have c7 : w2.cell? ⟨w.heap.size, 7, none⟩ = some (.int .u16 (c.r 7)) := (C1.out.kept hb2).q 7; have cz := (C1.out.kept hb2).z; clear hb2))
  go_ret
  exact ⟨rfl, B3.out⟩
set_option maxRecDepth 100000 in
set_option maxHeartbeats 3200000 in
theorem ret_n3 (c : C.Cpu) (hc : c.ok) (v1 v2 : Value) (rom ram : List UInt8) (w : World) (h1 : sliceAt w v1 rom) (h2 : sliceAt w v2 ram) (hs : shapesAt w) (hl : ¬ (1024 < rom.length ∨ 256 < ram.length)) (g1 : 8 ≤ ram.length) (g2 : ram.length % 2 = 0) (g3 : ¬ (12 ≤ rom.length)) :
    Calls Tryd.prog 4 #[cpuV c, .agg #[v1, v2]] w fun e w' => e = .returned (.bool true) ∧ Below w.heap.size w w' := by
  have HS := hid hs
  obtain ⟨a1, k1, x1⟩ := slice_len h1
  obtain ⟨a2, k2, x2⟩ := slice_len h2
  subst x1 x2
  have hck := fun W => chk_any a1 a2 rom.length ram.length k1 k2 W
  rw [if_neg hl] at hck
  have HCK := hid hck
  obtain ⟨b70, b71⟩ := C.Cpu.r_bd hc 7
  have q1 : ¬ ((ram.length : Int) < 8) := by omega
  have q2 : ((ram.length : Int) % 2 != 0) = false := by rw [show (ram.length : Int) % 2 = 0 by omega]; rfl
  have q3 : (rom.length : Int) < 12 := by omega
  clear h1 h2 hs hck hl g1 g2 g3
  go_enter Tryd.func4, Tryd.ntmps4
  go_wp2_with (first
    | (have zz := B2; clear zz; go_at_call 6; refine (stepped_any _ (HS.out.kept B2.out)).mono ?_; rintro e w3 ⟨rfl, hb3⟩; have B3 := hid (stp B2.out hb3); clear hb3)
    | (go_at_call 6; refine (stepped_any _ (HS.out.kept (stA (stA (st0 w) _) _))).mono ?_; rintro e w1 ⟨rfl, hb1⟩; have B1 := hid (stp (stA (stA (st0 w) _) _) hb1); have C1 := hid (((Cat.new w c _ rfl).over _).kept hb1); have S1 := hid ((Sat.new (w.alloc _) _ _ (w.heap.size + 1) (by simp)).kept hb1); obtain ⟨sz, ss0, ss1⟩ := S1.out; clear hb1)
    | (go_at_call 9; refine (HCK.out _).mono ?_; rintro e w2 ⟨rfl, hb2⟩; have B2 := hid (stp B1.out hb2); clear sz ss0 ss1; obtain ⟨sz, ss0, ss1⟩ := S1.out.kept hb2; have c7 : w2.cell? ⟨w.heap.size, 7, none⟩ = some (.int .u16 (c.r 7)) := (C1.out.kept hb2).q 7; have cz := (C1.out.kept hb2).z; clear hb2))
  go_ret
  exact ⟨rfl, B3.out⟩
set_option maxRecDepth 100000 in
set_option maxHeartbeats 3200000 in
theorem ret_n4 (c : C.Cpu) (hc : c.ok) (v1 v2 : Value) (rom ram : List UInt8) (w : World) (h1 : sliceAt w v1 rom) (h2 : sliceAt w v2 ram) (hs : shapesAt w) (hl : ¬ (1024 < rom.length ∨ 256 < ram.length)) (g1 : 8 ≤ ram.length) (g2 : ram.length % 2 = 0) (g3 : 12 ≤ rom.length) (g4 : ¬ (c.r 7 % 2 = 0)) :
    Calls Tryd.prog 4 #[cpuV c, .agg #[v1, v2]] w fun e w' => e = .returned (.bool true) ∧ Below w.heap.size w w' := by
  have HS := hid hs
  obtain ⟨a1, k1, x1⟩ := slice_len h1
  obtain ⟨a2, k2, x2⟩ := slice_len h2
  subst x1 x2
  have hck := fun W => chk_any a1 a2 rom.length ram.length k1 k2 W
  rw [if_neg hl] at hck
  have HCK := hid hck
  obtain ⟨b70, b71⟩ := C.Cpu.r_bd hc 7
  have q1 : ¬ ((ram.length : Int) < 8) := by omega
  have q2 : ((ram.length : Int) % 2 != 0) = false := by rw [show (ram.length : Int) % 2 = 0 by omega]; rfl
  have q3 : ¬ ((rom.length : Int) < 12) := by omega
  have q4 : (c.r 7 % 2 != 0) = true := by simp; omega
  clear h1 h2 hs hck hl g1 g2 g3 g4
  go_enter Tryd.func4, Tryd.ntmps4
  go_wp2_with (first
    | (have zz := B2; clear zz; go_at_call 6; refine (stepped_any _ (HS.out.kept B2.out)).mono ?_; rintro e w3 ⟨rfl, hb3⟩; have B3 := hid (stp B2.out hb3); clear hb3)
    | (go_at_call 6; refine (stepped_any _ (HS.out.kept (stA (stA (st0 w) _) _))).mono ?_; rintro e w1 ⟨rfl, hb1⟩; have B1 := hid (stp (stA (stA (st0 w) _) _) hb1); have C1 := hid (((Cat.new w c _ rfl).over _).kept hb1); have S1 := hid ((Sat.new (w.alloc _) _ _ (w.heap.size + 1) (by simp)).kept hb1); obtain ⟨sz, ss0, ss1⟩ := S1.out; clear hb1)
    | (go_at_call 9; refine (HCK.out _).mono ?_; rintro e w2 ⟨rfl, hb2⟩; have B2 := hid (stp B1.out hb2); clear sz ss0 ss1; obtain ⟨sz, ss0, ss1⟩ := S1.out.kept hb2; have c7 : w2.cell? ⟨w.heap.size, 7, none⟩ = some (.int .u16 (c.r 7)) := (C1.out.kept hb2).q 7; have cz := (C1.out.kept hb2).z; clear hb2))
  go_ret
  exact ⟨rfl, B3.out⟩
set_option maxRecDepth 100000 in
set_option maxHeartbeats 3200000 in
theorem ret_n5 (c : C.Cpu) (hc : c.ok) (v1 v2 : Value) (rom ram : List UInt8) (w : World) (h1 : sliceAt w v1 rom) (h2 : sliceAt w v2 ram) (hs : shapesAt w) (hl : ¬ (1024 < rom.length ∨ 256 < ram.length)) (g1 : 8 ≤ ram.length) (g2 : ram.length % 2 = 0) (g3 : 12 ≤ rom.length) (g4 : c.r 7 % 2 = 0) (g5 : ¬ (32772 ≤ c.r 7)) :
    Calls Tryd.prog 4 #[cpuV c, .agg #[v1, v2]] w fun e w' => e = .returned (.bool true) ∧ Below w.heap.size w w' := by
  have HS := hid hs
  obtain ⟨a1, k1, x1⟩ := slice_len h1
  obtain ⟨a2, k2, x2⟩ := slice_len h2
  subst x1 x2
  have hck := fun W => chk_any a1 a2 rom.length ram.length k1 k2 W
  rw [if_neg hl] at hck
  have HCK := hid hck
  obtain ⟨b70, b71⟩ := C.Cpu.r_bd hc 7
  have q1 : ¬ ((ram.length : Int) < 8) := by omega
  have q2 : ((ram.length : Int) % 2 != 0) = false := by rw [show (ram.length : Int) % 2 = 0 by omega]; rfl
  have q3 : ¬ ((rom.length : Int) < 12) := by omega
  have q4 : (c.r 7 % 2 != 0) = false := by rw [g4]; rfl
  have q5 : c.r 7 < 32772 := by omega
  clear h1 h2 hs hck hl g1 g2 g3 g4 g5
  go_enter Tryd.func4, Tryd.ntmps4
  go_wp2_with (first
    | (have zz := B2; clear zz; go_at_call 6; refine (stepped_any _ (HS.out.kept B2.out)).mono ?_; rintro e w3 ⟨rfl, hb3⟩; have B3 := hid (stp B2.out hb3); clear hb3)
    | (go_at_call 6; refine (stepped_any _ (HS.out.kept (stA (stA (st0 w) _) _))).mono ?_; rintro e w1 ⟨rfl, hb1⟩; have B1 := hid (stp (stA (stA (st0 w) _) _) hb1); have C1 := hid (((Cat.new w c _ rfl).over _).kept hb1); have S1 := hid ((Sat.new (w.alloc _) _ _ (w.heap.size + 1) (by simp)).kept hb1); obtain ⟨sz, ss0, ss1⟩ := S1.out; clear hb1)
    | (go_at_call 9; refine (HCK.out _).mono ?_; rintro e w2 ⟨rfl, hb2⟩; have B2 := hid (stp B1.out hb2); clear sz ss0 ss1; obtain ⟨sz, ss0, ss1⟩ := S1.out.kept hb2; have c7 : w2.cell? ⟨w.heap.size, 7, none⟩ = some (.int .u16 (c.r 7)) := (C1.out.kept hb2).q 7; have cz := (C1.out.kept hb2).z; clear hb2))
  go_ret
  exact ⟨rfl, B3.out⟩
set_option maxRecDepth 100000 in
set_option maxHeartbeats 3200000 in
theorem ret_n6 (c : C.Cpu) (hc : c.ok) (v1 v2 : Value) (rom ram : List UInt8) (w : World) (h1 : sliceAt w v1 rom) (h2 : sliceAt w v2 ram) (hs : shapesAt w) (hl : ¬ (1024 < rom.length ∨ 256 < ram.length)) (g1 : 8 ≤ ram.length) (g2 : ram.length % 2 = 0) (g3 : 12 ≤ rom.length) (g4 : c.r 7 % 2 = 0) (g5 : 32772 ≤ c.r 7) (g6 : ¬ (c.r 7 ≤ 49152)) :
    Calls Tryd.prog 4 #[cpuV c, .agg #[v1, v2]] w fun e w' => e = .returned (.bool true) ∧ Below w.heap.size w w' := by
  have HS := hid hs
  obtain ⟨a1, k1, x1⟩ := slice_len h1
  obtain ⟨a2, k2, x2⟩ := slice_len h2
  subst x1 x2
  have hck := fun W => chk_any a1 a2 rom.length ram.length k1 k2 W
  rw [if_neg hl] at hck
  have HCK := hid hck
  obtain ⟨b70, b71⟩ := C.Cpu.r_bd hc 7
  have q1 : ¬ ((ram.length : Int) < 8) := by omega
  have q2 : ((ram.length : Int) % 2 != 0) = false := by rw [show (ram.length : Int) % 2 = 0 by omega]; rfl
  have q3 : ¬ ((rom.length : Int) < 12) := by omega
  have q4 : (c.r 7 % 2 != 0) = false := by rw [g4]; rfl
  have q5 : ¬ (c.r 7 < 32772) := by omega
  have q6 : 49152 < c.r 7 := by omega
  clear h1 h2 hs hck hl g1 g2 g3 g4 g5 g6
  go_enter Tryd.func4, Tryd.ntmps4
  go_wp2_with (first
    | (have zz := B2; clear zz; go_at_call 6; refine (stepped_any _ (HS.out.kept B2.out)).mono ?_; rintro e w3 ⟨rfl, hb3⟩; have B3 := hid (stp B2.out hb3); clear hb3)
    | (go_at_call 6; refine (stepped_any _ (HS.out.kept (stA (stA (st0 w) _) _))).mono ?_; rintro e w1 ⟨rfl, hb1⟩; have B1 := hid (stp (stA (stA (st0 w) _) _) hb1); have C1 := hid (((Cat.new w c _ rfl).over _).kept hb1); have S1 := hid ((Sat.new (w.alloc _) _ _ (w.heap.size + 1) (by simp)).kept hb1); obtain ⟨sz, ss0, ss1⟩ := S1.out; clear hb1)
    | (go_at_call 9; refine (HCK.out _).mono ?_; rintro e w2 ⟨rfl, hb2⟩; have B2 := hid (stp B1.out hb2); clear sz ss0 ss1; obtain ⟨sz, ss0, ss1⟩ := S1.out.kept hb2; have c7 : w2.cell? ⟨w.heap.size, 7, none⟩ = some (.int .u16 (c.r 7)) := (C1.out.kept hb2).q 7; have cz := (C1.out.kept hb2).z; clear hb2))
  go_ret
  exact ⟨rfl, B3.out⟩
def CpuReturnsWalk : Prop := ∀ (H : Type) (enc : TypeId × Value → H) (W : World) (base : Nat) (v0 v1 : Value) (d0 d1 : DataW H) (p0 p1 : List MemPlace), shapesAt W →
  Value.okWide Tryd.prog W .any base (Tryd.f4.params.getD 0 0) v0 → DataW.Trod enc Tryd.prog W 0 (fun _ => true) true (Tryd.f4.params.getD 0 0) v0 d0 p0 → Value.okWide Tryd.prog W .any base (Tryd.f4.params.getD 1 0) v1 → DataW.Trod enc Tryd.prog W 0 (fun _ => true) true (Tryd.f4.params.getD 1 0) v1 d1 p1 →
  Calls Tryd.prog 4 #[v0, v1] W fun e w' => e = .returned (.bool true) ∧ Below W.heap.size W w'
set_option maxRecDepth 100000 in
theorem cpuReturns_lifted (walk : CpuReturnsWalk) (os : Os) (started : os.Started) (H : Type) (enc : TypeId × Value → H) :
    ReturnsInHanded {} Tryd.checked os 4 .any (fun w args => (Rows.cpuReturnsSpec.pre enc Tryd.prog Tryd.f4 [] false w args ∧ laidMetH Tryd.prog Rows.cpuReturnsRow.laid w) ∧ sizedMet enc Tryd.prog Tryd.f4 (OpenSpec.ofChange Rows.cpuReturnsSpec) false w args)
      (Rows.cpuReturnsSpec.post enc Tryd.prog Tryd.f4 false true false false) := by
  refine returns_and_shaped (C := Tryd.checked) (X := fun w _ => laidMetH Tryd.prog Rows.cpuReturnsRow.laid w) (fun _ _ _ hh h => h.of_heap hh) own started (by kernel_rfl) Tryd.func4
    (ChangeSpec.witness_shaped (enc := enc) (C := Tryd.checked) (os := os) (X := fun w _ => laidMetH Tryd.prog Rows.cpuReturnsRow.laid w) false (World.laidAll Tryd.prog os Rows.cpuReturnsRow.laid) #[.agg #[.int .u16 0, .int .u16 0, .int .u16 0, .int .u16 0, .int .u16 0, .int .u16 0, .int .u16 0, .int .u16 0, .int .u16 0, .bool false, .bool false, .bool false, .bool false, .bool false, .bool false], .agg #[.slice none 0 0, .slice none 0 0]] 8 (World.laidAll_os _ _ _)
      (World.shaped_of_ZipB (by kernel_rfl) (by kernel_rfl)) (by kernel_rfl) (by kernel_rfl) (by kernel_rfl)
      (by rw [MakeChecks.laidMetH_plain _ _ _ (by kernel_rfl)]; exact laidMet_laidAll _ (by kernel_rfl) (by kernel_rfl))) ?_
  intro W base args ds gs before hval0 hW _ _ hL hsh _
  have hval : ∀ (j : Nat) t v, Tryd.f4.params[j]? = some t → args[j]? = some v → Value.okWide Tryd.prog W .any base t v := hval0
  have hW' := hW
  obtain ⟨p, q, hA0, hV, rfl, _, _⟩ := hW
  have hA : DataW.TrodAll enc Tryd.prog W 0 (fun _ => true) true Tryd.f4.params.toList args.toList ds p := hA0
  have hA1 := hA
  rw [Tryd.params4] at hA hval
  obtain ⟨v0, vs0, d0, ds0, p0, q0, hargs, rfl, rfl, h0, r0⟩ := trodAll_cons hA
  obtain ⟨v1, vs1, d1, ds1, p1, q1, rfl, rfl, rfl, h1, r1⟩ := trodAll_cons r0
  obtain ⟨rfl, rfl, rfl⟩ := trodAll_nil r1
  obtain rfl : args = #[v0, v1] := by cases args; simp_all
  obtain ⟨rfl, rfl⟩ := trodVars_none hV
  rw [MakeChecks.laidMetH_plain _ _ _ (by kernel_rfl)] at hL
  have hlt := fun x hx => hW'.lt x (List.mem_append_left _ hx)
  refine (walk H enc W base v0 v1 d0 d1 _ _ (shapes_of_laid hL (by simp [Rows.cpuReturnsRow])) (hval 0 _ v0 rfl rfl) h0 (hval 1 _ v1 rfl rfl) h1).mono fun e W' ⟨he, hb⟩ => ?_
  subst he
  exact ⟨_, rfl, _, _, _, [], _, [], hW', trodAll_mk1 (shut_bool Tryd.underlying4 _), trodAll_below_all (by kernel_rfl) hb (by kernel_rfl) hA1 hlt, rfl, hb.frame _, fun h => by cases h⟩
theorem cpuReturns_row (walk : CpuReturnsWalk) : Rows.CpuReturnsSaid :=
  OpenClaim.holds_of_wide 4 Tryd.f4 rfl rfl rfl rfl rfl rfl rfl ⟨rfl, rfl, rfl, rfl, rfl⟩ rfl rfl rfl rfl rfl (by kernel_rfl) Tryd.func4 (by kernel_rfl)
    (of_decide_eq_true (by kernel_rfl)) (by unfold Func.isWrapper; first | (rw [if_pos (by decide +kernel)]; kernel_rfl) | (rw [if_neg (by decide +kernel)]; exact ⟨rfl, rfl⟩))
    (fun os started H enc _ => cpuReturns_lifted walk os started H enc)
theorem cpuReturns_card (walk : CpuReturnsWalk) : Rows.CpuReturnsCardSaid :=
  Claim7.holds_tied_plain_at .later [] _ true _ false (cpuReturns_row walk) (fun _ h => by cases h) (by kernel_rfl) (fun _ h => by cases h) cpuReturns_row_tie rfl ⟨rfl, rfl⟩ (by kernel_rfl) rfl
    (fun f fn hf hfn => by
      obtain rfl : f = 4 := Option.some.inj ((show Tryd.prog.funcNamed "marquee/marqueelaw.CpuReturns" = some 4 by kernel_rfl).symm.trans hf) |>.symm
      obtain rfl : fn = Tryd.f4 := (Option.some.inj (Tryd.func4.symm.trans hfn)).symm
      exact ⟨by kernel_rfl, fun j t ht => by
        have hm : t ∈ Tryd.f4.params.toList := List.mem_of_getElem? (i := j) (by rw [Array.getElem?_toList]; exact ht)
        have hall : Tryd.f4.params.toList.all (fun t => !(Tryd.prog.wantsStandIn t)) = true := by kernel_rfl
        have := List.all_eq_true.1 hall t hm
        exact Bool.not_eq_true' _ ▸ this⟩)
    (by kernel_rfl)
set_option maxRecDepth 100000 in
theorem cpuReturns_walk : CpuReturnsWalk := by
  intro H enc W base v0 v1 d0 d1 p0 p1 hs k0 t0 k1 t1
  obtain ⟨c, rfl, hc⟩ := open_cpu k0 t0
  obtain ⟨u1, u2, rom, ram, rfl, h1, h2, _, _⟩ := open_space k1 t1
  by_cases hl : 1024 < rom.length ∨ 256 < ram.length
  · exact ret_err c hc u1 u2 rom ram W h1 h2 hs hl
  by_cases g1 : 8 ≤ ram.length
  · by_cases g2 : ram.length % 2 = 0
    · by_cases g3 : 12 ≤ rom.length
      · by_cases g4 : c.r 7 % 2 = 0
        · by_cases g5 : 32772 ≤ c.r 7
          · by_cases g6 : c.r 7 ≤ 49152
            · exact ret_ok c hc u1 u2 rom ram W h1 h2 (by omega) (by omega) hs g1 g2 g3 g4 g5 g6
            · exact ret_n6 c hc u1 u2 rom ram W h1 h2 hs hl g1 g2 g3 g4 g5 g6
          · exact ret_n5 c hc u1 u2 rom ram W h1 h2 hs hl g1 g2 g3 g4 g5
        · exact ret_n4 c hc u1 u2 rom ram W h1 h2 hs hl g1 g2 g3 g4
      · exact ret_n3 c hc u1 u2 rom ram W h1 h2 hs hl g1 g2 g3
    · exact ret_n2 c hc u1 u2 rom ram W h1 h2 hs hl g1 g2
  · exact ret_n1 c hc u1 u2 rom ram W h1 h2 hs hl g1
theorem cpuReturns_holds : Rows.CpuReturnsCardSaid := cpuReturns_card cpuReturns_walk
end Go.Proofs.YthfngejmihdafaaDoor
