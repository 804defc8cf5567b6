/-
  The law CpuQuiet: a space that is wrong; a processor that is rung (the texts CpuQe, CpuQr in one).
-/
import Derived.Test.YtimidkhppbhaeaaDoorZqB
import Derived.Test.YtimidkhppbhaeaaDoorZqA
namespace Go.Proofs.YtimidkhppbhaeaaDoor
open Go.ChangeShapes Go.WideShapes Go.ChangeAt Go.RowKit
set_option linter.unusedVariables false

set_option maxRecDepth 100000 in
set_option maxHeartbeats 3200000 in
theorem quiet_err (c : C.Cpu) (v1 v2 : Value) (rom ram : List UInt8) (r : Bool) (w : World) (h1 : sliceAt w v1 rom) (h2 : sliceAt w v2 ram) (hl : 1024 < rom.length ∨ 256 < ram.length) (hs : shapesAt w) :
    Calls Tryd.prog 5 #[cpuV c, .agg #[v1, v2], .bool r] w fun e w' => e = .returned (.bool true) ∧ Below w.heap.size w w' := by
  have HS := hid hs
  have H1 := hid h1
  have H2 := hid h2
  have HL := hid hl
  obtain ⟨a1, k1, x1⟩ := slice_len h1
  obtain ⟨a2, k2, x2⟩ := slice_len h2
  subst x1 x2
  clear h1 h2 hl hs
  go_enter Tryd.func5, Tryd.ntmps5
  go_wp2_with (first
    | (go_at_call 8; refine (step_err c _ _ rom ram r _ (H1.out.kept (stA (stA (st0 w) _) _)) (H2.out.kept (stA (stA (st0 w) _) _)) HL.out).mono ?_; rintro e w1 ⟨rfl, hb1⟩; have B1 := hid (stp (stA (stA (st0 w) _) _) hb1); clear hb1)
    | (have zz := B2; clear zz; go_at_call 7; refine (stepped_any _ (HS.out.kept B2.out)).mono ?_; rintro e w3 ⟨rfl, hb3⟩; have B3 := hid (stp B2.out hb3); clear hb3)
    | (go_at_call 7; refine (stepped_any _ (HS.out.kept (stA (stA B1.out _) _))).mono ?_; rintro e w2 ⟨rfl, hb2⟩; have B2 := hid (stp (stA (stA B1.out _) _) hb2); clear hb2))
  go_ret
  exact ⟨rfl, B3.out⟩
theorem box4 {w w1 w2 : World} {cs ds : Array Value} {x y u v : Value} {tC tS : TypeId} (hb1 : Below ((w.alloc (.cells cs tC)).alloc (.cells #[x, y] tS)).heap.size ((w.alloc (.cells cs tC)).alloc (.cells #[x, y] tS)) w1) (hb2 : Below ((w1.alloc (.cells ds tC)).alloc (.cells #[u, v] tS)).heap.size ((w1.alloc (.cells ds tC)).alloc (.cells #[u, v] tS)) w2) :
    (∀ j, w2.cell? ⟨w.heap.size, j, none⟩ = cs[j]?) ∧ (∀ j, w2.cell? ⟨w.heap.size + 1, j, none⟩ = (#[x, y] : Array Value)[j]?) ∧ (∀ j, w2.cell? ⟨w1.heap.size, j, none⟩ = ds[j]?) ∧ (∀ j, w2.cell? ⟨w1.heap.size + 1, j, none⟩ = (#[u, v] : Array Value)[j]?) ∧ w.heap.size < w2.heap.size ∧ w.heap.size + 1 < w2.heap.size ∧ w1.heap.size < w2.heap.size ∧ w1.heap.size + 1 < w2.heap.size := by
  have z1 : w.heap.size + 1 < w1.heap.size := Nat.lt_of_lt_of_le (by simp) hb1.size
  have z2 : w1.heap.size + 1 < w2.heap.size := Nat.lt_of_lt_of_le (by simp) hb2.size
  have old : ∀ b j, b < w1.heap.size → w2.cell? ⟨b, j, none⟩ = w1.cell? ⟨b, j, none⟩ := fun b j h => (hb2.cell (p := ⟨b, j, none⟩) (by simp; omega)).trans ((World.cell?_alloc_lt _ _ _ (by simp; omega)).trans (World.cell?_alloc_lt _ _ _ h))
  refine ⟨fun j => ?_, fun j => ?_, fun j => ?_, fun j => ?_, by omega, by omega, by omega, z2⟩
  · exact (old _ j (by omega)).trans ((hb1.cell (p := ⟨w.heap.size, j, none⟩) (by simp; omega)).trans (qz _ _ _ _ _ rfl))
  · exact (old _ j z1).trans ((hb1.cell (p := ⟨w.heap.size + 1, j, none⟩) (by simp)).trans (cell_new _ _ _ _ (by simp)))
  · exact (hb2.cell (p := ⟨w1.heap.size, j, none⟩) (by simp; omega)).trans (qz _ _ _ _ _ rfl)
  · exact (hb2.cell (p := ⟨w1.heap.size + 1, j, none⟩) (by simp)).trans (cell_new _ _ _ _ (by simp))
/-- What the law's reading of a word needs of memory. -/
structure QF (W : World) (b g o pc : Nat) (x z : UInt8) (n k : Nat) : Prop where
  c8 : W.cell? ⟨b, 8, none⟩ = some (.int .u16 ((pc : Nat) : Int))
  s0 : W.cell? ⟨b + 1, 0, none⟩ = some (.slice (some ⟨g, o, none⟩) n k)
  x : W.cell? ⟨g, o + pc, none⟩ = some (.int .u8 (x.toNat : Int))
  z : W.cell? ⟨g, o + (pc + 1), none⟩ = some (.int .u8 (z.toNat : Int))
  lb : b < W.heap.size
  lb1 : b + 1 < W.heap.size
  lg : g < W.heap.size
theorem q_of {W U : World} {b g o pc : Nat} {x z : UInt8} {n k : Nat} (h : QF W b g o pc x z n k) (hb : Below W.heap.size W U) :
    U.cell? ⟨b, 8, none⟩ = some (.int .u16 ((pc : Nat) : Int)) ∧ U.cell? ⟨b + 1, 0, none⟩ = some (.slice (some ⟨g, o, none⟩) n k) ∧ U.cell? ⟨g, o + pc, none⟩ = some (.int .u8 (x.toNat : Int)) ∧ U.cell? ⟨g, o + (pc + 1), none⟩ = some (.int .u8 (z.toNat : Int)) ∧ Below W.heap.size W U :=
  ⟨(hb.cell (p := ⟨b, 8, none⟩) h.lb).trans h.c8, (hb.cell (p := ⟨b + 1, 0, none⟩) h.lb1).trans h.s0, (hb.cell (p := ⟨g, o + pc, none⟩) h.lg).trans h.x, (hb.cell (p := ⟨g, o + (pc + 1), none⟩) h.lg).trans h.z, hb⟩
theorem q_be {A B C D E : Prop} (h : A ∧ B ∧ C ∧ D ∧ E) : E := h.2.2.2.2
theorem q_rom {W : World} {a : Option Addr} {n k pc : Nat} {rom : List UInt8} (h : sliceAt W (.slice a n k) rom) (hp : pc + 1 < rom.length) : ∃ (x z : UInt8) (g o : Nat), a = some ⟨g, o, none⟩ ∧ rom[pc]? = some x ∧ rom[pc + 1]? = some z ∧ g < W.heap.size ∧ W.cell? ⟨g, o + pc, none⟩ = some (.int .u8 (x.toNat : Int)) ∧ W.cell? ⟨g, o + (pc + 1), none⟩ = some (.int .u8 (z.toNat : Int)) := by
  rcases h with ⟨a', c', h1, h2⟩ | ⟨g, o, c', h1, h2, h3, h4⟩
  · rw [h2] at hp; simp at hp
  · simp only [Value.slice.injEq] at h1
    have ex := List.getElem?_eq_getElem (l := rom) (i := pc) (by omega)
    have ez := List.getElem?_eq_getElem (l := rom) (i := pc + 1) hp
    exact ⟨_, _, g, o, h1.1, ex, ez, h3, h4 _ _ ex, h4 _ _ ez⟩
theorem q_word (rom : List UInt8) (c : C.Cpu) (ram : List UInt8) {pc : Nat} {x z : UInt8} (hpc : c.PC = (pc : Int)) (hx : rom[pc]? = some x) (hz : rom[pc + 1]? = some z) (hp : pc + 1 < rom.length) (hp7 : pc < 32767) :
    ∃ a : Int, bits .or .u16 (IntKind.u16.wrap (IntKind.u16.wrap (x.toNat : Int) * 256)) (IntKind.u16.wrap (z.toNat : Int)) = a ∧ (0 ≤ a ∧ a ≤ 65535) ∧ C.word1 (spc rom) c ram = a := by
  have bx : x.toNat < 256 := x.toNat_lt
  have bz : z.toNat < 256 := z.toNat_lt
  refine ⟨(x.toNat : Int) * 256 + z.toNat, ?_, by omega, ?_⟩
  · have e1 : IntKind.u16.wrap (x.toNat : Int) = x.toNat := by simp [IntKind.wrap, IntKind.bits, IntKind.signed]; omega
    have e2 : IntKind.u16.wrap ((x.toNat : Int) * 256) = (x.toNat : Int) * 256 := by simp [IntKind.wrap, IntKind.bits, IntKind.signed]; omega
    have e3 : IntKind.u16.wrap (z.toNat : Int) = z.toNat := by simp [IntKind.wrap, IntKind.bits, IntKind.signed]; omega
    rw [e1, e2, e3]
    have := M.joined (x.toNat : Int) (z.toNat : Int) (by omega) (by omega) (by omega) (by omega)
    exact this
  · unfold C.word1
    rw [hpc, rom_word rom hp (by omega) ram]
    simp [List.getD, hx, hz]
set_option maxRecDepth 100000 in
set_option maxHeartbeats 3200000 in
theorem quiet_rung (c : C.Cpu) (hc : c.ok) (v1 v2 : Value) (rom ram : List UInt8) (r : Bool) (w : World) (h1 : sliceAt w v1 rom) (h2 : sliceAt w v2 ram) (hl1 : rom.length ≤ 1024) (hl2 : ram.length ≤ 256) (hs : shapesAt w) (hr : r = true) (hm : c.May = true) :
    Calls Tryd.prog 5 #[cpuV c, .agg #[v1, v2], .bool r] w fun e w' => e = .returned (.bool true) ∧ Below w.heap.size w w' := by
  have HS := hid hs
  have H1 := hid h1
  have H2 := hid h2
  have HC := hid hc
  obtain ⟨y, hy⟩ : ∃ y, C.step (spc rom) c ram r = y := ⟨_, rfl⟩
  have HST := hid (fun W s1 s2 ss => step_ok c hc v1 v2 rom ram r W s1 s2 hl1 hl2 ss)
  rw [hy] at HST
  obtain ⟨a1, k1, x1⟩ := slice_len h1
  obtain ⟨a2, k2, x2⟩ := slice_len h2
  subst x1 x2
  have hn := sp_step_n rom c ram r
  have hlen0 := sp_step_len rom c ram r
  rw [hy] at hn hlen0
  have hlen : ((y.s.length : Int) != ram.length) = false := by simp [hlen0]
  have hn1 : ¬ y.n < 1 := by omega
  clear hn hlen0
  have hrg := sp_step_rung rom c ram r (by rw [hr, hm]; rfl)
  rw [hy] at hrg
  have HG := hid hrg
  have HMY := hid hm
  have HRR := hid hr
  clear hrg hm hr
  clear h1 h2 hs hc hy
  go_enter Tryd.func5, Tryd.ntmps5
  go_wp2_with (first
    | (go_at_call 8; refine (HST.out _ (H1.out.kept (stA (stA (st0 w) _) _)) (H2.out.kept (stA (stA (st0 w) _) _)) (HS.out.kept (stA (stA (st0 w) _) _))).mono ?_; rintro e w1 ⟨vR, vM, rfl, hR1, hM1, hok1, hb1⟩; obtain ⟨aR, kR, rfl⟩ := slice_len hR1; obtain ⟨aM, kM, rfl⟩ := slice_len hM1; have B1 := hid (stp (stA (stA (st0 w) _) _) hb1); have HR1 := hid hR1; have HM1 := hid hM1; have HB1 := hid hb1; clear hR1 hM1 hok1 hb1)
    | (go_at_call 7; refine (stepped_any _ (HS.out.kept (stA (stA B1.out _) _))).mono ?_; rintro e w2 ⟨rfl, hb2⟩; have B2 := hid (stp (stA (stA B1.out _) _) hb2); have R2 := hid ((HR1.out.kept (stA (stA (st0 w1) _) _)).kept hb2); have M2 := hid ((HM1.out.kept (stA (stA (st0 w1) _) _)).kept hb2); have S1 := hid (H1.out.kept B2.out); have S2 := hid (H2.out.kept B2.out); obtain ⟨q0, q1, q2, q3, y0, y1, y2, y3⟩ := box4 HB1.out hb2; have c8 : w2.cell? ⟨w.heap.size, 8, none⟩ = some (.int .u16 c.PC) := q0 8; have c13 : w2.cell? ⟨w.heap.size, 13, none⟩ = some (.bool c.May) := q0 13; have c14 : w2.cell? ⟨w.heap.size, 14, none⟩ = some (.bool c.Waits) := q0 14; have d13 : w2.cell? ⟨w1.heap.size, 13, none⟩ = some (.bool y.c.May) := q2 13; have d14 : w2.cell? ⟨w1.heap.size, 14, none⟩ = some (.bool y.c.Waits) := q2 14; have s0 : w2.cell? ⟨w.heap.size + 1, 0, none⟩ = some (.slice a1 rom.length k1) := q1 0; have s1 : w2.cell? ⟨w.heap.size + 1, 1, none⟩ = some (.slice a2 ram.length k2) := q1 1; have o0 : w2.cell? ⟨w1.heap.size + 1, 0, none⟩ = some (.slice aR rom.length kR) := q3 0; have o1 : w2.cell? ⟨w1.heap.size + 1, 1, none⟩ = some (.slice aM y.s.length kM) := q3 1; obtain ⟨g1, g2, g3⟩ := HG.out; have hm := HMY.out; have hr := HRR.out; clear HR1 HM1 HB1 hb2 q0 q1 q2 q3)
    | (go_at_call 12; refine (equal_any _ _ rom rom _ R2.out S1.out).mono ?_; rintro e w3 ⟨rfl, rfl⟩))
  go_ret
  exact ⟨rfl, B2.out⟩
end Go.Proofs.YtimidkhppbhaeaaDoor
