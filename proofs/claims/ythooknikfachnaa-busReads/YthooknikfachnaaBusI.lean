/-
  Package bus: the pads' ports.
-/
import Derived.Test.YthooknikfachnaaBusH
import Derived.Deep.DeepCutAuto
namespace Go.Proofs.Ythooknikfachnaa
open Go.ChangeShapes Go.WideShapes Go.ChangeAt Go.RowKit
set_option linter.unusedVariables false
set_option maxRecDepth 100000

section
variable {F : Fx} {W : World} {M M' : Mach} {tk : Tk}
theorem Pd.next_ok {p : Pd} (h : p.ok) : p.next.ok := by
  obtain ⟨hd, hs⟩ := h
  refine ⟨hd, ?_⟩
  unfold Pd.next
  refine sel_ind (P := fun x => 0 ≤ x ∧ x ≤ 255) p.l hs ?_
  omega
theorem Pd.wr_ok {p : Pd} (h : p.ok) (x : Int) : (p.wr x).ok := by
  obtain ⟨hd, hs⟩ := h
  refine ⟨hd, ?_⟩
  unfold Pd.wr
  exact sel_ind (P := fun x => 0 ≤ x ∧ x ≤ 255) _ hd hs
theorem lt_new {W w1 : World} {o : Obj} (hb : Below ((W.alloc o).drew).heap.size (W.alloc o).drew w1) : W.heap.size < w1.heap.size := Nat.lt_of_lt_of_le (by simp) hb.size
theorem lt_old {W w0 w1 : World} {g : Nat} (hg : g < W.heap.size) (hb : Below w0.heap.size w0 w1) (h : W.heap.size ≤ w0.heap.size) : g < w1.heap.size := Nat.lt_of_lt_of_le hg (Nat.le_trans h hb.size)
/-- A pad's box beside the board. -/
structure PdC (F : Fx) (W : World) (M : Mach) (tk : Tk) (b : Nat) (p : Pd) (wx : World) : Prop where
  bd : Bd F wx M tk
  bt : Bt F W wx
  bx : Bx wx b [.int .u8 p.d, .bool p.l, .int .u8 p.s]
  ne : b ≠ F.g
theorem PdC.mkA {w1 : World} {p : Pd} (h : Bd F W M tk) (hb : Below W.drew.heap.size W.drew w1) : PdC F W M tk w1.heap.size p (w1.alloc (.cells #[.int .u8 p.d, .bool p.l, .int .u8 p.s] 28)) := by
  have hB : Below W.heap.size W w1 := stp (st0 W).drew hb
  have hz := Nat.lt_of_lt_of_le h.bx.z hB.size
  exact ⟨(h.kept hB).over _, Bt.kept (Bt.refl F W) h.big (stA hB _), Bx.new w1 [.int .u8 p.d, .bool p.l, .int .u8 p.s] _ rfl, by omega⟩
theorem PdC.mkB {w1 : World} {p : Pd} (h : Bd F W M tk) {x y z : Value} (hb : Below ((W.alloc (.cells #[x, y, z] 28)).drew).heap.size (W.alloc (.cells #[x, y, z] 28)).drew w1) :
    PdC F W M tk W.heap.size p (((w1.setCell ⟨W.heap.size, 0, none⟩ (.int .u8 p.d)).setCell ⟨W.heap.size, 1, none⟩ (.bool p.l)).setCell ⟨W.heap.size, 2, none⟩ (.int .u8 p.s)) := by
  have hB : Below W.heap.size W w1 := stp (stA (st0 W) _).drew hb
  have hB2 : Below W.heap.size W (((w1.setCell ⟨W.heap.size, 0, none⟩ (.int .u8 p.d)).setCell ⟨W.heap.size, 1, none⟩ (.bool p.l)).setCell ⟨W.heap.size, 2, none⟩ (.int .u8 p.s)) := ((hB.setCell (Nat.le_refl _) _).setCell (Nat.le_refl _) _).setCell (Nat.le_refl _) _
  have hx := ((Bx.new W [x, y, z] 28 rfl).drew.kept hb).puts 0 [.int .u8 p.d, .bool p.l, .int .u8 p.s] (by simp)
  have := h.bx.z
  exact ⟨h.kept hB2, Bt.kept (Bt.refl F W) h.big hB2, hx, by omega⟩
theorem PdC.all {wx : World} {b : Nat} {p : Pd} (h : PdC F W M tk b p wx) : wx.cell? ⟨b, 0, none⟩ = some (.int .u8 p.d) ∧ wx.cell? ⟨b, 1, none⟩ = some (.bool p.l) ∧ wx.cell? ⟨b, 2, none⟩ = some (.int .u8 p.s) := ⟨h.bx.at 0 _ rfl, h.bx.at 1 _ rfl, h.bx.at 2 _ rfl⟩
set_option maxHeartbeats 1600000 in
theorem Bu.pad0_r (h : Bd F W M tk) : Calls Try.prog 81 #[pt F.E.q0 0, pt F.E.w0 0] W fun e w' => e = .returned (.int .u8 (M.portM 0).1) ∧ Bd F w' (M.portM 0).2 tk ∧ Bt F W w' := by
  have c0 := h.at 35 (.int .u8 M.p0.d) rfl
  have c1 := h.at 36 (.bool M.p0.l) rfl
  have c2 := h.at 37 (.int .u8 M.p0.s) rfl
  have hg := h.bx.z
  obtain ⟨y1, e1⟩ := h.env _ _ .q0
  obtain ⟨y2, e2⟩ := h.env _ _ .w0
  have hp := h.fit.p0
  have H := hid h
  clear h
  go_enter Try.func81, Try.ntmps81
  go_upto_region 1 with fail
  go_cut [0, 1, 3, 4] (fun v0 v1 v3 v4 wx => v0 = pt F.E.q0 0 ∧ v1 = pt F.E.w0 0 ∧ v3 = .int .u8 M.p0.rd ∧ ∃ b, v4 = pt b 0 ∧ PdC F W M tk b M.p0.next wx)
  case first =>
    go_region_with (go_at_call 82; refine (read_pad _ _ _ _ hp.d hp.s).mono ?_; rintro e w1 ⟨rfl, hb1⟩; obtain ⟨k1, f1⟩ := bcell hb1; try (have z1 := lt_new hb1); have z2 : F.g < w1.heap.size := lt_old hg hb1 (by simp))
    all_goals (go_wp2_with fail; go_meet)
    all_goals refine ⟨rfl, rfl, rfl, _, rfl, ?_⟩
    all_goals first
      | exact PdC.mkB H.out hb1
      | exact PdC.mkA H.out hb1
  case rest =>
    obtain ⟨rfl, rfl, rfl, b, rfl, hC⟩ := hcut
    obtain ⟨d0, d1, d2⟩ := hC.all
    have c0 := hC.bd.at 35 (.int .u8 M.p0.d) rfl
    have c1 := hC.bd.at 36 (.bool M.p0.l) rfl
    have c2 := hC.bd.at 37 (.int .u8 M.p0.s) rfl
    have f0 := hC.bd.bx.f
    have hg := hC.bd.bx.z
    have hbz := hC.bx.z
    obtain ⟨y1, e1⟩ := hC.bd.env _ _ .q0
    obtain ⟨y2, e2⟩ := hC.bd.env _ _ .w0
    have HC := hid hC
    clear hC
    go_wp2
    go_region_with fail
    all_goals go_wp2
    all_goals go_ret
    all_goals
      refine ⟨rfl, ?_, ?_⟩
      · exact HC.out.bd.drew.puts (M' := { M with p0 := M.p0.next }) (tk' := tk) 35 [.int .u8 M.p0.next.d, .bool M.p0.next.l, .int .u8 M.p0.next.s] (by simp) rfl ⟨rfl, rfl, rfl, rfl, rfl⟩ { HC.out.bd.fit with main := HC.out.bd.fit.main, p0 := Pd.next_ok HC.out.bd.fit.p0 }
      · exact Bt.sets HC.out.bd.nd [.int .u8 M.p0.next.d, .bool M.p0.next.l, .int .u8 M.p0.next.s] 35 _ HC.out.bt.drew
end
end Go.Proofs.Ythooknikfachnaa
