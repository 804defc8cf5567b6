/-
  Parts of a proof, joined.
-/
import Derived.Test.YtdioiilmpjckfaaZt09
import Derived.Test.YtdioiilmpjckfaaZt03
import Derived.Test.YtdioiilmpjckfaaZt06
import Derived.ChangeKeysEq
import Derived.Laws.StructEq
import Derived.Deep.DeepCutAuto
namespace Go.Proofs.Ytdioiilmpjckfaa
open Go.ChangeShapes Go.WideShapes Go.ChangeAt Go.RowKit
set_option linter.unusedVariables false
set_option maxRecDepth 100000
def SlAt (W : World) (S : Sl) (M : Mach) : Prop := ∀ j, j < 5 → sliceAt W (S.get j) (M.byt j)
theorem SlAt.kept {W W' : World} {S : Sl} {M : Mach} (h : SlAt W S M) (hb : Below W.heap.size W W') : SlAt W' S M := fun j hj => (h j hj).kept hb
theorem SlAt.lens {W : World} {S : Sl} {M : Mach} (h : SlAt W S M) : S.lens M := fun j hj => slice_len (h j hj)
theorem Bd.slAt {F : Fx} {W : World} {M : Mach} {tk : Tk} (h : Bd F W M tk) : SlAt W F.S M := fun j hj => by
  rcases five hj with rfl | rfl | rfl | rfl | rfl
  · exact h.mr.slice
  · exact h.ar.slice
  · exact h.ra.slice
  · exact h.ow.slice
  · exact h.vi.slice
theorem Bd.isSl {F : Fx} {W : World} {M : Mach} {tk : Tk} (h : Bd F W M tk) : F.S.isSl := fun j hj => by
  obtain ⟨a, c, e⟩ := h.slAt.lens j hj
  exact ⟨_, _, _, e⟩
theorem Bd.row {F : Fx} {W : World} {M : Mach} {tk : Tk} (h : Bd F W M tk) : W.rangeAt F.g 0 (machL M F.S) := fun i v hi => by
  refine h.at (0 + i) v ?_
  rw [Nat.zero_add]
  unfold Fx.cells
  rw [List.getElem?_append_left (List.getElem?_eq_some_iff.1 hi).1]
  exact hi
def Mach.rd (M : Mach) (aux : Bool) (a : Int) : Int × Mach := if aux then M.rdA a else M.rdM a
def Mach.wr (M : Mach) (aux : Bool) (a n : Int) : Mach := if aux then M.wrA a n else M.wrM a n
def SlNew (n : Nat) (S : Sl) : Prop := ∀ j, j < 5 → ∀ a m c, S.get j = .slice (some a) m c → n ≤ a.block
theorem Rw.ge {W : World} {v : Value} {k n : Nat} {l : List UInt8} (h : Rw W v k l) (hk : n ≤ k) : ∀ (a : Addr) (m c : Nat), v = .slice (Option.some a) m c → n ≤ a.block := fun a m c e => by
  rcases h with ⟨e1, _⟩ | ⟨cap, e1, _⟩
  · rw [e1] at e; cases e
  · rw [e1] at e; cases e; exact hk
theorem Bd.slNew {F : Fx} {W : World} {M : Mach} {tk : Tk} (h : Bd F W M tk) (hr : F.B ≤ F.mr ∧ F.B ≤ F.ar) : SlNew F.B F.S := fun j hj => by
  rcases five hj with rfl | rfl | rfl | rfl | rfl
  · exact h.mr.ge hr.1
  · exact h.ar.ge hr.2
  · exact h.ra.ge h.nd.lo.2.1
  · exact h.ow.ge h.nd.lo.2.2.1
  · exact h.vi.ge h.nd.lo.2.2.2
theorem SlNew.mono {n m : Nat} {S : Sl} (h : SlNew n S) (hm : m ≤ n) : SlNew m S := fun j hj a k c e => Nat.le_trans hm (h j hj a k c e)
structure RB (w : World) (F : Fx) (M : Mach) (tk : Tk) (L : List Value) (Y : World) : Prop where
  bd : Bd F Y M tk
  low : Below w.heap.size w Y
  res : Bx Y (w.heap.size + 1) L
  B : w.heap.size + 1 < F.B
  r : F.B ≤ F.mr ∧ F.B ≤ F.ar
theorem Rw.offB {W : World} {v : Value} {k b : Nat} {l : List UInt8} (h : Rw W v k l) (hn : b ≠ k) (o : Nat) (vs : List Value) : Rw (W.setCells b o vs) v k l := by
  rcases h with h | ⟨cap, e, hl, hx⟩
  · exact Or.inl h
  · exact Or.inr ⟨cap, e, hl, hx.fars hn o vs⟩
theorem RB.fin {w Y : World} {F : Fx} {M : Mach} {tk : Tk} {L L' : List Value} (h : RB w F M tk L Y) (hl : L'.length = L.length) : Below w.heap.size w (Y.setCells (w.heap.size + 1) 0 L') ∧ Bx (Y.setCells (w.heap.size + 1) 0 L') (w.heap.size + 1) L' ∧ SlAt (Y.setCells (w.heap.size + 1) 0 L') F.S M := by
  have hx := h.res.puts 0 L' (by omega)
  rw [putL_whole _ _ hl] at hx
  have lo := h.bd.nd.lo
  have hB := h.B
  have hr := h.r
  refine ⟨Bl.puts h.low (by omega) _, hx, fun j hj => ?_⟩
  rcases five hj with rfl | rfl | rfl | rfl | rfl
  · exact (h.bd.mr.offB (by omega) _ _).slice
  · exact (h.bd.ar.offB (by omega) _ _).slice
  · exact (h.bd.ra.offB (by omega) _ _).slice
  · exact (h.bd.ow.offB (by omega) _ _).slice
  · exact (h.bd.vi.offB (by omega) _ _).slice
theorem Bu.eq_arr (a0 a1 a2 a3 a4 a5 a6 a7 : Int) (d : Nat) (w : World) :
    (Op.equalIn (d + 2) 23 (.agg #[.int .u16 a0, .int .u16 a1, .int .u16 a2, .int .u16 a3, .int .u16 a4, .int .u16 a5, .int .u16 a6, .int .u16 a7]) (.agg #[.int .u16 a0, .int .u16 a1, .int .u16 a2, .int .u16 a3, .int .u16 a4, .int .u16 a5, .int .u16 a6, .int .u16 a7])).run Try.prog w = .ok true w := by
  have u3 := Try.underlying22
  have x3 := Try.isAgg22
  have z3 := Try.sizeOf22
  have hU : Try.prog.cellsOf 22 = 1 := by kernel_rfl
  have hs : (Try.prog.info? 22).isSome = true := by kernel_rfl
  obtain ⟨i, hi⟩ := Option.isSome_iff_exists.1 hs
  rw [run_equalIn_array w (d + 1) _ _ Try.underlying23 hi, hU]
  simp only [List.range, List.range.loop, Op.eqItems]
  go_simp
theorem Bu.eq_cpu (c : C.Cpu) (w : World) : (binOp .eql 25 (.agg #[.int .u16 (c.r 0), .int .u16 (c.r 1), .int .u16 (c.r 2), .int .u16 (c.r 3), .int .u16 (c.r 4), .int .u16 (c.r 5), .int .u16 (c.r 6), .int .u16 (c.r 7), .int .u16 c.PC, .bool c.Z, .bool c.N, .bool c.C, .bool c.V, .bool c.May, .bool c.Waits]) (.agg #[.int .u16 (c.r 0), .int .u16 (c.r 1), .int .u16 (c.r 2), .int .u16 (c.r 3), .int .u16 (c.r 4), .int .u16 (c.r 5), .int .u16 (c.r 6), .int .u16 (c.r 7), .int .u16 c.PC, .bool c.Z, .bool c.N, .bool c.C, .bool c.V, .bool c.May, .bool c.Waits])).run Try.prog w = .ok (.bool true) w := by
  have u3 := Try.underlying22
  have x3 := Try.isAgg22
  have z3 := Try.sizeOf22
  have u4 := Try.underlying4
  have x4 := Try.isAgg4
  have z4 := Try.sizeOf4
  have x5 := Try.isAgg23
  have z5 := Try.sizeOf23
  have ha := Bu.eq_arr (c.r 0) (c.r 1) (c.r 2) (c.r 3) (c.r 4) (c.r 5) (c.r 6) (c.r 7) 9997
  have hS : Try.prog.underlying 25 = some (.struct (Try.prog.fieldsOf 25)) := by kernel_rfl
  have hp : Try.prog.stoodInHeld 25 = false := by kernel_rfl
  rw [run_eql_struct, show (10000 : Nat) = 9999 + 1 from rfl, run_equalIn_agg w 9999 25 _ _ hS hp]
  simp only [Program.fieldsOf, Try.underlying25]
  go_simp
theorem Bu.eq_cpuL (c : C.Cpu) (w : World) : (binOp .eql 25 (.agg (cpuL c).toArray) (.agg (cpuL c).toArray)).run Try.prog w = .ok (.bool true) w := Bu.eq_cpu c w
theorem Bu.eq_sndL (s : Sd) (w : World) : (binOp .eql 36 (.agg (sndL s).toArray) (.agg (sndL s).toArray)).run Try.prog w = .ok (.bool true) w := eq_sound s w
theorem Bu.eq_pad (d s : Int) (l : Bool) (n : Nat) (w : World) : (Op.equalIn (n + 2) 28 (.agg #[.int .u8 d, .bool l, .int .u8 s]) (.agg #[.int .u8 d, .bool l, .int .u8 s])).run Try.prog w = .ok true w := by
  have u4 := Try.underlying4
  have a4 := Try.isAgg4
  have z4 := Try.sizeOf4
  have u5 := Try.underlying5
  have a5 := Try.isAgg5
  have z5 := Try.sizeOf5
  have hS : Try.prog.underlying 28 = some (.struct (Try.prog.fieldsOf 28)) := by kernel_rfl
  have hp : Try.prog.stoodInHeld 28 = false := by kernel_rfl
  rw [run_equalIn_agg w (n + 1) 28 _ _ hS hp]
  simp only [Program.fieldsOf, Try.underlying28]
  go_simp
theorem Bu.eq_timer (r c : Int) (on g : Bool) (w : World) : (binOp .eql 31 (.agg #[.int .u16 r, .int .u16 c, .bool on, .bool g]) (.agg #[.int .u16 r, .int .u16 c, .bool on, .bool g])).run Try.prog w = .ok (.bool true) w := by
  have u3 := Try.underlying22
  have a3 := Try.isAgg22
  have z3 := Try.sizeOf22
  have u4 := Try.underlying4
  have a4 := Try.isAgg4
  have z4 := Try.sizeOf4
  have hS : Try.prog.underlying 31 = some (.struct (Try.prog.fieldsOf 31)) := by kernel_rfl
  have hp : Try.prog.stoodInHeld 31 = false := by kernel_rfl
  rw [run_eql_struct, show (10000 : Nat) = 9999 + 1 from rfl, run_equalIn_agg w 9999 31 _ _ hS hp]
  simp only [Program.fieldsOf, Try.underlying31]
  go_simp
theorem Bu.eq_beam (l a f : Int) (g : Bool) (w : World) : (binOp .eql 38 (.agg #[.int .i64 l, .int .i64 a, .bool g, .int .i64 f]) (.agg #[.int .i64 l, .int .i64 a, .bool g, .int .i64 f])).run Try.prog w = .ok (.bool true) w := by
  have u3 := Try.underlying3
  have a3 := Try.isAgg3
  have z3 := Try.sizeOf3
  have u4 := Try.underlying4
  have a4 := Try.isAgg4
  have z4 := Try.sizeOf4
  have hS : Try.prog.underlying 38 = some (.struct (Try.prog.fieldsOf 38)) := by kernel_rfl
  have hp : Try.prog.stoodInHeld 38 = false := by kernel_rfl
  rw [run_eql_struct, show (10000 : Nat) = 9999 + 1 from rfl, run_equalIn_agg w 9999 38 _ _ hS hp]
  simp only [Program.fieldsOf, Try.underlying38]
  go_simp
theorem Bu.eq_pads (d s d' s' : Int) (l l' : Bool) (w : World) : (binOp .eql 29 (.agg #[.int .u8 d, .bool l, .int .u8 s, .int .u8 d', .bool l', .int .u8 s']) (.agg #[.int .u8 d, .bool l, .int .u8 s, .int .u8 d', .bool l', .int .u8 s'])).run Try.prog w = .ok (.bool true) w := by
  have h0 := Bu.eq_pad d s l 9997
  have h1 := Bu.eq_pad d' s' l' 9997
  have a3 := Try.isAgg28
  have z3 := Try.sizeOf28
  have hU : Try.prog.cellsOf 28 = 3 := by kernel_rfl
  have hs : (Try.prog.info? 28).isSome = true := by kernel_rfl
  obtain ⟨i, hi⟩ := Option.isSome_iff_exists.1 hs
  rw [run_eql_struct, show (10000 : Nat) = 9999 + 1 from rfl, run_equalIn_array w 9999 _ _ Try.underlying29 hi, hU]
  simp only [List.range, List.range.loop, Op.eqItems]
  go_simp
theorem Bu.eq_mail (x y : Int) (w : World) : (binOp .eql 39 (.agg #[.int .u8 x, .int .u8 y]) (.agg #[.int .u8 x, .int .u8 y])).run Try.prog w = .ok (.bool true) w := by
  have u3 := Try.underlying5
  have a3 := Try.isAgg5
  have z3 := Try.sizeOf5
  have hU : Try.prog.cellsOf 5 = 1 := by kernel_rfl
  have hs : (Try.prog.info? 5).isSome = true := by kernel_rfl
  obtain ⟨i, hi⟩ := Option.isSome_iff_exists.1 hs
  rw [run_eql_struct, show (10000 : Nat) = 9999 + 1 from rfl, run_equalIn_array w 9999 _ _ Try.underlying39 hi, hU]
  simp only [List.range, List.range.loop, Op.eqItems]
  go_simp
theorem Bu.loadG {P : Program} {ops : Array Oper} {rest : List Oper} {op : Oper} {a : Act} {w : World} {Q : Exit → Act → World → Prop} (hw : Region.wanted op (yielded ops a.tmps) = true) (ty : TypeId) (x : Operand) (ho : op.op = .load ty x)
    (b o : Nat) (hx : a.eval x = .pointer (some ⟨b, o, none⟩)) (cs : List Value) (d : TypeDesc) (hc : w.rangeAt b o cs)
    (hu : P.underlying ty = some d) (hd : d.isRow = true) (hi : (P.info? ty).map (·.size) = some cs.length)
    (h : wpList P ops Q rest (a.put op.dst (.agg cs.toArray)) w) : wpList P ops Q (op :: rest) a w :=
  wpList_step fun K hK => by rw [if_pos hw]; exact wp_load_mid ty x ho b o hx cs d hc hu hd hi (hK _ _ h)
def five2 (S1 S2 : Sl) : List Value := [S1.mr, S2.mr, S1.ar, S2.ar, S1.ra, S2.ra, S1.ow, S2.ow, S1.vi, S2.vi]
theorem five2_at (S1 S2 : Sl) (k : Nat) (hk : k < 5) : (five2 S1 S2)[k * 2]? = some (S1.get k) ∧ (five2 S1 S2)[k * 2 + 1]? = some (S2.get k) := by
  rcases five hk with rfl | rfl | rfl | rfl | rfl <;> exact ⟨rfl, rfl⟩
structure SM (w : World) (M : Mach) (S1 S2 : Sl) (Y : World) : Prop where
  low : Below w.heap.size w Y
  a : Bx Y w.heap.size (machL M S1)
  b : Bx Y (w.heap.size + 1) (machL M S2)
  l : Bx Y (w.heap.size + 2) (five2 S1 S2)
theorem SM.kept {w Y Y' : World} {M : Mach} {S1 S2 : Sl} (h : SM w M S1 S2 Y) (hb : Below Y.heap.size Y Y') : SM w M S1 S2 Y' := ⟨stp h.low hb, h.a.kept hb, h.b.kept hb, h.l.kept hb⟩
theorem Bx.mainR {Y : World} {b : Nat} {M : Mach} {S : Sl} (h : Bx Y b (machL M S)) : Y.rangeAt b 0 (cpuL M.main) := fun i v hi => by
  refine h.at (0 + i) v ?_
  rw [Nat.zero_add]
  unfold machL
  rw [List.getElem?_append_left (List.getElem?_eq_some_iff.1 hi).1]
  exact hi
theorem Bx.auxR {Y : World} {b : Nat} {M : Mach} {S : Sl} (h : Bx Y b (machL M S)) : Y.rangeAt b 15 (cpuL M.aux) := fun i v hi => by
  refine h.at (15 + i) v ?_
  unfold machL
  have hl : (cpuL M.main).length = 15 := rfl
  rw [List.getElem?_append_right (by omega), hl, show 15 + i - 15 = i by omega, List.getElem?_append_left (List.getElem?_eq_some_iff.1 hi).1]
  exact hi
theorem Bx.scl {Y : World} {b : Nat} {M : Mach} {S : Sl} (h : Bx Y b (machL M S)) : Y.cell? ⟨b, 35, none⟩ = some (.int .u8 M.p0.d) ∧ Y.cell? ⟨b, 36, none⟩ = some (.bool M.p0.l) ∧ Y.cell? ⟨b, 37, none⟩ = some (.int .u8 M.p0.s) ∧ Y.cell? ⟨b, 38, none⟩ = some (.int .u8 M.p1.d) ∧ Y.cell? ⟨b, 39, none⟩ = some (.bool M.p1.l) ∧ Y.cell? ⟨b, 40, none⟩ = some (.int .u8 M.p1.s) ∧ Y.cell? ⟨b, 41, none⟩ = some (.int .u16 M.t.r) ∧ Y.cell? ⟨b, 42, none⟩ = some (.int .u16 M.t.c) ∧ Y.cell? ⟨b, 43, none⟩ = some (.bool M.t.on) ∧ Y.cell? ⟨b, 44, none⟩ = some (.bool M.t.g) ∧ Y.cell? ⟨b, 61, none⟩ = some (.int .i64 M.b.l) ∧ Y.cell? ⟨b, 62, none⟩ = some (.int .i64 M.b.a) ∧ Y.cell? ⟨b, 63, none⟩ = some (.bool M.b.g) ∧ Y.cell? ⟨b, 64, none⟩ = some (.int .i64 M.b.f) ∧ Y.cell? ⟨b, 65, none⟩ = some (.int .u16 M.fr) ∧ Y.cell? ⟨b, 66, none⟩ = some (.int .u16 M.to) ∧ Y.cell? ⟨b, 67, none⟩ = some (.bool M.granted) ∧ Y.cell? ⟨b, 68, none⟩ = some (.bool M.held) ∧ Y.cell? ⟨b, 69, none⟩ = some (.int .u8 M.m0) ∧ Y.cell? ⟨b, 70, none⟩ = some (.int .u8 M.m1) ∧ Y.cell? ⟨b, 71, none⟩ = some (.bool M.rung) ∧ Y.cell? ⟨b, 72, none⟩ = some (.int .i64 M.clock) ∧ Y.cell? ⟨b, 73, none⟩ = some (.int .i64 M.mready) ∧ Y.cell? ⟨b, 74, none⟩ = some (.int .i64 M.aready) :=
  ⟨h.at 35 _ rfl, h.at 36 _ rfl, h.at 37 _ rfl, h.at 38 _ rfl, h.at 39 _ rfl, h.at 40 _ rfl, h.at 41 _ rfl, h.at 42 _ rfl, h.at 43 _ rfl, h.at 44 _ rfl, h.at 61 _ rfl, h.at 62 _ rfl, h.at 63 _ rfl, h.at 64 _ rfl, h.at 65 _ rfl, h.at 66 _ rfl, h.at 67 _ rfl, h.at 68 _ rfl, h.at 69 _ rfl, h.at 70 _ rfl, h.at 71 _ rfl, h.at 72 _ rfl, h.at 73 _ rfl, h.at 74 _ rfl⟩
theorem SM.start (w : World) (M : Mach) (S1 S2 : Sl) (o1 o2 o3 : TypeId) : SM w M S1 S2 (((w.alloc (.cells (machL M S1).toArray o1)).alloc (.cells (machL M S2).toArray o2)).alloc (.cells (five2 S1 S2).toArray o3)) :=
  ⟨stA (stA (stA (st0 w) _) _) _, ((Bx.new w (machL M S1) o1 rfl).over _).over _, (Bx.new (w.alloc _) (machL M S2) o2 (by simp)).over _, Bx.new _ (five2 S1 S2) o3 (by simp)⟩
set_option maxHeartbeats 1600000 in
theorem Bu.same_any (M : Mach) (S1 S2 : Sl) (w : World) (h1 : SlAt w S1 M) (h2 : SlAt w S2 M) :
    Calls Try.prog 9 #[.agg (machL M S1).toArray, .agg (machL M S2).toArray] w fun e w' => e = .returned (.bool true) ∧ Below w.heap.size w w' := by
  have hA := (Bx.new w (machL M S1) 41 (b := w.heap.size) rfl).over (.cells (machL M S2).toArray 41)
  have hB := Bx.new (w.alloc (.cells (machL M S1).toArray 41)) (machL M S2) 41 (b := w.heap.size + 1) (by simp)
  obtain ⟨a0, c0, e0⟩ := h1.lens 0 (by omega)
  obtain ⟨a1, c1, e1⟩ := h1.lens 1 (by omega)
  obtain ⟨a2, c2, e2⟩ := h1.lens 2 (by omega)
  obtain ⟨a3, c3, e3⟩ := h1.lens 3 (by omega)
  obtain ⟨a4, c4, e4⟩ := h1.lens 4 (by omega)
  obtain ⟨b0, d0, f0⟩ := h2.lens 0 (by omega)
  obtain ⟨b1, d1, f1⟩ := h2.lens 1 (by omega)
  obtain ⟨b2, d2, f2⟩ := h2.lens 2 (by omega)
  obtain ⟨b3, d3, f3⟩ := h2.lens 3 (by omega)
  obtain ⟨b4, d4, f4⟩ := h2.lens 4 (by omega)
  obtain ⟨x0, x1, x2, x3, x4⟩ := mcells5 hA e0 e1 e2 e3 e4
  obtain ⟨y0, y1, y2, y3, y4⟩ := mcells5 hB f0 f1 f2 f3 f4
  have hz := hA.z
  have hz1 := hB.z
  have HE : Hid (five2 S1 S2 = [.slice a0 M.mrom.length c0, .slice b0 M.mrom.length d0, .slice a1 M.arom.length c1, .slice b1 M.arom.length d1, .slice a2 M.ram.length c2, .slice b2 M.ram.length d2, .slice a3 M.own.length c3, .slice b3 M.own.length d3, .slice a4 M.video.length c4, .slice b4 M.video.length d4]) := hid (by
    unfold five2
    have e0' : S1.mr = _ := e0
    have e1' : S1.ar = _ := e1
    have e2' : S1.ra = _ := e2
    have e3' : S1.ow = _ := e3
    have e4' : S1.vi = _ := e4
    have f0' : S2.mr = _ := f0
    have f1' : S2.ar = _ := f1
    have f2' : S2.ra = _ := f2
    have f3' : S2.ow = _ := f3
    have f4' : S2.vi = _ := f4
    rw [e0', e1', e2', e3', e4', f0', f1', f2', f3', f4']
    rfl)
  have H1 := hid h1
  have H2 := hid h2
  clear hA hB e0 e1 e2 e3 e4 f0 f1 f2 f3 f4 h1 h2
  go_enter Try.func9, Try.ntmps9
  go_wp2
  refine Pl.cutW (SM w M S1 S2) (by have hs := SM.start w M S1 S2 41 41 65; rw [HE.out] at hs; exact hs) ?_
  intro Y hY
  have HY := hid hY
  clear hY
  go_loopw [34] (fun i wr => ∃ k : Nat, k ≤ 5 ∧ i = .int .i64 k ∧ SM w M S1 S2 wr) (fun i _ => 5 - (intOf i).toNat)
  case atStart => exact ⟨0, by omega, rfl, HY.out⟩
  case round =>
    clear HY x0 x1 x2 x3 x4 y0 y1 y2 y3 y4 hz hz1
    obtain ⟨k, hk, rfl, hS⟩ := hrel
    by_cases hlt : k < 5
    · have hlt2 : (k : Int) < 5 := by omega
      obtain ⟨l1, l2⟩ := five2_at S1 S2 k hlt
      obtain ⟨u1, v1, g1⟩ := H1.out.lens k hlt
      obtain ⟨u2, v2, g2⟩ := H2.out.lens k hlt
      have m1 := hS.l.at _ _ l1
      have m2 := hS.l.at _ _ l2
      rw [g1] at m1
      rw [g2] at m2
      have K1 := H1.out k hlt
      have K2 := H2.out k hlt
      rw [g1] at K1
      rw [g2] at K2
      have HK1 := hid (K1.kept hS.low)
      have HK2 := hid (K2.kept hS.low)
      have hz := hS.l.z
      have HS := hid hS
      clear hS l1 l2 g1 g2 K1 K2 HE
      go_wp2_with (go_at_call 11; refine (equal_any _ _ (M.byt k) (M.byt k) _ (HK1.out.kept (stA (st0 _) _)) (HK2.out.kept (stA (st0 _) _))).mono ?_; rw [beq_self_eq_true]; rintro e w1 ⟨rfl, rfl⟩)
      go_roundw
      case rel => exact ⟨k + 1, by omega, by go_num, HS.out.kept (stA (st0 _) _)⟩
      case measure => simp [intOf]; omega
    · obtain rfl : k = 5 := by omega
      have q1 := Bu.eq_cpuL M.main
      have q2 := Bu.eq_cpuL M.aux
      have q3 := Bu.eq_pads M.p0.d M.p0.s M.p1.d M.p1.s M.p0.l M.p1.l
      have q4 := Bu.eq_timer M.t.r M.t.c M.t.on M.t.g
      have q5 := Bu.eq_sndL M.s
      have q6 := Bu.eq_beam M.b.l M.b.a M.b.f M.b.g
      have q7 := Bu.eq_mail M.m0 M.m1
      obtain ⟨p35, p36, p37, p38, p39, p40, p41, p42, p43, p44, p61, p62, p63, p64, p65, p66, p67, p68, p69, p70, p71, p72, p73, p74⟩ := hS.a.scl
      obtain ⟨r35, r36, r37, r38, r39, r40, r41, r42, r43, r44, r61, r62, r63, r64, r65, r66, r67, r68, r69, r70, r71, r72, r73, r74⟩ := hS.b.scl
      have hz := hS.a.z
      have hz1 := hS.b.z
      have HS := hid hS
      clear hS HE
      go_upto_region 7 with fail
      simp only [List.append]
      go_wp2_with (first
        | (refine wpList_load_mid rfl 25 _ rfl w.heap.size 0 rfl (cpuL M.main) _ HS.out.a.mainR Try.underlying25 rfl info_cpu ?_)
        | (refine wpList_load_mid rfl 25 _ rfl (w.heap.size + 1) 0 rfl (cpuL M.main) _ HS.out.b.mainR Try.underlying25 rfl info_cpu ?_)
        | (refine Bu.loadG rfl 25 _ rfl w.heap.size 15 rfl (cpuL M.aux) _ HS.out.a.auxR Try.underlying25 rfl info_cpu ?_)
        | (refine Bu.loadG rfl 25 _ rfl (w.heap.size + 1) 15 rfl (cpuL M.aux) _ HS.out.b.auxR Try.underlying25 rfl info_cpu ?_)
        | (refine Bu.loadG rfl 36 _ rfl w.heap.size 45 rfl (sndL M.s) _ HS.out.a.sndR Try.underlying36 rfl info_sound ?_)
        | (refine Bu.loadG rfl 36 _ rfl (w.heap.size + 1) 45 rfl (sndL M.s) _ HS.out.b.sndR Try.underlying36 rfl info_sound ?_))
      go_ret
      exact ⟨rfl, HS.out.low⟩
end Go.Proofs.Ytdioiilmpjckfaa
