/-
  Package tone: swing, later.
-/
import Derived.Test.YthooknikfachnaaTonA
import Derived.Test.YthooknikfachnaaBx
namespace Go.Proofs.Ythooknikfachnaa
open Go.ChangeShapes Go.WideShapes Go.ChangeAt Go.RowKit
set_option linter.unusedVariables false
set_option maxRecDepth 100000

/-- A voice's cells. -/
abbrev vL (p c l : Int) (h : Bool) (n : Int) : List Value := [.int .u16 p, .int .u16 c, .int .u8 l, .bool h, .int .u16 n]
theorem info_voice : (Try.prog.info? 33).map (·.size) = some 5 := by kernel_rfl
theorem load_voice (W : World) (q o : Nat) (p c l n : Int) (h : Bool) (hr : W.rangeAt q o (vL p c l h n)) : (loadVar 33 ⟨q, o, none⟩).run Try.prog W = .ok (.agg #[.int .u16 p, .int .u16 c, .int .u8 l, .bool h, .int .u16 n]) W :=
  run_loadVar_mid W q o 33 _ _ hr Try.underlying33 rfl info_voice
theorem Bx.five {W : World} {b : Nat} {p c l n : Int} {h : Bool} (hB : Bx W b (vL p c l h n)) : W.cell? ⟨b, 0, none⟩ = some (.int .u16 p) ∧ W.cell? ⟨b, 1, none⟩ = some (.int .u16 c) ∧ W.cell? ⟨b, 2, none⟩ = some (.int .u8 l) ∧ W.cell? ⟨b, 3, none⟩ = some (.bool h) ∧ W.cell? ⟨b, 4, none⟩ = some (.int .u16 n) ∧ b < W.heap.size ∧ ∀ o, W.frozen? ⟨b, o, none⟩ = false :=
  ⟨hB.at 0 _ rfl, hB.at 1 _ rfl, hB.at 2 _ rfl, hB.at 3 _ rfl, hB.at 4 _ rfl, hB.z, hB.f⟩
theorem Bx.put5 {W : World} {b : Nat} {L : List Value} (hB : Bx W b L) (hl : L.length = 5) (p c l n : Int) (h : Bool) : Bx (((((W.setCell ⟨b, 0, none⟩ (.int .u16 p)).setCell ⟨b, 1, none⟩ (.int .u16 c)).setCell ⟨b, 2, none⟩ (.int .u8 l)).setCell ⟨b, 3, none⟩ (.bool h)).setCell ⟨b, 4, none⟩ (.int .u16 n)) b (vL p c l h n) := by
  have := hB.puts 0 (vL p c l h n) (by rw [hl]; simp)
  have e : putL L 0 (vL p c l h n) = vL p c l h n := by
    match L, hl with
    | [_, _, _, _, _], _ => rfl
  rw [e] at this
  exact this
theorem Bl.put5 {w W : World} {b : Nat} (hB : Below w.heap.size w W) (hb : w.heap.size ≤ b) (p c l n : Int) (h : Bool) : Below w.heap.size w (((((W.setCell ⟨b, 0, none⟩ (.int .u16 p)).setCell ⟨b, 1, none⟩ (.int .u16 c)).setCell ⟨b, 2, none⟩ (.int .u8 l)).setCell ⟨b, 3, none⟩ (.bool h)).setCell ⟨b, 4, none⟩ (.int .u16 n)) :=
  Bl.puts (o := 0) hB hb (vL p c l h n)
theorem bit_of' (x : Int) (h : 0 ≤ x ∧ x ≤ 65535) : (bits .and .u16 x 1 == 1) = decide (x % 2 = 1) := M.bit_of x h.1 h.2
/-- A voice in swing. -/
structure SwW (w : World) (p c l n : Int) (h : Bool) (j : Nat) (W : World) : Prop where
  low : Below w.heap.size w W
  v : Bx W w.heap.size (vL p c l (swsH h n j) (swsN n j))
  r : Bx W (w.heap.size + 1) (vL 0 0 0 false 0)
theorem par_of (k : Nat) : IntKind.i64.wrap ((k : Int).tmod 2) = ((k % 2 : Nat) : Int) := by
  rw [Int.tmod_eq_emod_of_nonneg (by omega)]; simp [IntKind.wrap, IntKind.bits, IntKind.signed]; omega
theorem Bx.resV {w w1 : World} {o : Obj} (hb1 : Below ((w.alloc o).alloc (.cells (vL 0 0 0 false 0).toArray 33)).heap.size ((w.alloc o).alloc (.cells (vL 0 0 0 false 0).toArray 33)) w1) : Bx w1 (w.heap.size + 1) (vL 0 0 0 false 0) :=
  (Bx.new (w.alloc o) (vL 0 0 0 false 0) _ (by simp)).kept hb1
theorem keep0 {W : World} {b : Nat} {x v : Value} (h : W.cell? ⟨b, 0, none⟩ = some x) : (W.setCell ⟨b, 1, none⟩ v).drew.cell? ⟨b, 0, none⟩ = some x :=
  (World.cell?_setCell_other _ _ _ _ (by intro e; exact absurd (congrArg Addr.off e) (show (1 : Nat) ≠ 0 by decide))).trans h
/-- A voice's cells in a box. -/
def C5 (W : World) (b : Nat) (p c l n : Int) (h : Bool) : Prop := W.cell? ⟨b, 0, none⟩ = some (.int .u16 p) ∧ W.cell? ⟨b, 1, none⟩ = some (.int .u16 c) ∧ W.cell? ⟨b, 2, none⟩ = some (.int .u8 l) ∧ W.cell? ⟨b, 3, none⟩ = some (.bool h) ∧ W.cell? ⟨b, 4, none⟩ = some (.int .u16 n)
theorem keep5 {W w1 : World} {b : Nat} {p c l n : Int} {h : Bool} (hc : W.cell? ⟨b, 0, none⟩ = some (.int .u16 p) ∧ W.cell? ⟨b, 1, none⟩ = some (.int .u16 c) ∧ W.cell? ⟨b, 2, none⟩ = some (.int .u8 l) ∧ W.cell? ⟨b, 3, none⟩ = some (.bool h) ∧ W.cell? ⟨b, 4, none⟩ = some (.int .u16 n)) (hb : Below W.heap.size W w1) :
    w1.cell? ⟨b, 0, none⟩ = some (.int .u16 p) ∧ w1.cell? ⟨b, 1, none⟩ = some (.int .u16 c) ∧ w1.cell? ⟨b, 2, none⟩ = some (.int .u8 l) ∧ w1.cell? ⟨b, 3, none⟩ = some (.bool h) ∧ w1.cell? ⟨b, 4, none⟩ = some (.int .u16 n) := by
  have hz := World.block_lt_of_cell? W _ hc.1
  exact ⟨(hb.cell (p := ⟨b, 0, none⟩) hz).trans hc.1, (hb.cell (p := ⟨b, 1, none⟩) hz).trans hc.2.1, (hb.cell (p := ⟨b, 2, none⟩) hz).trans hc.2.2.1, (hb.cell (p := ⟨b, 3, none⟩) hz).trans hc.2.2.2.1, (hb.cell (p := ⟨b, 4, none⟩) hz).trans hc.2.2.2.2⟩
/-- A voice, and its result's box. -/
structure V2 (w : World) (p c l n : Int) (h : Bool) (W : World) : Prop where
  low : Below w.heap.size w W
  v : Bx W w.heap.size (vL p c l h n)
  r : Bx W (w.heap.size + 1) (vL 0 0 0 false 0)
theorem V2.start (w : World) (p c l n : Int) (h : Bool) (q : Nat) : V2 w p c l n h (((w.alloc (.cells (vL p c l h n).toArray 33)).alloc (.cells (vL 0 0 0 false 0).toArray 33)).drewN q) := by
  have h0 : V2 w p c l n h ((w.alloc (.cells (vL p c l h n).toArray 33)).alloc (.cells (vL 0 0 0 false 0).toArray 33)) := ⟨stA (stA (st0 w) _) _, (Bx.new w (vL p c l h n) _ rfl).over _, Bx.new _ (vL 0 0 0 false 0) _ (by simp)⟩
  have hd := Bl.drewN (Below.refl ((w.alloc (.cells (vL p c l h n).toArray 33)).alloc (.cells (vL 0 0 0 false 0).toArray 33)).heap.size ((w.alloc (.cells (vL p c l h n).toArray 33)).alloc (.cells (vL 0 0 0 false 0).toArray 33))) q
  exact ⟨stp h0.low hd, h0.v.kept hd, h0.r.kept hd⟩
end Go.Proofs.Ythooknikfachnaa
