/-
  What the boxes of TimerRuns hold while it runs.
-/
import Derived.Test.YtdbigihmggpklaaTimE
namespace Go.Proofs.Ytdbigihmggpklaa
open Go.ChangeShapes Go.WideShapes Go.ChangeAt Go.RowKit
set_option linter.unusedVariables false

/-- What holds between two of the reference's ticks: the timer's box, and the answer's. -/
structure RunsW (w : World) (bx : Nat) (r c n : Int) (on g : Bool) (k : Nat) (W : World) : Prop where
  low : Below w.heap.size w W
  t : Tat W w.heap.size r (rnC r c on k) on (rnG c on g k)
  x : Tat W bx r (rnC r c on n) on (rnG c on g n)
  ne : w.heap.size < bx
theorem RunsW.kept {w W w1 : World} {bx : Nat} {r c n : Int} {on g : Bool} {k : Nat} (h : RunsW w bx r c n on g k W) (hb : Below W.heap.size W w1) : RunsW w bx r c n on g k w1 :=
  ⟨stp h.low hb, h.t.kept hb, h.x.kept hb, h.ne⟩
theorem RunsW.next {w W w1 : World} {bx : Nat} {r c n : Int} {on g : Bool} {k : Nat} (h : RunsW w bx r c n on g k W) (hb : Below W.heap.size W w1) (h1 : tkC r (rnC r c on k) on = rnC r c on (k + 1)) (h2 : tkG (rnC r c on k) on (rnG c on g k) = rnG c on g (k + 1)) :
    RunsW w bx r c n on g (k + 1) ((((w1.setCell ⟨w.heap.size, 0, none⟩ (.int .u16 r)).setCell ⟨w.heap.size, 1, none⟩ (.int .u16 (tkC r (rnC r c on k) on))).setCell ⟨w.heap.size, 2, none⟩ (.bool on)).setCell ⟨w.heap.size, 3, none⟩ (.bool (tkG (rnC r c on k) on (rnG c on g k)))) := by
  rw [h1, h2]
  have ht := h.t.kept hb
  exact ⟨ht.below (stp h.low hb) (Nat.le_refl _) _ _ _ _, ht.puts _ _ _ _, (h.x.kept hb).far4 (Nat.ne_of_lt h.ne) _ _ _ _, h.ne⟩
/-- What TimerRuns' boxes hold while it compares. -/
structure RunsK (w : World) (bx : Nat) (r rx c cx : Int) (on ox g gx : Bool) (W : World) : Prop where
  low : Below w.heap.size w W
  t : Tat W w.heap.size r c on g
  x : Tat W bx rx cx ox gx
theorem RunsK.all {w W : World} {bx : Nat} {r rx c cx : Int} {on ox g gx : Bool} (h : RunsK w bx r rx c cx on ox g gx W) : W.cell? ⟨w.heap.size, 0, none⟩ = some (.int .u16 r) ∧ W.cell? ⟨w.heap.size, 1, none⟩ = some (.int .u16 c) ∧ W.cell? ⟨w.heap.size, 2, none⟩ = some (.bool on) ∧ W.cell? ⟨w.heap.size, 3, none⟩ = some (.bool g) ∧ RunsK w bx r rx c cx on ox g gx W :=
  ⟨h.t.c0, h.t.c1, h.t.c2, h.t.c3, h⟩
theorem runs_keep {w W w1 : World} {bx : Nat} {r rx c cx : Int} {on ox g gx : Bool} (h : W.cell? ⟨w.heap.size, 0, none⟩ = some (.int .u16 r) ∧ W.cell? ⟨w.heap.size, 1, none⟩ = some (.int .u16 c) ∧ W.cell? ⟨w.heap.size, 2, none⟩ = some (.bool on) ∧ W.cell? ⟨w.heap.size, 3, none⟩ = some (.bool g) ∧ RunsK w bx r rx c cx on ox g gx W) (hb : Below W.heap.size W w1) : w1.cell? ⟨w.heap.size, 0, none⟩ = some (.int .u16 r) ∧ w1.cell? ⟨w.heap.size, 1, none⟩ = some (.int .u16 c) ∧ w1.cell? ⟨w.heap.size, 2, none⟩ = some (.bool on) ∧ w1.cell? ⟨w.heap.size, 3, none⟩ = some (.bool g) ∧ RunsK w bx r rx c cx on ox g gx w1 := by
  obtain ⟨_, _, _, _, h⟩ := h
  exact RunsK.all ⟨stp h.low hb, h.t.kept hb, h.x.kept hb⟩
theorem RunsK.drew {w W : World} {bx : Nat} {r rx c cx : Int} {on ox g gx : Bool} (h : RunsK w bx r rx c cx on ox g gx W) : RunsK w bx r rx c cx on ox g gx W.drew :=
  ⟨h.low.drew, ⟨h.t.z, h.t.c0, h.t.c1, h.t.c2, h.t.c3, h.t.f⟩, ⟨h.x.z, h.x.c0, h.x.c1, h.x.c2, h.x.c3, h.x.f⟩⟩
/-- And what is wanted beside them. -/
structure RunsY (w : World) (bx by_ : Nat) (r rx c cx cy : Int) (on ox oy g gx : Bool) (W : World) : Prop where
  low : Below w.heap.size w W
  t : Tat W w.heap.size r c on g
  x : Tat W bx rx cx ox gx
  y : Tat W by_ r cy oy g
theorem RunsY.all {w W : World} {bx by_ : Nat} {r rx c cx cy : Int} {on ox oy g gx : Bool} (h : RunsY w bx by_ r rx c cx cy on ox oy g gx W) : W.cell? ⟨w.heap.size, 0, none⟩ = some (.int .u16 r) ∧ W.cell? ⟨w.heap.size, 1, none⟩ = some (.int .u16 c) ∧ W.cell? ⟨w.heap.size, 2, none⟩ = some (.bool on) ∧ W.cell? ⟨w.heap.size, 3, none⟩ = some (.bool g) ∧ W.cell? ⟨by_, 0, none⟩ = some (.int .u16 r) ∧ W.cell? ⟨by_, 1, none⟩ = some (.int .u16 cy) ∧ W.cell? ⟨by_, 2, none⟩ = some (.bool oy) ∧ W.cell? ⟨by_, 3, none⟩ = some (.bool g) ∧ RunsY w bx by_ r rx c cx cy on ox oy g gx W :=
  ⟨h.t.c0, h.t.c1, h.t.c2, h.t.c3, h.y.c0, h.y.c1, h.y.c2, h.y.c3, h⟩
theorem runsY_keep {w W w1 : World} {bx by_ : Nat} {r rx c cx cy : Int} {on ox oy g gx : Bool} (h : W.cell? ⟨w.heap.size, 0, none⟩ = some (.int .u16 r) ∧ W.cell? ⟨w.heap.size, 1, none⟩ = some (.int .u16 c) ∧ W.cell? ⟨w.heap.size, 2, none⟩ = some (.bool on) ∧ W.cell? ⟨w.heap.size, 3, none⟩ = some (.bool g) ∧ W.cell? ⟨by_, 0, none⟩ = some (.int .u16 r) ∧ W.cell? ⟨by_, 1, none⟩ = some (.int .u16 cy) ∧ W.cell? ⟨by_, 2, none⟩ = some (.bool oy) ∧ W.cell? ⟨by_, 3, none⟩ = some (.bool g) ∧ RunsY w bx by_ r rx c cx cy on ox oy g gx W) (hb : Below W.heap.size W w1) : w1.cell? ⟨w.heap.size, 0, none⟩ = some (.int .u16 r) ∧ w1.cell? ⟨w.heap.size, 1, none⟩ = some (.int .u16 c) ∧ w1.cell? ⟨w.heap.size, 2, none⟩ = some (.bool on) ∧ w1.cell? ⟨w.heap.size, 3, none⟩ = some (.bool g) ∧ w1.cell? ⟨by_, 0, none⟩ = some (.int .u16 r) ∧ w1.cell? ⟨by_, 1, none⟩ = some (.int .u16 cy) ∧ w1.cell? ⟨by_, 2, none⟩ = some (.bool oy) ∧ w1.cell? ⟨by_, 3, none⟩ = some (.bool g) ∧ RunsY w bx by_ r rx c cx cy on ox oy g gx w1 := by
  obtain ⟨_, _, _, _, _, _, _, _, h⟩ := h
  exact RunsY.all ⟨stp h.low hb, h.t.kept hb, h.x.kept hb, h.y.kept hb⟩
theorem RunsY.drew {w W : World} {bx by_ : Nat} {r rx c cx cy : Int} {on ox oy g gx : Bool} (h : RunsY w bx by_ r rx c cx cy on ox oy g gx W) : RunsY w bx by_ r rx c cx cy on ox oy g gx W.drew :=
  ⟨h.low.drew, ⟨h.t.z, h.t.c0, h.t.c1, h.t.c2, h.t.c3, h.t.f⟩, ⟨h.x.z, h.x.c0, h.x.c1, h.x.c2, h.x.c3, h.x.f⟩, ⟨h.y.z, h.y.c0, h.y.c1, h.y.c2, h.y.c3, h.y.f⟩⟩
theorem set_off (r c : Int) (o0 g : Bool) (w : World) :
    Calls Try.prog 10 #[.agg #[.int .u16 r, .int .u16 c, .bool o0, .bool g], .bool false] w fun e w' => e = .returned (.agg #[.int .u16 r, .int .u16 c, .bool false, .bool g]) ∧ Below w.heap.size w w' := set_any r c o0 false g w
theorem set_on (r c : Int) (o0 g : Bool) (w : World) :
    Calls Try.prog 10 #[.agg #[.int .u16 r, .int .u16 c, .bool o0, .bool g], .bool true] w fun e w' => e = .returned (.agg #[.int .u16 r, .int .u16 r, .bool true, .bool g]) ∧ Below w.heap.size w w' := set_any r c o0 true g w
theorem next_off (r c : Int) (g : Bool) (w : World) (hc : 0 ≤ c ∧ c ≤ 65535) :
    Calls Try.prog 11 #[.agg #[.int .u16 r, .int .u16 c, .bool false, .bool g]] w fun e w' => e = .returned (.int .i64 0) ∧ Below w.heap.size w w' := next_any r c false g w hc
end Go.Proofs.Ytdbigihmggpklaa
