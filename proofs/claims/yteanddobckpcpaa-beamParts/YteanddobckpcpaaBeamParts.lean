/-
  For every beam and every two numbers of clocks the law BeamParts of the program returns true and leaves its arguments as they were; no condition.
-/
import Derived.Test.YteanddobckpcpaaBeamPartsFrame
import Derived.Test.YteanddobckpcpaaBeamPartsWalk
namespace Go.Proofs.Yteanddobckpcpaa
open Go.ChangeShapes Go.WideShapes Go.ChangeAt Go.RowKit
set_option linter.unusedVariables false

theorem beamParts_walk : BeamPartsWalk := by
  intro H enc W base v0 v1 v2 d0 d1 d2 p0 p1 p2 k0 t0 k1 t1 k2 t2
  obtain ⟨l, a, f, g, rfl⟩ := Bm.open_beam k0 t0
  obtain ⟨n, rfl, _, _, wn⟩ := open_int Try.underlying3 k1 t1
  obtain ⟨m, rfl, _, _, wm⟩ := open_int Try.underlying3 k2 t2
  by_cases h : BOk l a f
  · by_cases hn : 0 ≤ n ∧ n ≤ 20000
    · by_cases hm : 0 ≤ m ∧ m ≤ 20000 - n
      · by_cases hx : BOk (bmL l a n) (bmA l a n) (bmF l a f n)
        · exact Bm.parts_ok l a f n m g W h hn hm.1 hm.2 hx
        · exact Bm.parts_f l a f n m g W h hn hm.1 hm.2 hx
      · exact Bm.parts_m l a f n m g W h hn (by omega)
    · exact Bm.parts_no l a f n m g W (Or.inr ⟨h, hn⟩)
  · exact Bm.parts_no l a f n m g W (Or.inl h)
theorem beamParts_holds : Rows.BeamPartsSaid := beamParts_row beamParts_walk
end Go.Proofs.Yteanddobckpcpaa
