/-
  For every memory of bytes, every line and every byte the law PictureMoves of the program returns true and leaves its arguments as they were; no condition.
-/
import Derived.Test.YtcdemkafbphdbaaPictureMovesFrame
import Derived.Test.YtcdemkafbphdbaaPictureMovesWalk
namespace Go.Proofs.Ytcdemkafbphdbaa
open Go.ChangeShapes Go.WideShapes Go.ChangeAt Go.RowKit
set_option linter.unusedVariables false

theorem pictureMoves_walk : PictureMovesWalk := by
  intro H enc W base v0 v1 v2 d0 d1 d2 p0 p1 p2 k0 t0 k1 t1 k2 t2
  obtain ⟨m, hm⟩ := open_bytes Try.underlying22 k0 t0
  obtain ⟨y, rfl, _, _, wy⟩ := open_int Try.underlying3 k1 t1
  obtain ⟨n, rfl, _, _, wn⟩ := open_int Try.underlying5 k2 t2
  by_cases h : m.length = 256 ∧ 0 ≤ y ∧ y < 8
  · obtain ⟨Y, rfl⟩ := Int.eq_ofNat_of_zero_le h.2.1
    have hn := bounds_u8 wn
    obtain ⟨N, rfl⟩ := Int.eq_ofNat_of_zero_le hn.1
    exact moves_ok m v0 Y N W hm h.1 (by omega) (by omega)
  · exact moves_bad v0 m y n W hm h
theorem pictureMoves_holds : Rows.PictureMovesSaid := pictureMoves_row pictureMoves_walk
end Go.Proofs.Ytcdemkafbphdbaa
