/-
  For every memory of bytes and every line the law PictureBehind of the program returns true and leaves its arguments as they were; no condition.
-/
import Derived.Test.YtcdemkafbphdbaaPictureBehindFrame
import Derived.Test.YtcdemkafbphdbaaPictureBehindWalk
namespace Go.Proofs.Ytcdemkafbphdbaa
open Go.ChangeShapes Go.WideShapes Go.ChangeAt Go.RowKit
set_option linter.unusedVariables false

theorem pictureBehind_walk : PictureBehindWalk := by
  intro H enc W base v0 v1 d0 d1 p0 p1 k0 t0 k1 t1
  obtain ⟨m, hm⟩ := open_bytes Try.underlying22 k0 t0
  obtain ⟨y, rfl, _, _, wy⟩ := open_int Try.underlying3 k1 t1
  by_cases h : m.length = 256 ∧ 0 ≤ y ∧ y < 8
  · obtain ⟨Y, rfl⟩ := Int.eq_ofNat_of_zero_le h.2.1
    exact behind_ok m v0 Y W hm h.1 (by omega)
  · exact behind_bad v0 m y W hm h
theorem pictureBehind_holds : Rows.PictureBehindSaid := pictureBehind_row pictureBehind_walk
end Go.Proofs.Ytcdemkafbphdbaa
