/-
  For every memory of bytes and every line the law PictureLine of the program returns true and leaves its arguments as they were; no condition.
-/
import Derived.Test.YtcdemkafbphdbaaPictureLineFrame
import Derived.Test.YtcdemkafbphdbaaPictureLineWalk
import Derived.Test.YtcdemkafbphdbaaPicJ
namespace Go.Proofs.Ytcdemkafbphdbaa
open Go.ChangeShapes Go.WideShapes Go.ChangeAt Go.RowKit
set_option linter.unusedVariables false

theorem pictureLine_walk : PictureLineWalk := by
  intro H enc W base v0 v1 d0 d1 p0 p1 k0 t0 k1 t1
  obtain ⟨m, hm⟩ := open_bytes Try.underlying22 k0 t0
  obtain ⟨y, rfl, _, _, wy⟩ := open_int Try.underlying3 k1 t1
  by_cases hl : m.length = 256
  · by_cases hy : 0 ≤ y ∧ y < 8
    · obtain ⟨Y, rfl⟩ := Int.eq_ofNat_of_zero_le hy.1
      exact line_good m v0 Y W hm hl (by omega)
    · exact line_range m v0 y W hm hl hy
  · exact line_form v0 m y W hm hl
theorem pictureLine_holds : Rows.PictureLineSaid := pictureLine_row pictureLine_walk
end Go.Proofs.Ytcdemkafbphdbaa
