/-
  For every machine and any bytes the law SaveBytes of the program returns true and leaves its arguments as they were; no condition.
-/
import Derived.Test.YtlibaekomndmoaaSb00
import Derived.Test.YtlibaekomndmoaaSb35
import Derived.Test.YtlibaekomndmoaaSb37
namespace Go.Proofs.Ytlibaekomndmoaa
open Go.ChangeShapes Go.WideShapes Go.ChangeAt Go.RowKit
set_option linter.unusedVariables false
set_option maxRecDepth 100000
theorem saveBytes_walk : SaveBytesWalk := by
  intro H enc W base v0 v1 d0 d1 p0 p1 k0 t0 k1 t1
  obtain ⟨M, S, rfl, hok, hs, hz⟩ := open_mach k0 t0
  obtain ⟨a1, n1, c1, rfl⟩ := okWide_slice (t := 26) Try.underlying26 k1
  obtain ⟨f1, hf1⟩ := t1
  obtain ⟨l, hv, hl⟩ := opn_bytes (v := .slice a1 n1 c1) hf1
  unfold maxLen at hl
  by_cases hc : M.chk = 0
  · rcases Sv.of_any (.slice a1 n1 c1) l (by omega) with ⟨X, hx1, hx2, hx3⟩ | hof
    · exact Sv.law_ok_ok M S _ l W hs hz hv hok hc X hx1 hx2 hx3
    · exact Sv.law_ok_no M S _ l W hs hz hv hok hc hof
  · rcases Sv.of_any (.slice a1 n1 c1) l (by omega) with ⟨X, hx1, hx2, hx3⟩ | hof
    · exact Sv.law_bad_ok M S _ l W hs hz hv hc X hx1 hx2 hx3
    · exact Sv.law_bad_no M S _ l W hs hz hv hc hof
theorem saveBytes_holds : Rows.SaveBytesSaid := saveBytes_row saveBytes_walk
end Go.Proofs.Ytlibaekomndmoaa
