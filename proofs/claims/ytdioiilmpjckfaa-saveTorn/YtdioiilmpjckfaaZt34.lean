/-
  For every two machines, every number and every byte the law SaveTorn of the program returns true and leaves its arguments as they were; no condition.
-/
import Derived.Test.YtdioiilmpjckfaaZt00
import Derived.Test.YtdioiilmpjckfaaZt31
import Derived.Test.YtdioiilmpjckfaaZt33
namespace Go.Proofs.Ytdioiilmpjckfaa
open Go.ChangeShapes Go.WideShapes Go.ChangeAt Go.RowKit
set_option linter.unusedVariables false
set_option maxRecDepth 100000
theorem saveTorn_walk : SaveTornWalk := by
  intro H enc W base v0 v1 v2 v3 d0 d1 d2 d3 p0 p1 p2 p3 k0 t0 k1 t1 k2 t2 k3 t3
  obtain ⟨M, S, rfl, hok, hs, hz⟩ := open_mach k0 t0
  obtain ⟨N, S', rfl, hok', hs', hz'⟩ := open_mach k1 t1
  obtain ⟨a, rfl, _, _, wa⟩ := open_int Try.underlying3 k2 t2
  obtain ⟨b, rfl, _, _, wb⟩ := open_int Try.underlying5 k3 t3
  have hb := bounds_u8 wb
  by_cases hc : M.chk = 0
  · obtain ⟨n, rfl⟩ := Int.eq_ofNat_of_zero_le hb.1
    have e : ((UInt8.ofNat n).toNat : Int) = n := by simp; omega
    have key := fun x hx => Sv.torn_ok M N S S' a (UInt8.ofNat n) W hs hs' hok hc (bounds_i64 wa) x hx
    rw [e] at key
    by_cases hn : N.chk = 0
    · exact key 0 (Or.inr ⟨rfl, hok', hn⟩)
    · refine key N.chk (Or.inl ⟨?_, fun V h => Sv.bytes_bad N S' V h hz' hn⟩)
      rcases chk_four N with h | h | h | h
      · exact absurd h hn
      · exact Or.inl h
      · exact Or.inr (Or.inl h)
      · exact Or.inr (Or.inr h)
  · exact Sv.torn_bad M N S S' a b W hs hs' hok' hz hz' hc
theorem saveTorn_holds : Rows.SaveTornSaid := saveTorn_row saveTorn_walk
end Go.Proofs.Ytdioiilmpjckfaa
