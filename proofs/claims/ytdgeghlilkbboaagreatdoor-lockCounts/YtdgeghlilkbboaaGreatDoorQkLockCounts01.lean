/-
  For every machine, anything that is pressed and every number the law LockCounts of the program returns true and leaves its arguments as they were; the listed library variables are as the tied card says.
-/
import Derived.Test.YtdgeghlilkbboaaGreatDoorQkLockCounts00
namespace Go.Proofs.YtdgeghlilkbboaaGreatDoor
open Go.ChangeShapes Go.WideShapes Go.ChangeAt Go.RowKit
set_option linter.unusedVariables false
set_option maxRecDepth 100000
theorem lockCounts_walk : LockCountsWalk := by
  intro H enc W base v0 v1 v2 d0 d1 d2 p0 p1 p2 hF k0 t0 k1 t1 k2 t2
  obtain ⟨M, S, rfl, hok, hs, hz⟩ := open_mach k0 t0
  obtain ⟨l, hin, hll, hlf⟩ := open_inputs k1 t1
  obtain ⟨n, rfl, _, _, wn⟩ := open_int Tryz.underlying3 k2 t2
  have hn := bounds_i64 wn
  by_cases hr : runErr M l n = 0
  · unfold runErr at hr
    split at hr
    · rename_i hc
      have hfit := chk_fit hok hc
      have hf2 : M.b.f ≤ 20000 := chk_frame hc
      split at hr
      · rename_i hci
        split at hr
        · rename_i h3
          obtain ⟨n0, n1, n2⟩ := h3
          obtain ⟨k, rfl⟩ := Int.eq_ofNat_of_zero_le n0
          by_cases hlg : 19000 < M.b.f
          · exact Lk.counts_long M S v1 l k W hF hs hin (fun x hx => (hlf x hx).d) hfit hf2 hci ⟨by omega, n2⟩ hlg
          · exact Lk.counts_ok M S v1 l k W hF hs hin (fun x hx => (hlf x hx).d) hfit hf2 hci ⟨by omega, n2⟩ hlg
        · cases hr
      · rename_i h2
        exact absurd hr h2
    · rename_i h2
      exact absurd hr h2
  · exact Lk.counts_bad M S v1 l n W hF hs hok hz hin hn hr
theorem lockCounts_holds : Rows.LockCountsCardSaid := lockCounts_card lockCounts_walk
end Go.Proofs.YtdgeghlilkbboaaGreatDoor
