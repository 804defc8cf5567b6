/-
  For every voice, every sound and every number of clocks the law ToneRuns of the program returns true and leaves its arguments as they were; no condition.
-/
import Derived.Test.YtjmmbbehjklhgaaToneRunsFrame
import Derived.Test.YtjmmbbehjklhgaaToneRunsWalk
import Derived.Test.YtjmmbbehjklhgaaToneRunsBad2
import Derived.Test.YtjmmbbehjklhgaaToneRunsBad3
import Derived.Test.YtjmmbbehjklhgaaTonO
namespace Go.Proofs.Ytjmmbbehjklhgaa
open Go.ChangeShapes Go.WideShapes Go.ChangeAt Go.RowKit
set_option linter.unusedVariables false

theorem toneRuns_walk : ToneRunsWalk := by
  intro H enc W base v0 v1 v2 d0 d1 d2 p0 p1 p2 k0 t0 k1 t1 k2 t2
  obtain ⟨v, rfl, hv⟩ := open_voice k0 t0
  obtain ⟨s, rfl, hs, _⟩ := open_sound k1 t1
  obtain ⟨n, rfl, _, _, wn⟩ := open_int Try.underlying3 k2 t2
  have hw : (0 ≤ s.w ∧ s.w ≤ 15) ∨ s.w < 0 ∨ 15 < s.w := by omega
  have hn : n < 0 ∨ (0 ≤ n ∧ n ≤ 20000) ∨ 20000 < n := by omega
  rcases hn with hn | hn | hn
  · rcases hw with hw | hw | hw
    · exact runs_n1_ok v s n W hv hs hn hw
    · exact runs_n1_lo v s n W hv hs hn hw
    · exact runs_n1_hi v s n W hv hs hn hw
  · obtain ⟨N, rfl⟩ := Int.eq_ofNat_of_zero_le hn.1
    rcases hw with hw | hw | hw
    · exact runs_ok v s N W hv ⟨hs, hw⟩ (by omega)
    · exact runs_wait1 v s N W hv hs (by omega) hw
    · exact runs_wait2 v s N W hv hs (by omega) hw
  · rcases hw with hw | hw | hw
    · exact runs_n2_ok v s n W hv hs hn hw
    · exact runs_n2_lo v s n W hv hs hn hw
    · exact runs_n2_hi v s n W hv hs hn hw
theorem toneRuns_holds : Rows.ToneRunsSaid := toneRuns_row toneRuns_walk
end Go.Proofs.Ytjmmbbehjklhgaa
