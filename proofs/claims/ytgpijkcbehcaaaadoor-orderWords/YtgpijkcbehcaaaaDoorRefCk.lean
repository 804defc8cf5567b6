/-
  What the reference's CheckOrder answers, for any order: what package order's Check does; nothing old is written.
-/
import Derived.Test.YtgpijkcbehcaaaaDoorRefC1
import Derived.Test.YtgpijkcbehcaaaaDoorRefC2
import Derived.Test.YtgpijkcbehcaaaaDoorRefC3
namespace Go.Proofs.YtgpijkcbehcaaaaDoor
open Go.ChangeShapes Go.WideShapes Go.ChangeAt Go.RowKit
set_option linter.unusedVariables false

theorem ckr_yes (k : Nat) (hk : k < 32) (h30 : k ≠ 30) (d s n ww : Int) (w : World) (hF : Facts w) :
    Calls Tryd.prog 11 #[.agg #[.int .i64 k, .int .i64 d, .int .i64 s, .int .i64 n, .int .i64 ww]] w fun e w' => e = .returned (.int .i64 (O.ck k d s n ww)) ∧ Below w.heap.size w w' := by
  rcases sh_cases k hk with ⟨e1, hl⟩ | ⟨e1, e2, hl⟩ | ⟨e1, e2, hl⟩
  · exact ckr_k1 k hk h30 e1 hl d s n ww w hF
  · exact ckr_k2 k hk h30 e1 e2 hl d s n ww w hF
  · exact ckr_k3 k hk h30 e1 e2 hl d s n ww w hF
theorem ckr_any (op d s n ww : Int) (w : World) (hF : Facts w) :
    Calls Tryd.prog 11 #[.agg #[.int .i64 op, .int .i64 d, .int .i64 s, .int .i64 n, .int .i64 ww]] w fun e w' => e = .returned (.int .i64 (O.ck op d s n ww)) ∧ Below w.heap.size w w' := by
  cases h : O.isOp op
  · refine (ckr_no op d s n ww h w).mono fun e w' hh => ⟨hh.1.trans ?_, hh.2⟩
    unfold O.ck; rw [h]; rfl
  · obtain ⟨h1, h2, h3⟩ := (O.isOp_iff op).1 h
    obtain ⟨k, rfl⟩ := Int.eq_ofNat_of_zero_le h1
    exact ckr_yes k (by omega) (by omega) d s n ww w hF
end Go.Proofs.YtgpijkcbehcaaaaDoor
