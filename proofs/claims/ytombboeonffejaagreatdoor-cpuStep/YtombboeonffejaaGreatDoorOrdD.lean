/-
  What package order's Words and Read answer, for any order and any words; nothing old is written.
-/
import Derived.Test.YtombboeonffejaaGreatDoorOrdC
namespace Go.Proofs.YtombboeonffejaaGreatDoor
open Go.ChangeShapes Go.WideShapes Go.ChangeAt Go.RowKit
/-- Block g of w holds these words. -/
def wordsAt (w : World) (g : Nat) (l : List Int) : Prop := ∀ i, i < l.length → w.cell? ⟨g, i, none⟩ = some (.int .u16 (l.getD i 0))
theorem first_bits (k d s n : Int) (h1 : 0 ≤ k ∧ k ≤ 31) (h2 : 0 ≤ d ∧ d ≤ 7) (h3 : 0 ≤ s ∧ s ≤ 7) (h4 : -16 ≤ n ∧ n ≤ 15) :
    bits .or .u16 (bits .or .u16 (bits .or .u16 (k * 2048) (d * 256)) (s * 32)) (bits .and .u16 (IntKind.u16.wrap n) 31) = O.first k d s n := by
  rw [O.low5 n h4, O.first_of k d s _ h1 h2 h3 (by omega)]; rfl
end Go.Proofs.YtombboeonffejaaGreatDoor
