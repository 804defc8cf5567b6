/-
  What ToneSilent holds.
-/
import Derived.Test.YtjmmbbehjklhgaaTonS
import Derived.Test.YtjmmbbehjklhgaaTonU
namespace Go.Proofs.Ytjmmbbehjklhgaa
open Go.ChangeShapes Go.WideShapes Go.ChangeAt Go.RowKit
set_option linter.unusedVariables false

def mu (v : Vc) : Vc := ⟨v.p, v.c, bits .and .u8 v.l 240, v.h, v.n⟩
set_option maxRecDepth 100000 in
theorem and240k : ∀ Y : Fin 256, Y.val &&& 240 = Y.val - Y.val % 16 := by decide
theorem and240 (l : Int) (h : 0 ≤ l ∧ l ≤ 255) : bits .and .u8 l 240 = l - l % 16 := by
  obtain ⟨X, hX⟩ := Int.eq_ofNat_of_zero_le h.1
  subst hX
  rw [show (240 : Int) = ((240 : Nat) : Int) from rfl, u8_and_nat _ _ (by omega) (by omega)]
  have := and240k ⟨X, by omega⟩
  simp only at this
  rw [this]; omega
theorem mu_ok {v : Vc} (h : v.ok) : (mu v).ok ∧ (mu v).l % 16 = 0 := by
  have e := and240 v.l h.l
  have hl := h.l
  refine ⟨⟨h.p, h.c, ?_, h.n⟩, ?_⟩
  · show 0 ≤ bits .and .u8 v.l 240 ∧ bits .and .u8 v.l 240 ≤ 255
    rw [e]; omega
  · show bits .and .u8 v.l 240 % 16 = 0
    rw [e]; omega
structure SiW (w : World) (x : Sd) (W : World) : Prop where
  low : Below w.heap.size w W
  b : Bx W w.heap.size (scs x)
section
variable {w W w1 : World} {x : Sd}
theorem SiW.kept (h : SiW w x W) (hb : Below W.heap.size W w1) : SiW w x w1 := ⟨stp h.low hb, h.b.kept hb⟩
theorem SiW.mu0 (h : SiW w x W) : SiW w ⟨mu x.a, x.b, x.c, x.w⟩ (W.setCell ⟨w.heap.size, 2, none⟩ (.int .u8 (bits .and .u8 x.a.l 240))) := ⟨Bl.set h.low (Nat.le_refl _) _, h.b.set 2 _ (by simp)⟩
theorem SiW.mu1 (h : SiW w x W) : SiW w ⟨x.a, mu x.b, x.c, x.w⟩ (W.setCell ⟨w.heap.size, 7, none⟩ (.int .u8 (bits .and .u8 x.b.l 240))) := ⟨Bl.set h.low (Nat.le_refl _) _, h.b.set 7 _ (by simp)⟩
theorem SiW.mu2 (h : SiW w x W) : SiW w ⟨x.a, x.b, mu x.c, x.w⟩ (W.setCell ⟨w.heap.size, 12, none⟩ (.int .u8 (bits .and .u8 x.c.l 240))) := ⟨Bl.set h.low (Nat.le_refl _) _, h.b.set 12 _ (by simp)⟩
end
end Go.Proofs.Ytjmmbbehjklhgaa
