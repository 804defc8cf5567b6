/-
  The Go text of the law WordTurns returns true for any two words.
-/
import Derived.Test.YtlajhoffgjepmahWordA
namespace Go.Proofs.Ytlajhoffgjepmah
open Go.ChangeShapes Go.WideShapes Go.ChangeAt Go.RowKit
set_option linter.unusedVariables false

theorem M.addN_comm (a b : Int) : M.addN a b = M.addN b a := by unfold M.addN; rw [Int.add_comm]
theorem M.addC_comm (a b : Int) : M.addC a b = M.addC b a := by unfold M.addC; rw [Int.add_comm]
theorem M.addV_comm (a b : Int) : M.addV a b = M.addV b a := by unfold M.addV; rw [Int.add_comm]
theorem M.mulN_comm (a b : Int) : M.mulN a b = M.mulN b a := by unfold M.mulN; rw [Int.mul_comm]
theorem M.mulC_comm (a b : Int) : M.mulC a b = M.mulC b a := by unfold M.mulC; rw [Int.mul_comm]
theorem M.sub_lacks (a b : Int) : M.subN a b = M.addN a (M.subN 0 b) := by unfold M.subN M.addN; omega

theorem turns_walk (a b : Int) (w : World) (ha : 0 ≤ a) (ha' : a ≤ 65535) (hb : 0 ≤ b) (hb' : b ≤ 65535) :
    Calls Try.prog 3 #[.int .u16 a, .int .u16 b] w fun e w' => e = .returned (.bool true) ∧ Grown w w' := by
  obtain ⟨hs, hs'⟩ := M.subN_bd 0 b
  have e1 : (M.addN a b == M.addN b a) = true := by rw [M.addN_comm]; simp
  have e2 : (M.addC a b == M.addC b a) = true := by rw [M.addC_comm]; simp
  have e3 : (M.addV a b == M.addV b a) = true := by rw [M.addV_comm]; simp
  have e4 : (M.subN a b == M.addN a (M.subN 0 b)) = true := by rw [M.sub_lacks]; simp
  have e5 : (M.mulN a b == M.mulN b a) = true := by rw [M.mulN_comm]; simp
  have e6 : (M.mulC a b == M.mulC b a) = true := by rw [M.mulC_comm]; simp
  go_enter Try.func3, Try.ntmps3
  go_wp2_with (first
    | (go_at_call 4; refine (add_any _ _ _ (by omega) (by omega) (by omega) (by omega)).mono ?_; rintro e w' ⟨rfl, rfl⟩)
    | (go_at_call 5; refine (sub_any _ _ _ (by omega) (by omega) (by omega) (by omega)).mono ?_; rintro e w' ⟨rfl, rfl⟩)
    | (go_at_call 6; refine (mul_any _ _ _ (by omega) (by omega) (by omega) (by omega)).mono ?_; rintro e w' ⟨rfl, rfl⟩)
    | (go_at_call 7; refine (reckoned_any _).mono ?_; rintro e w' ⟨rfl, rfl⟩))
  go_ret
  exact ⟨rfl, Grown.refl _⟩
end Go.Proofs.Ytlajhoffgjepmah
