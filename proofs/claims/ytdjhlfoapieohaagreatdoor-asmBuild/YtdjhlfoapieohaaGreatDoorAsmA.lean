/-
  What package asm's small functions answer: isDigit, register.
-/
import Derived.Test.YtdjhlfoapieohaaGreatDoorRows
import Derived.Test.YtdjhlfoapieohaaGreatDoorAsmQ
import Derived.Test.YtdjhlfoapieohaaGreatDoorOrdA
import Derived.WalkKit
import Derived.ProofKit
import Derived.OpenShut
import Derived.WalkSpells
import Derived.Outline
namespace Go.Proofs.YtdjhlfoapieohaaGreatDoor
open Go.ChangeShapes Go.WideShapes Go.ChangeAt Go.RowKit
set_option linter.unusedVariables false

theorem isDigit_any (c : UInt8) (w : World) : Calls Tryz.prog 22 #[.int .u8 c.toNat] w fun e w' => e = .returned (.bool (S.isDigit c)) ∧ w' = w := by
  by_cases h1 : 48 ≤ c.toNat
  · have h1' : (48 : Int) ≤ c.toNat := by omega
    by_cases h2 : c.toNat ≤ 57
    · have h2' : (c.toNat : Int) ≤ 57 := by omega
      have e : S.isDigit c = true := by unfold S.isDigit; rw [decide_eq_true h1, decide_eq_true h2]; rfl
      rw [e]
      clear e h1 h2
      go_enter Tryz.func22, Tryz.ntmps22
      go_wp2
      go_ret
      exact ⟨rfl, rfl⟩
    · have h2' : ¬ (c.toNat : Int) ≤ 57 := by omega
      have e : S.isDigit c = false := by unfold S.isDigit; rw [decide_eq_false h2]; simp
      rw [e]
      clear e h1 h2
      go_enter Tryz.func22, Tryz.ntmps22
      go_wp2
      go_ret
      exact ⟨rfl, rfl⟩
  · have h1' : ¬ (48 : Int) ≤ c.toNat := by omega
    have e : S.isDigit c = false := by unfold S.isDigit; rw [decide_eq_false h1]; simp
    rw [e]
    clear e h1
    go_enter Tryz.func22, Tryz.ntmps22
    go_wp2
    go_ret
    exact ⟨rfl, rfl⟩
theorem reg_two (s : ByteArray) (c : UInt8) (hs : s.size = 2) (h0 : ∀ h, s[0]'h = 114) (h1 : ∀ h, s[1]'h = c) (hc : 48 ≤ c.toNat) (hc' : c.toNat ≤ 55) (w : World) :
    Calls Tryz.prog 23 #[.string s] w fun e w' => e = .returned (.tuple #[.int .i64 ((c.toNat : Int) - 48), .bool true]) ∧ w' = w := by
  have g1 : ¬ (c.toNat : Int) < 48 := by omega
  have g2 : ¬ (55 : Int) < c.toNat := by omega
  go_enter Tryz.func23, Tryz.ntmps23
  go_wp2
  go_ret2
  exact ⟨rfl, rfl⟩
theorem reg_len (s : ByteArray) (hs : ¬ (s.size : Int) = 2) (w : World) :
    Calls Tryz.prog 23 #[.string s] w fun e w' => e = .returned (.tuple #[.int .i64 0, .bool false]) ∧ w' = w := by
  have hs' : ((s.size : Int) == 2) = false := by simpa using hs
  go_enter Tryz.func23, Tryz.ntmps23
  go_wp2
  go_ret2
  exact ⟨rfl, rfl⟩
theorem reg_r (s : ByteArray) (a : UInt8) (hs : s.size = 2) (h0 : ∀ h, s[0]'h = a) (ha : ¬ (a.toNat : Int) = 114) (w : World) :
    Calls Tryz.prog 23 #[.string s] w fun e w' => e = .returned (.tuple #[.int .i64 0, .bool false]) ∧ w' = w := by
  go_enter Tryz.func23, Tryz.ntmps23
  go_wp2
  go_ret2
  exact ⟨rfl, rfl⟩
theorem reg_lo (s : ByteArray) (c : UInt8) (hs : s.size = 2) (h0 : ∀ h, s[0]'h = 114) (h1 : ∀ h, s[1]'h = c) (hc : (c.toNat : Int) < 48) (w : World) :
    Calls Tryz.prog 23 #[.string s] w fun e w' => e = .returned (.tuple #[.int .i64 0, .bool false]) ∧ w' = w := by
  go_enter Tryz.func23, Tryz.ntmps23
  go_wp2
  go_ret2
  exact ⟨rfl, rfl⟩
theorem reg_hi (s : ByteArray) (c : UInt8) (hs : s.size = 2) (h0 : ∀ h, s[0]'h = 114) (h1 : ∀ h, s[1]'h = c) (hc : ¬ (c.toNat : Int) < 48) (hc' : (55 : Int) < c.toNat) (w : World) :
    Calls Tryz.prog 23 #[.string s] w fun e w' => e = .returned (.tuple #[.int .i64 0, .bool false]) ∧ w' = w := by
  go_enter Tryz.func23, Tryz.ntmps23
  go_wp2
  go_ret2
  exact ⟨rfl, rfl⟩
/-- The bytes of a string. -/
def bs (s : ByteArray) : List UInt8 := s.data.toList
theorem bs_len (s : ByteArray) : (bs s).length = s.size := rfl
theorem bs_get (s : ByteArray) (i : Nat) (c : UInt8) (h : (bs s)[i]? = some c) : ∀ h', s[i]'h' = c := by
  intro h'
  obtain ⟨⟨l⟩⟩ := s
  have hl : i < l.length := h'
  have : l[i]? = some c := h
  rw [List.getElem?_eq_getElem hl] at this
  exact Option.some.inj this
theorem register_any (s : ByteArray) (w : World) :
    Calls Tryz.prog 23 #[.string s] w fun e w' => e = .returned (.tuple #[.int .i64 ((S.reg (bs s)).getD 0), .bool (S.reg (bs s)).isSome]) ∧ w' = w := by
  by_cases hs : s.size = 2
  · have hl := bs_len s
    rw [hs] at hl
    match hb : bs s, hl with
    | [a, c], _ =>
      have h0 := bs_get s 0 a (by rw [hb]; rfl)
      have h1 := bs_get s 1 c (by rw [hb]; rfl)
      by_cases ha : a = 114
      · subst ha
        by_cases hc : 48 ≤ c.toNat
        · by_cases hc' : c.toNat ≤ 55
          · have e : S.reg [114, c] = some ((c.toNat : Int) - 48) := by simp [S.reg, hc, hc']
            rw [e]
            exact reg_two s c hs h0 h1 hc hc' w
          · have e : S.reg [114, c] = none := by simp [S.reg]; omega
            rw [e]
            exact reg_hi s c hs h0 h1 (by omega) (by omega) w
        · have e : S.reg [114, c] = none := by simp [S.reg]; omega
          rw [e]
          exact reg_lo s c hs h0 h1 (by omega) w
      · have e : S.reg [a, c] = none := by simp [S.reg, ha]
        have ha' : ¬ (a.toNat : Int) = 114 := by
          intro h
          exact ha (UInt8.toNat_inj.1 (by rw [show (114 : UInt8).toNat = 114 from rfl]; omega))
        rw [e]
        exact reg_r s a hs h0 ha' w
  · have hl := bs_len s
    have e : S.reg (bs s) = none := by
      unfold S.reg
      split
      · rename_i h; rw [h] at hl; exact absurd hl.symm hs
      · rfl
    rw [e]
    exact reg_len s (by omega) w
end Go.Proofs.YtdjhlfoapieohaaGreatDoor
