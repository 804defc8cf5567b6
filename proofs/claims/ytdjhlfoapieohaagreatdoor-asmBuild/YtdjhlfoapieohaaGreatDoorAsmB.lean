/-
  What package asm's Name answers, for any string.
-/
import Derived.Test.YtdjhlfoapieohaaGreatDoorAsmA
namespace Go.Proofs.YtdjhlfoapieohaaGreatDoor
open Go.ChangeShapes Go.WideShapes Go.ChangeAt Go.RowKit
set_option linter.unusedVariables false

theorem name_0 (s : ByteArray) (hs : s.size = 0) (w : World) : Calls Tryz.prog 7 #[.string s] w fun e w' => e = .returned (.bool false) ∧ w' = w := by
  go_enter Tryz.func7, Tryz.ntmps7
  go_wp2
  go_ret
  exact ⟨rfl, rfl⟩
theorem name_long (s : ByteArray) (hs : ¬ (s.size : Int) < 1) (hs' : 12 < (s.size : Int)) (w : World) : Calls Tryz.prog 7 #[.string s] w fun e w' => e = .returned (.bool false) ∧ w' = w := by
  go_enter Tryz.func7, Tryz.ntmps7
  go_wp2
  go_ret
  exact ⟨rfl, rfl⟩
theorem name_digit (s : ByteArray) (c : UInt8) (hs : ¬ (s.size : Int) < 1) (hs' : ¬ 12 < (s.size : Int)) (h0 : ∀ h, s[0]'h = c) (hd : S.isDigit c = true) (w : World) : Calls Tryz.prog 7 #[.string s] w fun e w' => e = .returned (.bool false) ∧ w' = w := by
  have hs0 : 0 < s.size := by omega
  go_enter Tryz.func7, Tryz.ntmps7
  go_wp2_with (go_at_call 22; refine (isDigit_any c _).mono ?_; rintro e w' ⟨rfl, rfl⟩)
  go_ret
  exact ⟨rfl, rfl⟩
/-- The first k signs may stand in a name. -/
def okN (l : List UInt8) (k : Nat) : Prop := (l.take k).all S.nameCh = true
theorem okN_step {l : List UInt8} {k : Nat} {c : UInt8} (h : okN l k) (hc : l[k]? = some c) (hn : S.nameCh c = true) : okN l (k + 1) := by
  unfold okN at h ⊢
  rw [List.take_add_one, hc]
  simp [h, hn]
theorem all_not {l : List UInt8} {k : Nat} {c : UInt8} (hc : l[k]? = some c) (hn : S.nameCh c = false) : l.all S.nameCh = false := by
  cases h : l.all S.nameCh
  · rfl
  · have := List.all_eq_true.1 h c (List.mem_of_getElem? hc)
    rw [hn] at this; cases this
set_option maxRecDepth 100000 in
set_option maxHeartbeats 1600000 in
theorem name_loop (s : ByteArray) (c : UInt8) (hs : ¬ (s.size : Int) < 1) (hs' : ¬ 12 < (s.size : Int)) (h0 : ∀ h, s[0]'h = c) (hd : S.isDigit c = false) (w : World) :
    Calls Tryz.prog 7 #[.string s] w fun e w' => e = .returned (.bool ((bs s).all S.nameCh && (S.reg (bs s)).isNone)) ∧ w' = w := by
  have hs0 : 0 < s.size := by omega
  have hl := bs_len s
  go_enter Tryz.func7, Tryz.ntmps7
  go_wp2_with (go_at_call 22; refine (isDigit_any c _).mono ?_; rintro e w' ⟨rfl, rfl⟩)
  go_loop [21] (fun i => ∃ k : Nat, k ≤ s.size ∧ i = .int .i64 k ∧ okN (bs s) k) (fun i => s.size - (intOf i).toNat)
  case atStart => exact ⟨0, by omega, rfl, rfl⟩
  case round =>
    obtain ⟨k, hk, rfl, hok⟩ := hrel
    by_cases hlt : k < s.size
    · have hlt' : (k : Int) < s.size := by omega
      obtain ⟨x, hx⟩ : ∃ x, (bs s)[k]? = some x := ⟨_, List.getElem?_eq_getElem (by omega)⟩
      have hkx := bs_get s k x hx
      cases hxd : S.isDigit x
      · by_cases h95 : x = 95
        · subst h95
          go_wp2_with (go_at_call 22; refine (isDigit_any 95 _).mono ?_; rintro e w' ⟨rfl, rfl⟩)
          go_round
          case rel => exact ⟨k + 1, by omega, by go_num, okN_step hok hx rfl⟩
          case measure => simp [intOf]; omega
        · have h95' : ¬ (x.toNat : Int) = 95 := by
            intro h
            exact h95 (UInt8.toNat_inj.1 (by rw [show (95 : UInt8).toNat = 95 from rfl]; omega))
          have h95b : (x == 95) = false := by simpa using h95
          by_cases h1 : (x.toNat : Int) < 97
          · have hn : S.nameCh x = false := by unfold S.nameCh; rw [hxd, h95b, decide_eq_false (by omega)]; rfl
            go_wp2_with (go_at_call 22; refine (isDigit_any x _).mono ?_; rintro e w' ⟨rfl, rfl⟩)
            go_ret
            rw [all_not hx hn]
            exact ⟨rfl, rfl⟩
          · by_cases h2 : 122 < (x.toNat : Int)
            · have hn : S.nameCh x = false := by unfold S.nameCh; rw [hxd, h95b, decide_eq_false (by omega : ¬ x.toNat ≤ 122)]; simp
              go_wp2_with (go_at_call 22; refine (isDigit_any x _).mono ?_; rintro e w' ⟨rfl, rfl⟩)
              go_ret
              rw [all_not hx hn]
              exact ⟨rfl, rfl⟩
            · have hn : S.nameCh x = true := by unfold S.nameCh; rw [decide_eq_true (by omega : 97 ≤ x.toNat), decide_eq_true (by omega : x.toNat ≤ 122)]; simp
              go_wp2_with (go_at_call 22; refine (isDigit_any x _).mono ?_; rintro e w' ⟨rfl, rfl⟩)
              go_round
              case rel => exact ⟨k + 1, by omega, by go_num, okN_step hok hx hn⟩
              case measure => simp [intOf]; omega
      · have hn : S.nameCh x = true := by unfold S.nameCh; rw [hxd]; rfl
        go_wp2_with (go_at_call 22; refine (isDigit_any x _).mono ?_; rintro e w' ⟨rfl, rfl⟩)
        go_round
        case rel => exact ⟨k + 1, by omega, by go_num, okN_step hok hx hn⟩
        case measure => simp [intOf]; omega
    · have hk' : k = s.size := by omega
      subst hk'
      have ha : (bs s).all S.nameCh = true := by
        unfold okN at hok
        rwa [List.take_of_length_le (by omega)] at hok
      go_wp2_with (go_at_call 23; refine (register_any s _).mono ?_; rintro e w' ⟨rfl, rfl⟩)
      go_ret
      rw [ha]
      cases S.reg (bs s) <;> exact ⟨rfl, rfl⟩
theorem asmName_any (s : ByteArray) (w : World) : Calls Tryz.prog 7 #[.string s] w fun e w' => e = .returned (.bool (S.nameOk (bs s))) ∧ w' = w := by
  have hl := bs_len s
  cases hb : bs s with
  | nil => exact name_0 s (by rw [← hl, hb]; rfl) w
  | cons c r =>
    have hsz : 0 < s.size := by rw [← hl, hb]; simp
    have h0 := bs_get s 0 c (by rw [hb]; rfl)
    unfold S.nameOk
    simp only
    rw [← hb, hl]
    by_cases h12 : s.size ≤ 12
    · rw [decide_eq_true h12]
      cases hd : S.isDigit c
      · have := name_loop s c (by omega) (by omega) h0 hd w
        simpa using this
      · have := name_digit s c (by omega) (by omega) h0 hd w
        simpa using this
    · rw [decide_eq_false h12]
      exact name_long s (by omega) (by omega) w
end Go.Proofs.YtdjhlfoapieohaaGreatDoor
