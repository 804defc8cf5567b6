/-
  The statements' own buttons, there and back.
-/
import Derived.Test.YtbfflipcmciapaaDoorTapT
namespace Go.Proofs.YtbfflipcmciapaaDoor
open Go.ChangeShapes Go.WideShapes Go.ChangeAt Go.RowKit
set_option linter.unusedVariables false
set_option maxRecDepth 100000

theorem Tp.take_next (d j : Nat) (h : j < 8) : (Tp.btn d).take (j + 1) = (Tp.btn d).take j ++ [Tp.bt d j] := by
  rw [List.take_add_one, Tp.btn_at d j h]
  rfl
theorem Tp.take_len (d j : Nat) (h : j ≤ 8) : (mk ((Tp.btn d).take j)).size = j := by
  show ((Tp.btn d).take j).length = j
  rw [List.length_take, Tp.btn_len]
  omega
set_option maxHeartbeats 3200000 in
theorem Tp.refButtons (d : Nat) (hd : d < 256) (w : World) : Calls Tryd.prog 12 #[.int .u8 d] w fun e w' => e = .returned (.string (mk (Tp.btn d))) ∧ Below w.heap.size w w' := by
  go_enter Tryd.func12, Tryd.ntmps12
  go_wp2
  go_loopw [3, 8] (fun s i wr => ∃ j : Nat, j ≤ 8 ∧ i = .int .i64 j ∧ s = .string (mk ((Tp.btn d).take j)) ∧ w.alloc (.cells #[.string ⟨#[117]⟩, .string ⟨#[100]⟩, .string ⟨#[108]⟩, .string ⟨#[114]⟩, .string ⟨#[97]⟩, .string ⟨#[98]⟩, .string ⟨#[115]⟩, .string ⟨#[116]⟩] 9) = wr) (fun _ i _ => 8 - (intOf i).toNat)
  case atStart => exact ⟨0, by omega, rfl, rfl, rfl⟩
  case round =>
    obtain ⟨j, hj, rfl, rfl, rfl⟩ := hrel
    by_cases hlt : j < 8
    · have hsz := Tp.take_len d j hj
      have hs1 : ¬ 9223372036854775807 < (mk ((Tp.btn d).take j)).size + 1 := by omega
      have HN := hid (Tp.take_next d j hlt)
      generalize hT : (Tp.btn d).take j = T at *
      clear hsz
      rcases Tp.eight hlt with rfl | rfl | rfl | rfl | rfl | rfl | rfl | rfl
      · go_wp2
        · rename_i h
          have hq : Tp.bt d 0 = 46 := by unfold Tp.bt; rw [if_pos]; simp at h; simp; omega
          exact ⟨⟨0 + 1, by omega, rfl, by rw [HN.out, hq, ← Tp.mk_app]; rfl, trivial⟩, by simp [intOf]⟩
        · rename_i h
          have hq : Tp.bt d 0 = 117 := by unfold Tp.bt; rw [if_neg (by simp at h; simp; omega)]; try rfl
          exact ⟨⟨0 + 1, by omega, rfl, by rw [HN.out, hq, ← Tp.mk_app]; rfl, trivial⟩, by simp [intOf]⟩
      · go_wp2
        · rename_i h
          have hq : Tp.bt d 1 = 46 := by unfold Tp.bt; rw [if_pos]; simp at h; simp; omega
          exact ⟨⟨1 + 1, by omega, rfl, by rw [HN.out, hq, ← Tp.mk_app]; rfl, trivial⟩, by simp [intOf]⟩
        · rename_i h
          have hq : Tp.bt d 1 = 100 := by unfold Tp.bt; rw [if_neg (by simp at h; simp; omega)]; try rfl
          exact ⟨⟨1 + 1, by omega, rfl, by rw [HN.out, hq, ← Tp.mk_app]; rfl, trivial⟩, by simp [intOf]⟩
      · go_wp2
        · rename_i h
          have hq : Tp.bt d 2 = 46 := by unfold Tp.bt; rw [if_pos]; simp at h; simp; omega
          exact ⟨⟨2 + 1, by omega, rfl, by rw [HN.out, hq, ← Tp.mk_app]; rfl, trivial⟩, by simp [intOf]⟩
        · rename_i h
          have hq : Tp.bt d 2 = 108 := by unfold Tp.bt; rw [if_neg (by simp at h; simp; omega)]; try rfl
          exact ⟨⟨2 + 1, by omega, rfl, by rw [HN.out, hq, ← Tp.mk_app]; rfl, trivial⟩, by simp [intOf]⟩
      · go_wp2
        · rename_i h
          have hq : Tp.bt d 3 = 46 := by unfold Tp.bt; rw [if_pos]; simp at h; simp; omega
          exact ⟨⟨3 + 1, by omega, rfl, by rw [HN.out, hq, ← Tp.mk_app]; rfl, trivial⟩, by simp [intOf]⟩
        · rename_i h
          have hq : Tp.bt d 3 = 114 := by unfold Tp.bt; rw [if_neg (by simp at h; simp; omega)]; try rfl
          exact ⟨⟨3 + 1, by omega, rfl, by rw [HN.out, hq, ← Tp.mk_app]; rfl, trivial⟩, by simp [intOf]⟩
      · go_wp2
        · rename_i h
          have hq : Tp.bt d 4 = 46 := by unfold Tp.bt; rw [if_pos]; simp at h; simp; omega
          exact ⟨⟨4 + 1, by omega, rfl, by rw [HN.out, hq, ← Tp.mk_app]; rfl, trivial⟩, by simp [intOf]⟩
        · rename_i h
          have hq : Tp.bt d 4 = 97 := by unfold Tp.bt; rw [if_neg (by simp at h; simp; omega)]; try rfl
          exact ⟨⟨4 + 1, by omega, rfl, by rw [HN.out, hq, ← Tp.mk_app]; rfl, trivial⟩, by simp [intOf]⟩
      · go_wp2
        · rename_i h
          have hq : Tp.bt d 5 = 46 := by unfold Tp.bt; rw [if_pos]; simp at h; simp; omega
          exact ⟨⟨5 + 1, by omega, rfl, by rw [HN.out, hq, ← Tp.mk_app]; rfl, trivial⟩, by simp [intOf]⟩
        · rename_i h
          have hq : Tp.bt d 5 = 98 := by unfold Tp.bt; rw [if_neg (by simp at h; simp; omega)]; try rfl
          exact ⟨⟨5 + 1, by omega, rfl, by rw [HN.out, hq, ← Tp.mk_app]; rfl, trivial⟩, by simp [intOf]⟩
      · go_wp2
        · rename_i h
          have hq : Tp.bt d 6 = 46 := by unfold Tp.bt; rw [if_pos]; simp at h; simp; omega
          exact ⟨⟨6 + 1, by omega, rfl, by rw [HN.out, hq, ← Tp.mk_app]; rfl, trivial⟩, by simp [intOf]⟩
        · rename_i h
          have hq : Tp.bt d 6 = 115 := by unfold Tp.bt; rw [if_neg (by simp at h; simp; omega)]; try rfl
          exact ⟨⟨6 + 1, by omega, rfl, by rw [HN.out, hq, ← Tp.mk_app]; rfl, trivial⟩, by simp [intOf]⟩
      · go_wp2
        · rename_i h
          have hq : Tp.bt d 7 = 46 := by unfold Tp.bt; rw [if_pos]; simp at h; simp; omega
          exact ⟨⟨7 + 1, by omega, rfl, by rw [HN.out, hq, ← Tp.mk_app]; rfl, trivial⟩, by simp [intOf]⟩
        · rename_i h
          have hq : Tp.bt d 7 = 116 := by unfold Tp.bt; rw [if_neg (by simp at h; simp; omega)]; try rfl
          exact ⟨⟨7 + 1, by omega, rfl, by rw [HN.out, hq, ← Tp.mk_app]; rfl, trivial⟩, by simp [intOf]⟩
    · have hj8 : j = 8 := by omega
      subst hj8
      have e : (Tp.btn d).take 8 = Tp.btn d := List.take_of_length_le (by rw [Tp.btn_len]; exact Nat.le_refl _)
      rw [e]
      go_wp2
      go_ret
      exact ⟨rfl, stA (st0 w) _⟩
set_option maxHeartbeats 3200000 in
theorem Tp.refOfButtons (t : List UInt8) (w : World) : Calls Tryd.prog 9 #[.string (mk t)] w fun e w' => e = .returned (.tuple #[.int .u8 (Tp.ofbN t), .bool (Tp.ofb t).isSome]) ∧ Below w.heap.size w w' := by
  go_enter Tryd.func9, Tryd.ntmps9
  go_wp2
  go_loopw [5] (fun i wr => ∃ j : Nat, j ≤ 256 ∧ i = .int .i64 j ∧ (∀ k, k < j → Tp.btn k ≠ t) ∧ Below w.heap.size w wr) (fun i _ => 256 - (intOf i).toNat)
  case atStart => exact ⟨0, by omega, rfl, fun k hk => absurd hk (by omega), st0 w⟩
  case round =>
    obtain ⟨j, hj, rfl, hk, hb⟩ := hrel
    have HK := hid hk
    have HB := hid hb
    clear hk hb
    by_cases hlt : j < 256
    · have hji : (j : Int) < 256 := by omega
      have hj0 : (0 : Int) ≤ j := by omega
      have hw : IntKind.u8.wrap (j : Int) = j := by simp [IntKind.wrap, IntKind.bits, IntKind.signed]; omega
      by_cases he : Tp.btn j = t
      · have e1 : Tp.ofb t = some j := by rw [← he]; exact Tp.ofb_btn hlt
        have hne : ((mk (Tp.btn j)).toList == (mk t).toList) = true := by rw [mk_toList, mk_toList]; simpa using he
        have e2 : Tp.ofbN t = j := by unfold Tp.ofbN; rw [e1]; rfl
        have HE := hid (And.intro e1 e2)
        clear e1 e2
        go_wp2_with (go_at_call 12; refine (Tp.refButtons j hlt _).mono ?_; rintro e w1 ⟨rfl, hb1⟩)
        go_ret2
        rw [HE.out.1, HE.out.2]
        exact ⟨rfl, stp HB.out hb1⟩
      · have hne : ((mk (Tp.btn j)).toList == (mk t).toList) = false := by rw [mk_toList, mk_toList]; simpa using he
        have HE := hid he
        clear he
        go_wp2_with (go_at_call 12; refine (Tp.refButtons j hlt _).mono ?_; rintro e w1 ⟨rfl, hb1⟩)
        refine ⟨⟨j + 1, by omega, by simp, fun k hk => ?_, stp HB.out hb1⟩, by simp [intOf]; omega⟩
        by_cases e : k = j
        · subst e; exact HE.out
        · exact HK.out k (by omega)
    · have hj2 : j = 256 := by omega
      subst hj2
      have e1 : Tp.ofb t = none := Tp.ofb_no HK.out
      have e2 : Tp.ofbN t = 0 := by unfold Tp.ofbN; rw [e1]; rfl
      have HE := hid (And.intro e1 e2)
      clear e1 e2
      go_wp2
      go_ret2
      rw [HE.out.1, HE.out.2]
      exact ⟨rfl, HB.out⟩
end Go.Proofs.YtbfflipcmciapaaDoor
