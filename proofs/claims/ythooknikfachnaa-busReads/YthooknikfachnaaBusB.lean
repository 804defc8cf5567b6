/-
  Package bus: what lies at a place, but for ports.
-/
import Derived.Test.YthooknikfachnaaBusA
namespace Go.Proofs.Ythooknikfachnaa
open Go.ChangeShapes Go.WideShapes Go.ChangeAt Go.RowKit
set_option linter.unusedVariables false
set_option maxRecDepth 100000

def Fx.memM (F : Fx) (a : Int) : Value := if a < 32768 then .pointer none else if a < 49152 then pt F.ra ((a - 32768) % 128).toNat else if a < 53248 then pt F.vi ((a - 49152) % 256).toNat else .pointer none
def Fx.memA (F : Fx) (M : Mach) (a : Int) : Value := if a < 32768 then .pointer none else if a < 49152 then pt F.ow ((a - 32768) % 64).toNat else if a < 53248 then (if M.granted then pt F.ra ((a - 49152) % 128).toNat else .pointer none) else .pointer none
section
variable {F : Fx} {W : World} {M : Mach} {tk : Tk}
theorem Bd.ramV (h : Bd F W M tk) : ∃ cap, F.S.ra = .slice (some ⟨F.ra, 0, none⟩) 128 cap ∧ W.cell? ⟨F.g, 32, none⟩ = some (.slice (some ⟨F.ra, 0, none⟩) 128 cap) ∧ Bx W F.ra (bcs M.ram) := by
  obtain ⟨cap, h1, _, h3⟩ := h.ra.some (by rw [h.fit.ram]; omega)
  rw [h.fit.ram] at h1
  exact ⟨cap, h1, by rw [← h1]; exact h.at 32 _ rfl, h3⟩
theorem Bd.ownV (h : Bd F W M tk) : ∃ cap, F.S.ow = .slice (some ⟨F.ow, 0, none⟩) 64 cap ∧ W.cell? ⟨F.g, 33, none⟩ = some (.slice (some ⟨F.ow, 0, none⟩) 64 cap) ∧ Bx W F.ow (bcs M.own) := by
  obtain ⟨cap, h1, _, h3⟩ := h.ow.some (by rw [h.fit.own]; omega)
  rw [h.fit.own] at h1
  exact ⟨cap, h1, by rw [← h1]; exact h.at 33 _ rfl, h3⟩
theorem Bd.viV (h : Bd F W M tk) : ∃ cap, F.S.vi = .slice (some ⟨F.vi, 0, none⟩) 256 cap ∧ W.cell? ⟨F.g, 34, none⟩ = some (.slice (some ⟨F.vi, 0, none⟩) 256 cap) ∧ Bx W F.vi (bcs M.video) := by
  obtain ⟨cap, h1, _, h3⟩ := h.vi.some (by rw [h.fit.video]; omega)
  rw [h.fit.video] at h1
  exact ⟨cap, h1, by rw [← h1]; exact h.at 34 _ rfl, h3⟩
theorem Bu.mem_M (h : Bd F W M tk) (a : Int) (ha : 0 ≤ a ∧ a ≤ 65535) :
    Calls Try.prog 45 #[pt F.g 0, .int .u16 a] W fun e w' => e = .returned (F.memM a) ∧ W = w' := by
  obtain ⟨c1, _, e1, _⟩ := h.ramV
  obtain ⟨c2, _, e2, _⟩ := h.viV
  have hg := h.bx.z
  clear h
  unfold Fx.memM
  by_cases h1 : a < 32768
  · rw [if_pos h1]
    have k1 : ¬ 32768 ≤ a := by omega
    have k2 : ¬ 49152 ≤ a := by omega
    go_enter Try.func45, Try.ntmps45
    go_wp2
    go_ret
    exact ⟨rfl, rfl⟩
  · rw [if_neg h1]
    have k1 : 32768 ≤ a := by omega
    by_cases h2 : a < 49152
    · rw [if_pos h2]
      go_enter Try.func45, Try.ntmps45
      go_wp2_with (go_at_call 56; refine (Bu.cell_any F.ra 128 c1 (a - 32768) _ (by omega) (by omega) (by omega)).mono ?_; rintro e w1 ⟨rfl, rfl⟩)
      go_ret
      exact ⟨rfl, rfl⟩
    · rw [if_neg h2]
      have k2 : 49152 ≤ a := by omega
      by_cases h3 : a < 53248
      · rw [if_pos h3]
        go_enter Try.func45, Try.ntmps45
        go_wp2_with (go_at_call 56; refine (Bu.cell_any F.vi 256 c2 (a - 49152) _ (by omega) (by omega) (by omega)).mono ?_; rintro e w1 ⟨rfl, rfl⟩)
        go_ret
        exact ⟨rfl, rfl⟩
      · rw [if_neg h3]
        go_enter Try.func45, Try.ntmps45
        go_wp2
        go_ret
        exact ⟨rfl, rfl⟩
theorem Bu.mem_A (h : Bd F W M tk) (a : Int) (ha : 0 ≤ a ∧ a ≤ 65535) :
    Calls Try.prog 47 #[pt F.g 0, .int .u16 a] W fun e w' => e = .returned (F.memA M a) ∧ W = w' := by
  obtain ⟨c1, _, e1, _⟩ := h.ramV
  obtain ⟨c2, _, e2, _⟩ := h.ownV
  have hg := h.bx.z
  have e3 := h.at 67 (.bool M.granted) rfl
  clear h
  unfold Fx.memA
  generalize M.granted = gr at *
  by_cases h1 : a < 32768
  · rw [if_pos h1]
    have k1 : ¬ 32768 ≤ a := by omega
    have k2 : ¬ 49152 ≤ a := by omega
    go_enter Try.func47, Try.ntmps47
    go_wp2
    go_ret
    exact ⟨rfl, rfl⟩
  · rw [if_neg h1]
    have k1 : 32768 ≤ a := by omega
    by_cases h2 : a < 49152
    · rw [if_pos h2]
      go_enter Try.func47, Try.ntmps47
      go_wp2_with (go_at_call 56; refine (Bu.cell_any F.ow 64 c2 (a - 32768) _ (by omega) (by omega) (by omega)).mono ?_; rintro e w1 ⟨rfl, rfl⟩)
      go_ret
      exact ⟨rfl, rfl⟩
    · rw [if_neg h2]
      have k2 : 49152 ≤ a := by omega
      by_cases h3 : a < 53248
      · rw [if_pos h3]
        cases gr
        · go_enter Try.func47, Try.ntmps47
          go_wp2
          go_ret
          exact ⟨rfl, rfl⟩
        · go_enter Try.func47, Try.ntmps47
          go_wp2_with (go_at_call 56; refine (Bu.cell_any F.ra 128 c1 (a - 49152) _ (by omega) (by omega) (by omega)).mono ?_; rintro e w1 ⟨rfl, rfl⟩)
          go_ret
          exact ⟨rfl, rfl⟩
      · rw [if_neg h3]
        go_enter Try.func47, Try.ntmps47
        go_wp2
        go_ret
        exact ⟨rfl, rfl⟩
end
end Go.Proofs.Ythooknikfachnaa
