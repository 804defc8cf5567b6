/-
  Package bus: look, of either processor.
-/
import Derived.Test.YthooknikfachnaaBusB
namespace Go.Proofs.Ythooknikfachnaa
open Go.ChangeShapes Go.WideShapes Go.ChangeAt Go.RowKit
set_option linter.unusedVariables false
set_option maxRecDepth 100000

section
variable {F : Fx} {W : World} {M : Mach} {tk : Tk}
theorem Bd.mrV (h : Bd F W M tk) : ∃ ad cap, F.S.mr = .slice ad M.mrom.length cap ∧ W.cell? ⟨F.g, 30, none⟩ = some (.slice ad M.mrom.length cap) ∧ (0 < M.mrom.length → ad = some ⟨F.mr, 0, none⟩ ∧ Bx W F.mr (bcs M.mrom)) := by
  have hc := h.at 30 F.S.mr rfl
  rcases h.mr with ⟨e, hl⟩ | ⟨cap, e, _, hb⟩
  · exact ⟨none, 0, by rw [e, hl]; rfl, by rw [hc, e, hl]; rfl, by rw [hl]; simp⟩
  · exact ⟨_, cap, e, by rw [hc, e], fun _ => ⟨rfl, hb⟩⟩
theorem Bd.arV (h : Bd F W M tk) : ∃ ad cap, F.S.ar = .slice ad M.arom.length cap ∧ W.cell? ⟨F.g, 31, none⟩ = some (.slice ad M.arom.length cap) ∧ (0 < M.arom.length → ad = some ⟨F.ar, 0, none⟩ ∧ Bx W F.ar (bcs M.arom)) := by
  have hc := h.at 31 F.S.ar rfl
  rcases h.ar with ⟨e, hl⟩ | ⟨cap, e, _, hb⟩
  · exact ⟨none, 0, by rw [e, hl]; rfl, by rw [hc, e, hl]; rfl, by rw [hl]; simp⟩
  · exact ⟨_, cap, e, by rw [hc, e], fun _ => ⟨rfl, hb⟩⟩
/-- What is read where a memory's byte is. -/
theorem Bd.ramAt (h : Bd F W M tk) (i : Int) (h0 : 0 ≤ i) (hi : i < 128) : W.cell? ⟨F.ra, i.toNat, none⟩ = some (.int .u8 (bget M.ram i)) ∧ F.ra < W.heap.size ∧ W.frozen? ⟨F.ra, i.toNat, none⟩ = false := by
  obtain ⟨_, _, _, hb⟩ := h.ramV
  exact ⟨hb.at _ _ (bcs_at _ i h0 (by rw [h.fit.ram]; exact hi)), hb.z, hb.f _⟩
theorem Bd.ownAt (h : Bd F W M tk) (i : Int) (h0 : 0 ≤ i) (hi : i < 64) : W.cell? ⟨F.ow, i.toNat, none⟩ = some (.int .u8 (bget M.own i)) ∧ F.ow < W.heap.size ∧ W.frozen? ⟨F.ow, i.toNat, none⟩ = false := by
  obtain ⟨_, _, _, hb⟩ := h.ownV
  exact ⟨hb.at _ _ (bcs_at _ i h0 (by rw [h.fit.own]; exact hi)), hb.z, hb.f _⟩
theorem Bd.viAt (h : Bd F W M tk) (i : Int) (h0 : 0 ≤ i) (hi : i < 256) : W.cell? ⟨F.vi, i.toNat, none⟩ = some (.int .u8 (bget M.video i)) ∧ F.vi < W.heap.size ∧ W.frozen? ⟨F.vi, i.toNat, none⟩ = false := by
  obtain ⟨_, _, _, hb⟩ := h.viV
  exact ⟨hb.at _ _ (bcs_at _ i h0 (by rw [h.fit.video]; exact hi)), hb.z, hb.f _⟩
theorem Bu.look_M (h : Bd F W M tk) (a : Int) (ha : 0 ≤ a ∧ a ≤ 65535) :
    Calls Try.prog 79 #[pt F.g 77, .int .u16 a] W fun e w' => e = .returned (.int .u8 (M.lookM a)) ∧ W = w' := by
  obtain ⟨ad, cap, _, e30, hr⟩ := h.mrV
  have hg := h.bx.z
  have e76 := h.at 77 (pt F.g 30) rfl
  have e77 := h.at 78 (mval 45 F.g 0) rfl
  have hmr := h.fit.mrom
  have hm := hid (Bu.mem_M h a ha)
  have H := hid h
  clear h
  unfold Mach.lookM romAt
  unfold Fx.memM at hm
  by_cases h1 : a < 32768
  · rw [if_pos h1]
    rw [if_pos h1] at hm
    by_cases h2 : a < M.mrom.length
    · rw [if_pos h2]
      obtain ⟨rfl, hb⟩ := hr (by omega)
      have ec := hb.at _ _ (bcs_at _ a ha.1 h2)
      have ez := hb.z
      clear hr
      go_enter Try.func79, Try.ntmps79
      go_wp2
      go_ret
      exact ⟨rfl, rfl⟩
    · rw [if_neg h2]
      clear hr
      go_enter Try.func79, Try.ntmps79
      go_wp2_with (go_at_call 45; refine hm.out.mono ?_; rintro e w1 ⟨rfl, rfl⟩)
      go_ret
      exact ⟨rfl, rfl⟩
  · rw [if_neg h1]
    rw [if_neg h1] at hm
    by_cases h2 : a < 49152
    · rw [if_pos h2]
      rw [if_pos h2] at hm
      obtain ⟨ec, ez, _⟩ := H.out.ramAt ((a - 32768) % 128) (by omega) (by omega)
      clear hr
      go_enter Try.func79, Try.ntmps79
      go_wp2_with (go_at_call 45; refine hm.out.mono ?_; rintro e w1 ⟨rfl, rfl⟩)
      go_ret
      exact ⟨rfl, rfl⟩
    · rw [if_neg h2]
      rw [if_neg h2] at hm
      by_cases h3 : a < 53248
      · rw [if_pos h3]
        rw [if_pos h3] at hm
        obtain ⟨ec, ez, _⟩ := H.out.viAt ((a - 49152) % 256) (by omega) (by omega)
        clear hr
        go_enter Try.func79, Try.ntmps79
        go_wp2_with (go_at_call 45; refine hm.out.mono ?_; rintro e w1 ⟨rfl, rfl⟩)
        go_ret
        exact ⟨rfl, rfl⟩
      · rw [if_neg h3]
        rw [if_neg h3] at hm
        clear hr
        go_enter Try.func79, Try.ntmps79
        go_wp2_with (go_at_call 45; refine hm.out.mono ?_; rintro e w1 ⟨rfl, rfl⟩)
        go_ret
        exact ⟨rfl, rfl⟩
end
end Go.Proofs.Ythooknikfachnaa
