/-
  Parts of a proof, joined.
-/
import Derived.Test.YtdioiilmpjckfaaZt20
namespace Go.Proofs.Ytdioiilmpjckfaa
open Go.ChangeShapes Go.WideShapes Go.ChangeAt Go.RowKit
set_option linter.unusedVariables false
set_option maxRecDepth 100000
section
variable {T : TypeId} {g m fb fo fw fn fl : Nat} {St : Nat → World → Prop} {No : World → Prop}
theorem Sv.at0 (x0 x1 : Value) (w : World) : (Instr.index 102 (.agg #[x0, x1]) (.int .i64 0)).run Try.prog w = .ok x0 w := by kernel_rfl
theorem Sv.at1 (x0 x1 : Value) (w : World) : (Instr.index 102 (.agg #[x0, x1]) (.int .i64 1)).run Try.prog w = .ok x1 w := by kernel_rfl
set_option maxHeartbeats 3200000 in
theorem Sv.carry (h : Car T g m fb fo fw fn fl St No) (W : World) (h0 : St 0 W) : Calls Try.prog 21 #[.iface T (pt g 0), pt m 0] W (Stp St No 75) := by
  have eb := h.eb
  have mb := h.mb
  have nb := h.nb
  have eo := h.eo
  have mo := h.mo
  have no := h.no
  have ew := h.ew
  have mw := h.mw
  have nw := h.nw
  have en := h.en
  have mn := h.mn
  have nn := h.nn
  have el := h.el
  have ml := h.ml
  have nl := h.nl
  have H := hid h
  have H0 := hid (h.drew _ _ h0)
  clear h h0
  go_enter Try.func21, Try.ntmps21
  go_upto_region 0 with fail
  refine wp_region_G (S := fun _ => True) (st := 8) (by kernel_rfl) ?_
  refine wpAnyG_pure (i := 0) (oi := ⟨some 8, _, _, _, _, none⟩) (v := ?_) rfl (by kernel_rfl) (by kernel_rfl) (by kernel_rfl) (by decide) (fun _ _ _ h => h) (Or.inl ⟨by rfl, ?_⟩) (fun _ => trivial) ?_
  rotate_left 1
  focus (intro w hSw; go_simp; try (with_reducible rfl))
  simp only [Act.put, xA, xB, xC]
  refine wpAnyG_pure (i := 1) (oi := ⟨some 9, _, _, _, _, none⟩) (v := ?_) rfl (by kernel_rfl) (by kernel_rfl) (by kernel_rfl) (by decide) (fun _ _ _ h => h) (Or.inl ⟨by rfl, ?_⟩) (fun _ => trivial) ?_
  rotate_left 1
  focus (intro w hSw; go_simp; try (with_reducible rfl))
  simp only [Act.put, xA, xB, xC]
  refine wpAnyG_pure (i := 2) (oi := ⟨some 10, _, _, _, _, none⟩) (v := ?_) rfl (by kernel_rfl) (by kernel_rfl) (by kernel_rfl) (by decide) (fun _ _ _ h => h) (Or.inl ⟨by rfl, ?_⟩) (fun _ => trivial) ?_
  rotate_left 1
  focus (intro w hSw; go_simp; try (with_reducible rfl))
  simp only [Act.put, xA, xB, xC]
  refine wpAnyG_pure (i := 3) (oi := ⟨some 11, _, _, _, _, none⟩) (v := ?_) rfl (by kernel_rfl) (by kernel_rfl) (by kernel_rfl) (by decide) (fun _ _ _ h => h) (Or.inl ⟨by rfl, ?_⟩) (fun _ => trivial) ?_
  rotate_left 1
  focus (intro w hSw; go_simp; try (with_reducible rfl))
  simp only [Act.put, xA, xB, xC]
  refine wpAnyG_pure (i := 4) (oi := ⟨some 12, _, _, _, _, none⟩) (v := ?_) rfl (by kernel_rfl) (by kernel_rfl) (by kernel_rfl) (by decide) (fun _ _ _ h => h) (Or.inl ⟨by rfl, ?_⟩) (fun _ => trivial) ?_
  rotate_left 1
  focus (intro w hSw; go_simp; try (with_reducible rfl))
  simp only [Act.put, xA, xB, xC]
  refine wpAnyG_pure (i := 5) (oi := ⟨some 13, _, _, _, _, none⟩) (v := ?_) rfl (by kernel_rfl) (by kernel_rfl) (by kernel_rfl) (by decide) (fun _ _ _ h => h) (Or.inl ⟨by rfl, ?_⟩) (fun _ => trivial) ?_
  rotate_left 1
  focus (intro w hSw; go_simp; try (with_reducible rfl))
  simp only [Act.put, xA, xB, xC]
  refine wpAnyG_pure (i := 6) (oi := ⟨some 14, _, _, _, _, none⟩) (v := ?_) rfl (by kernel_rfl) (by kernel_rfl) (by kernel_rfl) (by decide) (fun _ _ _ h => h) (Or.inl ⟨by rfl, ?_⟩) (fun _ => trivial) ?_
  rotate_left 1
  focus (intro w hSw; go_simp; try (with_reducible rfl))
  simp only [Act.put, xA, xB, xC]
  refine wpAnyG_pure (i := 7) (oi := ⟨some 15, _, _, _, _, none⟩) (v := ?_) rfl (by kernel_rfl) (by kernel_rfl) (by kernel_rfl) (by decide) (fun _ _ _ h => h) (Or.inl ⟨by rfl, ?_⟩) (fun _ => trivial) ?_
  rotate_left 1
  focus (intro w hSw; go_simp; try (with_reducible rfl))
  simp only [Act.put, xA, xB, xC]
  refine wpAnyG_done (by kernel_rfl) ?_ _
  go_wp2
  go_loopw [15] (fun i wr => ∃ j : Nat, j ≤ 2 ∧ i = .int .i64 j ∧ St (15 * j) wr) (fun i _ => 2 - (intOf i).toNat)
  case atStart => exact ⟨0, by omega, rfl, H0.out⟩
  case round =>
    obtain ⟨j, hj, rfl, hs⟩ := hrel
    have HS := hid hs
    clear hs
    have hc : j = 0 ∨ j = 1 ∨ j = 2 := by omega
    rcases hc with rfl | rfl | rfl
    · have ix := Sv.at0 (pt m 0) (pt m 15)
      go_wp2_with (go_at_call 28; refine (Sv.cpu0 H.out _ HS.out).mono ?_; rintro e w1 (⟨rfl, h1⟩ | ⟨rfl, h1⟩))
      all_goals first
        | exact ⟨rfl, Or.inl ⟨rfl, h1⟩⟩
        | exact ⟨⟨1, by omega, rfl, h1⟩, by simp [intOf]⟩
    · have ix := Sv.at1 (pt m 0) (pt m 15)
      go_wp2_with (go_at_call 28; refine (Sv.cpu15 H.out _ HS.out).mono ?_; rintro e w1 (⟨rfl, h1⟩ | ⟨rfl, h1⟩))
      all_goals first
        | exact ⟨rfl, Or.inl ⟨rfl, h1⟩⟩
        | exact ⟨⟨2, by omega, rfl, h1⟩, by simp [intOf]⟩
    · go_upto_region 5 with fail
      have HQ := hid (H.out.sl wr.drew (H.out.drew _ _ HS.out))
      refine wp_region_G (S := fun _ => True) (st := 20) (by kernel_rfl) ?_
      refine wpAnyG_pure (i := 0) (oi := ⟨some 22, _, _, _, _, none⟩) (v := ?_) rfl (by kernel_rfl) (by kernel_rfl) (by kernel_rfl) (by decide) (fun _ _ _ h => h) (Or.inl ⟨by rfl, ?_⟩) (fun _ => trivial) ?_
      rotate_left 1
      focus (intro w hSw; go_simp; try (with_reducible rfl))
      simp only [Act.put, xA, xB, xC]
      refine wpAnyG_pure (i := 1) (oi := ⟨some 23, _, _, _, _, none⟩) (v := ?_) rfl (by kernel_rfl) (by kernel_rfl) (by kernel_rfl) (by decide) (fun _ _ _ h => h) (Or.inl ⟨by rfl, ?_⟩) (fun _ => trivial) ?_
      rotate_left 1
      focus (intro w hSw; go_simp; try (with_reducible rfl))
      simp only [Act.put, xA, xB, xC]
      refine wpAnyG_pure (i := 2) (oi := ⟨some 24, _, _, _, _, none⟩) (v := ?_) rfl (by kernel_rfl) (by kernel_rfl) (by kernel_rfl) (by decide) (fun _ _ _ h => h) (Or.inl ⟨by rfl, ?_⟩) (fun _ => trivial) ?_
      rotate_left 1
      focus (intro w hSw; go_simp; try (with_reducible rfl))
      simp only [Act.put, xA, xB, xC]
      refine wpAnyG_pure (i := 3) (oi := ⟨some 25, _, _, _, _, none⟩) (v := ?_) rfl (by kernel_rfl) (by kernel_rfl) (by kernel_rfl) (by decide) (fun _ _ _ h => h) (Or.inl ⟨by rfl, ?_⟩) (fun _ => trivial) ?_
      rotate_left 1
      focus (intro w hSw; go_simp; try (with_reducible rfl))
      simp only [Act.put, xA, xB, xC]
      refine wpAnyG_pure (i := 4) (oi := ⟨some 26, _, _, _, _, none⟩) (v := ?_) rfl (by kernel_rfl) (by kernel_rfl) (by kernel_rfl) (by decide) (fun _ _ _ h => h) (Or.inl ⟨by rfl, ?_⟩) (fun _ => trivial) ?_
      rotate_left 1
      focus (intro w hSw; go_simp; try (with_reducible rfl))
      simp only [Act.put, xA, xB, xC]
      refine wpAnyG_pure (i := 5) (oi := ⟨some 27, _, _, _, _, none⟩) (v := ?_) rfl (by kernel_rfl) (by kernel_rfl) (by kernel_rfl) (by decide) (fun _ _ _ h => h) (Or.inl ⟨by rfl, ?_⟩) (fun _ => trivial) ?_
      rotate_left 1
      focus (intro w hSw; go_simp; try (with_reducible rfl))
      simp only [Act.put, xA, xB, xC]
      refine wpAnyG_pure (i := 6) (oi := ⟨some 28, _, _, _, _, none⟩) (v := ?_) rfl (by kernel_rfl) (by kernel_rfl) (by kernel_rfl) (by decide) (fun _ _ _ h => h) (Or.inl ⟨by rfl, ?_⟩) (fun _ => trivial) ?_
      rotate_left 1
      focus (intro w hSw; go_simp; try (with_reducible rfl))
      simp only [Act.put, xA, xB, xC]
      refine wpAnyG_pure (i := 7) (oi := ⟨some 29, _, _, _, _, none⟩) (v := ?_) rfl (by kernel_rfl) (by kernel_rfl) (by kernel_rfl) (by decide) (fun _ _ _ h => h) (Or.inl ⟨by rfl, ?_⟩) (fun _ => trivial) ?_
      rotate_left 1
      focus (intro w hSw; go_simp; try (with_reducible rfl))
      simp only [Act.put, xA, xB, xC]
      refine wpAnyG_pure (i := 8) (oi := ⟨some 30, _, _, _, _, none⟩) (v := ?_) rfl (by kernel_rfl) (by kernel_rfl) (by kernel_rfl) (by decide) (fun _ _ _ h => h) (Or.inl ⟨by rfl, ?_⟩) (fun _ => trivial) ?_
      rotate_left 1
      focus (intro w hSw; go_simp; try (with_reducible rfl))
      simp only [Act.put, xA, xB, xC]
      refine wpAnyG_pure (i := 9) (oi := ⟨some 31, _, _, _, _, none⟩) (v := ?_) rfl (by kernel_rfl) (by kernel_rfl) (by kernel_rfl) (by decide) (fun _ _ _ h => h) (Or.inl ⟨by rfl, ?_⟩) (fun _ => trivial) ?_
      rotate_left 1
      focus (intro w hSw; go_simp; try (with_reducible rfl))
      simp only [Act.put, xA, xB, xC]
      refine wpAnyG_pure (i := 10) (oi := ⟨some 32, _, _, _, _, none⟩) (v := ?_) rfl (by kernel_rfl) (by kernel_rfl) (by kernel_rfl) (by decide) (fun _ _ _ h => h) (Or.inl ⟨by rfl, ?_⟩) (fun _ => trivial) ?_
      rotate_left 1
      focus (intro w hSw; go_simp; try (with_reducible rfl))
      simp only [Act.put, xA, xB, xC]
      refine wpAnyG_pure (i := 11) (oi := ⟨some 33, _, _, _, _, none⟩) (v := ?_) rfl (by kernel_rfl) (by kernel_rfl) (by kernel_rfl) (by decide) (fun _ _ _ h => h) (Or.inl ⟨by rfl, ?_⟩) (fun _ => trivial) ?_
      rotate_left 1
      focus (intro w hSw; go_simp; try (with_reducible rfl))
      simp only [Act.put, xA, xB, xC]
      refine wpAnyG_pure (i := 12) (oi := ⟨some 34, _, _, _, _, none⟩) (v := ?_) rfl (by kernel_rfl) (by kernel_rfl) (by kernel_rfl) (by decide) (fun _ _ _ h => h) (Or.inl ⟨by rfl, ?_⟩) (fun _ => trivial) ?_
      rotate_left 1
      focus (intro w hSw; go_simp; try (with_reducible rfl))
      simp only [Act.put, xA, xB, xC]
      refine wpAnyG_pure (i := 13) (oi := ⟨some 35, _, _, _, _, none⟩) (v := ?_) rfl (by kernel_rfl) (by kernel_rfl) (by kernel_rfl) (by decide) (fun _ _ _ h => h) (Or.inl ⟨by rfl, ?_⟩) (fun _ => trivial) ?_
      rotate_left 1
      focus (intro w hSw; go_simp; try (with_reducible rfl))
      simp only [Act.put, xA, xB, xC]
      refine wpAnyG_pure (i := 14) (oi := ⟨some 36, _, _, _, _, none⟩) (v := ?_) rfl (by kernel_rfl) (by kernel_rfl) (by kernel_rfl) (by decide) (fun _ _ _ h => h) (Or.inl ⟨by rfl, ?_⟩) (fun _ => trivial) ?_
      rotate_left 1
      focus (intro w hSw; go_simp; try (with_reducible rfl))
      simp only [Act.put, xA, xB, xC]
      refine wpAnyG_pure (i := 15) (oi := ⟨some 37, _, _, _, _, none⟩) (v := ?_) rfl (by kernel_rfl) (by kernel_rfl) (by kernel_rfl) (by decide) (fun _ _ _ h => h) (Or.inl ⟨by rfl, ?_⟩) (fun _ => trivial) ?_
      rotate_left 1
      focus (intro w hSw; go_simp; try (with_reducible rfl))
      simp only [Act.put, xA, xB, xC]
      refine wpAnyG_pure (i := 17) (oi := ⟨some 39, _, _, _, _, none⟩) (v := ?_) rfl (by kernel_rfl) (by kernel_rfl) (by kernel_rfl) (by decide) (fun _ _ _ h => h) (Or.inl ⟨by rfl, ?_⟩) (fun _ => trivial) ?_
      rotate_left 1
      focus (intro w hSw; go_simp; try (with_reducible rfl))
      simp only [Act.put, xA, xB, xC]
      refine wpAnyG_pure (i := 18) (oi := ⟨some 40, _, _, _, _, none⟩) (v := ?_) rfl (by kernel_rfl) (by kernel_rfl) (by kernel_rfl) (by decide) (fun _ _ _ h => h) (Or.inl ⟨by rfl, ?_⟩) (fun _ => trivial) ?_
      rotate_left 1
      focus (intro w hSw; go_simp; try (with_reducible rfl))
      simp only [Act.put, xA, xB, xC]
      refine wpAnyG_pure (i := 19) (oi := ⟨some 41, _, _, _, _, none⟩) (v := ?_) rfl (by kernel_rfl) (by kernel_rfl) (by kernel_rfl) (by decide) (fun _ _ _ h => h) (Or.inl ⟨by rfl, ?_⟩) (fun _ => trivial) ?_
      rotate_left 1
      focus (intro w hSw; go_simp; try (with_reducible rfl))
      simp only [Act.put, xA, xB, xC]
      refine wpAnyG_one (i := 16) (o := ⟨some 38, _, _, _, _, none⟩) (by kernel_rfl) rfl (fun K hK => ?_)
      go_simp
      refine hK.out _ _ (fun _ => trivial) ?_
      clear hK K
      try simp only [Act.put, xA, xB, xC]
      refine wpAnyG_one (i := 20) (o := ⟨some 42, _, _, _, _, none⟩) (by kernel_rfl) rfl (fun K hK => ?_)
      go_simp
      refine HQ.out.mono ?_
      rintro e w1 (⟨rfl, h1⟩ | ⟨rfl, h1⟩)
      · exact ⟨rfl, Or.inl ⟨rfl, h1⟩⟩
      · refine hK.out _ _ (fun _ => trivial) ?_
        clear hK K
        try simp only [Act.put, xA, xB, xC]
        refine wpAnyG_done (by kernel_rfl) ?_ _
        have HS1 := hid h1
        clear h1 HQ
        go_wp2
        go_loopw [43] (fun i wr => ∃ j : Nat, j ≤ 2 ∧ i = .int .i64 j ∧ St (35 + 3 * j) wr) (fun i _ => 2 - (intOf i).toNat)
        case atStart => exact ⟨0, by omega, rfl, HS1.out⟩
        case round =>
          obtain ⟨j, hj, rfl, hs⟩ := hrel
          have HS := hid hs
          clear hs
          have hc : j = 0 ∨ j = 1 ∨ j = 2 := by omega
          rcases hc with rfl | rfl | rfl
          · go_upto_region 10 with fail
            have HQ := hid (H.out.sb 35 2 wr.drew (H.out.drew _ _ HS.out) rfl)
            refine wp_region_G (S := fun _ => True) (st := 11) (by kernel_rfl) ?_
            refine wpAnyG_pure (i := 0) (oi := ⟨some 51, _, _, _, _, none⟩) (v := ?_) rfl (by kernel_rfl) (by kernel_rfl) (by kernel_rfl) (by decide) (fun _ _ _ h => h) (Or.inl ⟨by rfl, ?_⟩) (fun _ => trivial) ?_
            rotate_left 1
            focus (intro w hSw; go_simp; try (with_reducible rfl))
            simp only [Act.put, xA, xB, xC]
            refine wpAnyG_pure (i := 1) (oi := ⟨some 52, _, _, _, _, none⟩) (v := ?_) rfl (by kernel_rfl) (by kernel_rfl) (by kernel_rfl) (by decide) (fun _ _ _ h => h) (Or.inl ⟨by rfl, ?_⟩) (fun _ => trivial) ?_
            rotate_left 1
            focus (intro w hSw; go_simp; try (with_reducible rfl))
            simp only [Act.put, xA, xB, xC]
            refine wpAnyG_pure (i := 2) (oi := ⟨some 53, _, _, _, _, none⟩) (v := ?_) rfl (by kernel_rfl) (by kernel_rfl) (by kernel_rfl) (by decide) (fun _ _ _ h => h) (Or.inl ⟨by rfl, ?_⟩) (fun _ => trivial) ?_
            rotate_left 1
            focus (intro w hSw; go_simp; try (with_reducible rfl))
            simp only [Act.put, xA, xB, xC]
            refine wpAnyG_pure (i := 3) (oi := ⟨some 54, _, _, _, _, none⟩) (v := ?_) rfl (by kernel_rfl) (by kernel_rfl) (by kernel_rfl) (by decide) (fun _ _ _ h => h) (Or.inl ⟨by rfl, ?_⟩) (fun _ => trivial) ?_
            rotate_left 1
            focus (intro w hSw; go_simp; try (with_reducible rfl))
            simp only [Act.put, xA, xB, xC]
            refine wpAnyG_pure (i := 4) (oi := ⟨some 55, _, _, _, _, none⟩) (v := ?_) rfl (by kernel_rfl) (by kernel_rfl) (by kernel_rfl) (by decide) (fun _ _ _ h => h) (Or.inl ⟨by rfl, ?_⟩) (fun _ => trivial) ?_
            rotate_left 1
            focus (intro w hSw; go_simp; try (with_reducible rfl))
            simp only [Act.put, xA, xB, xC]
            refine wpAnyG_pure (i := 5) (oi := ⟨some 56, _, _, _, _, none⟩) (v := ?_) rfl (by kernel_rfl) (by kernel_rfl) (by kernel_rfl) (by decide) (fun _ _ _ h => h) (Or.inl ⟨by rfl, ?_⟩) (fun _ => trivial) ?_
            rotate_left 1
            focus (intro w hSw; go_simp; try (with_reducible rfl))
            simp only [Act.put, xA, xB, xC]
            refine wpAnyG_pure (i := 6) (oi := ⟨some 57, _, _, _, _, none⟩) (v := ?_) rfl (by kernel_rfl) (by kernel_rfl) (by kernel_rfl) (by decide) (fun _ _ _ h => h) (Or.inl ⟨by rfl, ?_⟩) (fun _ => trivial) ?_
            rotate_left 1
            focus (intro w hSw; go_simp; try (with_reducible rfl))
            simp only [Act.put, xA, xB, xC]
            refine wpAnyG_pure (i := 8) (oi := ⟨some 59, _, _, _, _, none⟩) (v := ?_) rfl (by kernel_rfl) (by kernel_rfl) (by kernel_rfl) (by decide) (fun _ _ _ h => h) (Or.inl ⟨by rfl, ?_⟩) (fun _ => trivial) ?_
            rotate_left 1
            focus (intro w hSw; go_simp; try (with_reducible rfl))
            simp only [Act.put, xA, xB, xC]
            refine wpAnyG_pure (i := 9) (oi := ⟨some 60, _, _, _, _, none⟩) (v := ?_) rfl (by kernel_rfl) (by kernel_rfl) (by kernel_rfl) (by decide) (fun _ _ _ h => h) (Or.inl ⟨by rfl, ?_⟩) (fun _ => trivial) ?_
            rotate_left 1
            focus (intro w hSw; go_simp; try (with_reducible rfl))
            simp only [Act.put, xA, xB, xC]
            refine wpAnyG_pure (i := 10) (oi := ⟨some 61, _, _, _, _, none⟩) (v := ?_) rfl (by kernel_rfl) (by kernel_rfl) (by kernel_rfl) (by decide) (fun _ _ _ h => h) (Or.inl ⟨by rfl, ?_⟩) (fun _ => trivial) ?_
            rotate_left 1
            focus (intro w hSw; go_simp; try (with_reducible rfl))
            simp only [Act.put, xA, xB, xC]
            refine wpAnyG_one (i := 7) (o := ⟨some 58, _, _, _, _, none⟩) (by kernel_rfl) rfl (fun K hK => ?_)
            go_simp
            refine hK.out _ _ (fun _ => trivial) ?_
            clear hK K
            try simp only [Act.put, xA, xB, xC]
            refine wpAnyG_one (i := 11) (o := ⟨some 62, _, _, _, _, none⟩) (by kernel_rfl) rfl (fun K hK => ?_)
            go_simp
            refine HQ.out.mono ?_
            rintro e w1 (⟨rfl, h1⟩ | ⟨rfl, h1⟩)
            · exact ⟨rfl, Or.inl ⟨rfl, h1⟩⟩
            · refine hK.out _ _ (fun _ => trivial) ?_
              clear hK K
              try simp only [Act.put, xA, xB, xC]
              refine wpAnyG_done (by kernel_rfl) ?_ _
              have HS := hid h1
              clear h1 HQ
              go_upto_region 11 with fail
              have HQ := hid (H.out.so 37 1 w1.drew (H.out.drew _ _ HS.out) rfl)
              refine wp_region_G (S := fun _ => True) (st := 8) (by kernel_rfl) ?_
              refine wpAnyG_pure (i := 0) (oi := ⟨some 63, _, _, _, _, none⟩) (v := ?_) rfl (by kernel_rfl) (by kernel_rfl) (by kernel_rfl) (by decide) (fun _ _ _ h => h) (Or.inl ⟨by rfl, ?_⟩) (fun _ => trivial) ?_
              rotate_left 1
              focus (intro w hSw; go_simp; try (with_reducible rfl))
              simp only [Act.put, xA, xB, xC]
              refine wpAnyG_pure (i := 1) (oi := ⟨some 64, _, _, _, _, none⟩) (v := ?_) rfl (by kernel_rfl) (by kernel_rfl) (by kernel_rfl) (by decide) (fun _ _ _ h => h) (Or.inl ⟨by rfl, ?_⟩) (fun _ => trivial) ?_
              rotate_left 1
              focus (intro w hSw; go_simp; try (with_reducible rfl))
              simp only [Act.put, xA, xB, xC]
              refine wpAnyG_pure (i := 2) (oi := ⟨some 65, _, _, _, _, none⟩) (v := ?_) rfl (by kernel_rfl) (by kernel_rfl) (by kernel_rfl) (by decide) (fun _ _ _ h => h) (Or.inl ⟨by rfl, ?_⟩) (fun _ => trivial) ?_
              rotate_left 1
              focus (intro w hSw; go_simp; try (with_reducible rfl))
              simp only [Act.put, xA, xB, xC]
              refine wpAnyG_pure (i := 3) (oi := ⟨some 66, _, _, _, _, none⟩) (v := ?_) rfl (by kernel_rfl) (by kernel_rfl) (by kernel_rfl) (by decide) (fun _ _ _ h => h) (Or.inl ⟨by rfl, ?_⟩) (fun _ => trivial) ?_
              rotate_left 1
              focus (intro w hSw; go_simp; try (with_reducible rfl))
              simp only [Act.put, xA, xB, xC]
              refine wpAnyG_pure (i := 5) (oi := ⟨some 68, _, _, _, _, none⟩) (v := ?_) rfl (by kernel_rfl) (by kernel_rfl) (by kernel_rfl) (by decide) (fun _ _ _ h => h) (Or.inl ⟨by rfl, ?_⟩) (fun _ => trivial) ?_
              rotate_left 1
              focus (intro w hSw; go_simp; try (with_reducible rfl))
              simp only [Act.put, xA, xB, xC]
              refine wpAnyG_pure (i := 6) (oi := ⟨some 69, _, _, _, _, none⟩) (v := ?_) rfl (by kernel_rfl) (by kernel_rfl) (by kernel_rfl) (by decide) (fun _ _ _ h => h) (Or.inl ⟨by rfl, ?_⟩) (fun _ => trivial) ?_
              rotate_left 1
              focus (intro w hSw; go_simp; try (with_reducible rfl))
              simp only [Act.put, xA, xB, xC]
              refine wpAnyG_pure (i := 7) (oi := ⟨some 70, _, _, _, _, none⟩) (v := ?_) rfl (by kernel_rfl) (by kernel_rfl) (by kernel_rfl) (by decide) (fun _ _ _ h => h) (Or.inl ⟨by rfl, ?_⟩) (fun _ => trivial) ?_
              rotate_left 1
              focus (intro w hSw; go_simp; try (with_reducible rfl))
              simp only [Act.put, xA, xB, xC]
              refine wpAnyG_one (i := 4) (o := ⟨some 67, _, _, _, _, none⟩) (by kernel_rfl) rfl (fun K hK => ?_)
              go_simp
              refine hK.out _ _ (fun _ => trivial) ?_
              clear hK K
              try simp only [Act.put, xA, xB, xC]
              refine wpAnyG_one (i := 8) (o := ⟨some 71, _, _, _, _, none⟩) (by kernel_rfl) rfl (fun K hK => ?_)
              go_simp
              refine HQ.out.mono ?_
              rintro e w2 (⟨rfl, h1⟩ | ⟨rfl, h1⟩)
              · exact ⟨rfl, Or.inl ⟨rfl, h1⟩⟩
              · refine hK.out _ _ (fun _ => trivial) ?_
                clear hK K
                try simp only [Act.put, xA, xB, xC]
                refine wpAnyG_done (by kernel_rfl) ?_ _
                go_wp2
                exact ⟨⟨1, by omega, rfl, h1⟩, by simp [intOf]⟩
          · go_upto_region 10 with fail
            have HQ := hid (H.out.sb 38 2 wr.drew (H.out.drew _ _ HS.out) rfl)
            refine wp_region_G (S := fun _ => True) (st := 11) (by kernel_rfl) ?_
            refine wpAnyG_pure (i := 0) (oi := ⟨some 51, _, _, _, _, none⟩) (v := ?_) rfl (by kernel_rfl) (by kernel_rfl) (by kernel_rfl) (by decide) (fun _ _ _ h => h) (Or.inl ⟨by rfl, ?_⟩) (fun _ => trivial) ?_
            rotate_left 1
            focus (intro w hSw; go_simp; try (with_reducible rfl))
            simp only [Act.put, xA, xB, xC]
            refine wpAnyG_pure (i := 1) (oi := ⟨some 52, _, _, _, _, none⟩) (v := ?_) rfl (by kernel_rfl) (by kernel_rfl) (by kernel_rfl) (by decide) (fun _ _ _ h => h) (Or.inl ⟨by rfl, ?_⟩) (fun _ => trivial) ?_
            rotate_left 1
            focus (intro w hSw; go_simp; try (with_reducible rfl))
            simp only [Act.put, xA, xB, xC]
            refine wpAnyG_pure (i := 2) (oi := ⟨some 53, _, _, _, _, none⟩) (v := ?_) rfl (by kernel_rfl) (by kernel_rfl) (by kernel_rfl) (by decide) (fun _ _ _ h => h) (Or.inl ⟨by rfl, ?_⟩) (fun _ => trivial) ?_
            rotate_left 1
            focus (intro w hSw; go_simp; try (with_reducible rfl))
            simp only [Act.put, xA, xB, xC]
            refine wpAnyG_pure (i := 3) (oi := ⟨some 54, _, _, _, _, none⟩) (v := ?_) rfl (by kernel_rfl) (by kernel_rfl) (by kernel_rfl) (by decide) (fun _ _ _ h => h) (Or.inl ⟨by rfl, ?_⟩) (fun _ => trivial) ?_
            rotate_left 1
            focus (intro w hSw; go_simp; try (with_reducible rfl))
            simp only [Act.put, xA, xB, xC]
            refine wpAnyG_pure (i := 4) (oi := ⟨some 55, _, _, _, _, none⟩) (v := ?_) rfl (by kernel_rfl) (by kernel_rfl) (by kernel_rfl) (by decide) (fun _ _ _ h => h) (Or.inl ⟨by rfl, ?_⟩) (fun _ => trivial) ?_
            rotate_left 1
            focus (intro w hSw; go_simp; try (with_reducible rfl))
            simp only [Act.put, xA, xB, xC]
            refine wpAnyG_pure (i := 5) (oi := ⟨some 56, _, _, _, _, none⟩) (v := ?_) rfl (by kernel_rfl) (by kernel_rfl) (by kernel_rfl) (by decide) (fun _ _ _ h => h) (Or.inl ⟨by rfl, ?_⟩) (fun _ => trivial) ?_
            rotate_left 1
            focus (intro w hSw; go_simp; try (with_reducible rfl))
            simp only [Act.put, xA, xB, xC]
            refine wpAnyG_pure (i := 6) (oi := ⟨some 57, _, _, _, _, none⟩) (v := ?_) rfl (by kernel_rfl) (by kernel_rfl) (by kernel_rfl) (by decide) (fun _ _ _ h => h) (Or.inl ⟨by rfl, ?_⟩) (fun _ => trivial) ?_
            rotate_left 1
            focus (intro w hSw; go_simp; try (with_reducible rfl))
            simp only [Act.put, xA, xB, xC]
            refine wpAnyG_pure (i := 8) (oi := ⟨some 59, _, _, _, _, none⟩) (v := ?_) rfl (by kernel_rfl) (by kernel_rfl) (by kernel_rfl) (by decide) (fun _ _ _ h => h) (Or.inl ⟨by rfl, ?_⟩) (fun _ => trivial) ?_
            rotate_left 1
            focus (intro w hSw; go_simp; try (with_reducible rfl))
            simp only [Act.put, xA, xB, xC]
            refine wpAnyG_pure (i := 9) (oi := ⟨some 60, _, _, _, _, none⟩) (v := ?_) rfl (by kernel_rfl) (by kernel_rfl) (by kernel_rfl) (by decide) (fun _ _ _ h => h) (Or.inl ⟨by rfl, ?_⟩) (fun _ => trivial) ?_
            rotate_left 1
            focus (intro w hSw; go_simp; try (with_reducible rfl))
            simp only [Act.put, xA, xB, xC]
            refine wpAnyG_pure (i := 10) (oi := ⟨some 61, _, _, _, _, none⟩) (v := ?_) rfl (by kernel_rfl) (by kernel_rfl) (by kernel_rfl) (by decide) (fun _ _ _ h => h) (Or.inl ⟨by rfl, ?_⟩) (fun _ => trivial) ?_
            rotate_left 1
            focus (intro w hSw; go_simp; try (with_reducible rfl))
            simp only [Act.put, xA, xB, xC]
            refine wpAnyG_one (i := 7) (o := ⟨some 58, _, _, _, _, none⟩) (by kernel_rfl) rfl (fun K hK => ?_)
            go_simp
            refine hK.out _ _ (fun _ => trivial) ?_
            clear hK K
            try simp only [Act.put, xA, xB, xC]
            refine wpAnyG_one (i := 11) (o := ⟨some 62, _, _, _, _, none⟩) (by kernel_rfl) rfl (fun K hK => ?_)
            go_simp
            refine HQ.out.mono ?_
            rintro e w1 (⟨rfl, h1⟩ | ⟨rfl, h1⟩)
            · exact ⟨rfl, Or.inl ⟨rfl, h1⟩⟩
            · refine hK.out _ _ (fun _ => trivial) ?_
              clear hK K
              try simp only [Act.put, xA, xB, xC]
              refine wpAnyG_done (by kernel_rfl) ?_ _
              have HS := hid h1
              clear h1 HQ
              go_upto_region 11 with fail
              have HQ := hid (H.out.so 40 1 w1.drew (H.out.drew _ _ HS.out) rfl)
              refine wp_region_G (S := fun _ => True) (st := 8) (by kernel_rfl) ?_
              refine wpAnyG_pure (i := 0) (oi := ⟨some 63, _, _, _, _, none⟩) (v := ?_) rfl (by kernel_rfl) (by kernel_rfl) (by kernel_rfl) (by decide) (fun _ _ _ h => h) (Or.inl ⟨by rfl, ?_⟩) (fun _ => trivial) ?_
              rotate_left 1
              focus (intro w hSw; go_simp; try (with_reducible rfl))
              simp only [Act.put, xA, xB, xC]
              refine wpAnyG_pure (i := 1) (oi := ⟨some 64, _, _, _, _, none⟩) (v := ?_) rfl (by kernel_rfl) (by kernel_rfl) (by kernel_rfl) (by decide) (fun _ _ _ h => h) (Or.inl ⟨by rfl, ?_⟩) (fun _ => trivial) ?_
              rotate_left 1
              focus (intro w hSw; go_simp; try (with_reducible rfl))
              simp only [Act.put, xA, xB, xC]
              refine wpAnyG_pure (i := 2) (oi := ⟨some 65, _, _, _, _, none⟩) (v := ?_) rfl (by kernel_rfl) (by kernel_rfl) (by kernel_rfl) (by decide) (fun _ _ _ h => h) (Or.inl ⟨by rfl, ?_⟩) (fun _ => trivial) ?_
              rotate_left 1
              focus (intro w hSw; go_simp; try (with_reducible rfl))
              simp only [Act.put, xA, xB, xC]
              refine wpAnyG_pure (i := 3) (oi := ⟨some 66, _, _, _, _, none⟩) (v := ?_) rfl (by kernel_rfl) (by kernel_rfl) (by kernel_rfl) (by decide) (fun _ _ _ h => h) (Or.inl ⟨by rfl, ?_⟩) (fun _ => trivial) ?_
              rotate_left 1
              focus (intro w hSw; go_simp; try (with_reducible rfl))
              simp only [Act.put, xA, xB, xC]
              refine wpAnyG_pure (i := 5) (oi := ⟨some 68, _, _, _, _, none⟩) (v := ?_) rfl (by kernel_rfl) (by kernel_rfl) (by kernel_rfl) (by decide) (fun _ _ _ h => h) (Or.inl ⟨by rfl, ?_⟩) (fun _ => trivial) ?_
              rotate_left 1
              focus (intro w hSw; go_simp; try (with_reducible rfl))
              simp only [Act.put, xA, xB, xC]
              refine wpAnyG_pure (i := 6) (oi := ⟨some 69, _, _, _, _, none⟩) (v := ?_) rfl (by kernel_rfl) (by kernel_rfl) (by kernel_rfl) (by decide) (fun _ _ _ h => h) (Or.inl ⟨by rfl, ?_⟩) (fun _ => trivial) ?_
              rotate_left 1
              focus (intro w hSw; go_simp; try (with_reducible rfl))
              simp only [Act.put, xA, xB, xC]
              refine wpAnyG_pure (i := 7) (oi := ⟨some 70, _, _, _, _, none⟩) (v := ?_) rfl (by kernel_rfl) (by kernel_rfl) (by kernel_rfl) (by decide) (fun _ _ _ h => h) (Or.inl ⟨by rfl, ?_⟩) (fun _ => trivial) ?_
              rotate_left 1
              focus (intro w hSw; go_simp; try (with_reducible rfl))
              simp only [Act.put, xA, xB, xC]
              refine wpAnyG_one (i := 4) (o := ⟨some 67, _, _, _, _, none⟩) (by kernel_rfl) rfl (fun K hK => ?_)
              go_simp
              refine hK.out _ _ (fun _ => trivial) ?_
              clear hK K
              try simp only [Act.put, xA, xB, xC]
              refine wpAnyG_one (i := 8) (o := ⟨some 71, _, _, _, _, none⟩) (by kernel_rfl) rfl (fun K hK => ?_)
              go_simp
              refine HQ.out.mono ?_
              rintro e w2 (⟨rfl, h1⟩ | ⟨rfl, h1⟩)
              · exact ⟨rfl, Or.inl ⟨rfl, h1⟩⟩
              · refine hK.out _ _ (fun _ => trivial) ?_
                clear hK K
                try simp only [Act.put, xA, xB, xC]
                refine wpAnyG_done (by kernel_rfl) ?_ _
                go_wp2
                exact ⟨⟨2, by omega, rfl, h1⟩, by simp [intOf]⟩
          · go_upto_region 13 with fail
            have HQ := hid (H.out.sw 41 2 wr.drew (H.out.drew _ _ HS.out) rfl)
            refine wp_region_G (S := fun _ => True) (st := 13) (by kernel_rfl) ?_
            refine wpAnyG_pure (i := 0) (oi := ⟨some 73, _, _, _, _, none⟩) (v := ?_) rfl (by kernel_rfl) (by kernel_rfl) (by kernel_rfl) (by decide) (fun _ _ _ h => h) (Or.inl ⟨by rfl, ?_⟩) (fun _ => trivial) ?_
            rotate_left 1
            focus (intro w hSw; go_simp; try (with_reducible rfl))
            simp only [Act.put, xA, xB, xC]
            refine wpAnyG_pure (i := 1) (oi := ⟨some 74, _, _, _, _, none⟩) (v := ?_) rfl (by kernel_rfl) (by kernel_rfl) (by kernel_rfl) (by decide) (fun _ _ _ h => h) (Or.inl ⟨by rfl, ?_⟩) (fun _ => trivial) ?_
            rotate_left 1
            focus (intro w hSw; go_simp; try (with_reducible rfl))
            simp only [Act.put, xA, xB, xC]
            refine wpAnyG_pure (i := 2) (oi := ⟨some 75, _, _, _, _, none⟩) (v := ?_) rfl (by kernel_rfl) (by kernel_rfl) (by kernel_rfl) (by decide) (fun _ _ _ h => h) (Or.inl ⟨by rfl, ?_⟩) (fun _ => trivial) ?_
            rotate_left 1
            focus (intro w hSw; go_simp; try (with_reducible rfl))
            simp only [Act.put, xA, xB, xC]
            refine wpAnyG_pure (i := 3) (oi := ⟨some 76, _, _, _, _, none⟩) (v := ?_) rfl (by kernel_rfl) (by kernel_rfl) (by kernel_rfl) (by decide) (fun _ _ _ h => h) (Or.inl ⟨by rfl, ?_⟩) (fun _ => trivial) ?_
            rotate_left 1
            focus (intro w hSw; go_simp; try (with_reducible rfl))
            simp only [Act.put, xA, xB, xC]
            refine wpAnyG_pure (i := 4) (oi := ⟨some 77, _, _, _, _, none⟩) (v := ?_) rfl (by kernel_rfl) (by kernel_rfl) (by kernel_rfl) (by decide) (fun _ _ _ h => h) (Or.inl ⟨by rfl, ?_⟩) (fun _ => trivial) ?_
            rotate_left 1
            focus (intro w hSw; go_simp; try (with_reducible rfl))
            simp only [Act.put, xA, xB, xC]
            refine wpAnyG_pure (i := 5) (oi := ⟨some 78, _, _, _, _, none⟩) (v := ?_) rfl (by kernel_rfl) (by kernel_rfl) (by kernel_rfl) (by decide) (fun _ _ _ h => h) (Or.inl ⟨by rfl, ?_⟩) (fun _ => trivial) ?_
            rotate_left 1
            focus (intro w hSw; go_simp; try (with_reducible rfl))
            simp only [Act.put, xA, xB, xC]
            refine wpAnyG_pure (i := 6) (oi := ⟨some 79, _, _, _, _, none⟩) (v := ?_) rfl (by kernel_rfl) (by kernel_rfl) (by kernel_rfl) (by decide) (fun _ _ _ h => h) (Or.inl ⟨by rfl, ?_⟩) (fun _ => trivial) ?_
            rotate_left 1
            focus (intro w hSw; go_simp; try (with_reducible rfl))
            simp only [Act.put, xA, xB, xC]
            refine wpAnyG_pure (i := 7) (oi := ⟨some 80, _, _, _, _, none⟩) (v := ?_) rfl (by kernel_rfl) (by kernel_rfl) (by kernel_rfl) (by decide) (fun _ _ _ h => h) (Or.inl ⟨by rfl, ?_⟩) (fun _ => trivial) ?_
            rotate_left 1
            focus (intro w hSw; go_simp; try (with_reducible rfl))
            simp only [Act.put, xA, xB, xC]
            refine wpAnyG_pure (i := 8) (oi := ⟨some 81, _, _, _, _, none⟩) (v := ?_) rfl (by kernel_rfl) (by kernel_rfl) (by kernel_rfl) (by decide) (fun _ _ _ h => h) (Or.inl ⟨by rfl, ?_⟩) (fun _ => trivial) ?_
            rotate_left 1
            focus (intro w hSw; go_simp; try (with_reducible rfl))
            simp only [Act.put, xA, xB, xC]
            refine wpAnyG_pure (i := 10) (oi := ⟨some 83, _, _, _, _, none⟩) (v := ?_) rfl (by kernel_rfl) (by kernel_rfl) (by kernel_rfl) (by decide) (fun _ _ _ h => h) (Or.inl ⟨by rfl, ?_⟩) (fun _ => trivial) ?_
            rotate_left 1
            focus (intro w hSw; go_simp; try (with_reducible rfl))
            simp only [Act.put, xA, xB, xC]
            refine wpAnyG_pure (i := 11) (oi := ⟨some 84, _, _, _, _, none⟩) (v := ?_) rfl (by kernel_rfl) (by kernel_rfl) (by kernel_rfl) (by decide) (fun _ _ _ h => h) (Or.inl ⟨by rfl, ?_⟩) (fun _ => trivial) ?_
            rotate_left 1
            focus (intro w hSw; go_simp; try (with_reducible rfl))
            simp only [Act.put, xA, xB, xC]
            refine wpAnyG_pure (i := 12) (oi := ⟨some 85, _, _, _, _, none⟩) (v := ?_) rfl (by kernel_rfl) (by kernel_rfl) (by kernel_rfl) (by decide) (fun _ _ _ h => h) (Or.inl ⟨by rfl, ?_⟩) (fun _ => trivial) ?_
            rotate_left 1
            focus (intro w hSw; go_simp; try (with_reducible rfl))
            simp only [Act.put, xA, xB, xC]
            refine wpAnyG_one (i := 9) (o := ⟨some 82, _, _, _, _, none⟩) (by kernel_rfl) rfl (fun K hK => ?_)
            go_simp
            refine hK.out _ _ (fun _ => trivial) ?_
            clear hK K
            try simp only [Act.put, xA, xB, xC]
            refine wpAnyG_one (i := 13) (o := ⟨some 86, _, _, _, _, none⟩) (by kernel_rfl) rfl (fun K hK => ?_)
            go_simp
            refine HQ.out.mono ?_
            rintro e w1 (⟨rfl, h1⟩ | ⟨rfl, h1⟩)
            · exact ⟨rfl, Or.inl ⟨rfl, h1⟩⟩
            · refine hK.out _ _ (fun _ => trivial) ?_
              clear hK K
              try simp only [Act.put, xA, xB, xC]
              refine wpAnyG_done (by kernel_rfl) ?_ _
              have HS := hid h1
              clear h1 HQ
              go_upto_region 14 with fail
              have HQ := hid (H.out.so 43 2 w1.drew (H.out.drew _ _ HS.out) rfl)
              refine wp_region_G (S := fun _ => True) (st := 13) (by kernel_rfl) ?_
              refine wpAnyG_pure (i := 0) (oi := ⟨some 87, _, _, _, _, none⟩) (v := ?_) rfl (by kernel_rfl) (by kernel_rfl) (by kernel_rfl) (by decide) (fun _ _ _ h => h) (Or.inl ⟨by rfl, ?_⟩) (fun _ => trivial) ?_
              rotate_left 1
              focus (intro w hSw; go_simp; try (with_reducible rfl))
              simp only [Act.put, xA, xB, xC]
              refine wpAnyG_pure (i := 1) (oi := ⟨some 88, _, _, _, _, none⟩) (v := ?_) rfl (by kernel_rfl) (by kernel_rfl) (by kernel_rfl) (by decide) (fun _ _ _ h => h) (Or.inl ⟨by rfl, ?_⟩) (fun _ => trivial) ?_
              rotate_left 1
              focus (intro w hSw; go_simp; try (with_reducible rfl))
              simp only [Act.put, xA, xB, xC]
              refine wpAnyG_pure (i := 2) (oi := ⟨some 89, _, _, _, _, none⟩) (v := ?_) rfl (by kernel_rfl) (by kernel_rfl) (by kernel_rfl) (by decide) (fun _ _ _ h => h) (Or.inl ⟨by rfl, ?_⟩) (fun _ => trivial) ?_
              rotate_left 1
              focus (intro w hSw; go_simp; try (with_reducible rfl))
              simp only [Act.put, xA, xB, xC]
              refine wpAnyG_pure (i := 3) (oi := ⟨some 90, _, _, _, _, none⟩) (v := ?_) rfl (by kernel_rfl) (by kernel_rfl) (by kernel_rfl) (by decide) (fun _ _ _ h => h) (Or.inl ⟨by rfl, ?_⟩) (fun _ => trivial) ?_
              rotate_left 1
              focus (intro w hSw; go_simp; try (with_reducible rfl))
              simp only [Act.put, xA, xB, xC]
              refine wpAnyG_pure (i := 4) (oi := ⟨some 91, _, _, _, _, none⟩) (v := ?_) rfl (by kernel_rfl) (by kernel_rfl) (by kernel_rfl) (by decide) (fun _ _ _ h => h) (Or.inl ⟨by rfl, ?_⟩) (fun _ => trivial) ?_
              rotate_left 1
              focus (intro w hSw; go_simp; try (with_reducible rfl))
              simp only [Act.put, xA, xB, xC]
              refine wpAnyG_pure (i := 5) (oi := ⟨some 92, _, _, _, _, none⟩) (v := ?_) rfl (by kernel_rfl) (by kernel_rfl) (by kernel_rfl) (by decide) (fun _ _ _ h => h) (Or.inl ⟨by rfl, ?_⟩) (fun _ => trivial) ?_
              rotate_left 1
              focus (intro w hSw; go_simp; try (with_reducible rfl))
              simp only [Act.put, xA, xB, xC]
              refine wpAnyG_pure (i := 6) (oi := ⟨some 93, _, _, _, _, none⟩) (v := ?_) rfl (by kernel_rfl) (by kernel_rfl) (by kernel_rfl) (by decide) (fun _ _ _ h => h) (Or.inl ⟨by rfl, ?_⟩) (fun _ => trivial) ?_
              rotate_left 1
              focus (intro w hSw; go_simp; try (with_reducible rfl))
              simp only [Act.put, xA, xB, xC]
              refine wpAnyG_pure (i := 7) (oi := ⟨some 94, _, _, _, _, none⟩) (v := ?_) rfl (by kernel_rfl) (by kernel_rfl) (by kernel_rfl) (by decide) (fun _ _ _ h => h) (Or.inl ⟨by rfl, ?_⟩) (fun _ => trivial) ?_
              rotate_left 1
              focus (intro w hSw; go_simp; try (with_reducible rfl))
              simp only [Act.put, xA, xB, xC]
              refine wpAnyG_pure (i := 8) (oi := ⟨some 95, _, _, _, _, none⟩) (v := ?_) rfl (by kernel_rfl) (by kernel_rfl) (by kernel_rfl) (by decide) (fun _ _ _ h => h) (Or.inl ⟨by rfl, ?_⟩) (fun _ => trivial) ?_
              rotate_left 1
              focus (intro w hSw; go_simp; try (with_reducible rfl))
              simp only [Act.put, xA, xB, xC]
              refine wpAnyG_pure (i := 10) (oi := ⟨some 97, _, _, _, _, none⟩) (v := ?_) rfl (by kernel_rfl) (by kernel_rfl) (by kernel_rfl) (by decide) (fun _ _ _ h => h) (Or.inl ⟨by rfl, ?_⟩) (fun _ => trivial) ?_
              rotate_left 1
              focus (intro w hSw; go_simp; try (with_reducible rfl))
              simp only [Act.put, xA, xB, xC]
              refine wpAnyG_pure (i := 11) (oi := ⟨some 98, _, _, _, _, none⟩) (v := ?_) rfl (by kernel_rfl) (by kernel_rfl) (by kernel_rfl) (by decide) (fun _ _ _ h => h) (Or.inl ⟨by rfl, ?_⟩) (fun _ => trivial) ?_
              rotate_left 1
              focus (intro w hSw; go_simp; try (with_reducible rfl))
              simp only [Act.put, xA, xB, xC]
              refine wpAnyG_pure (i := 12) (oi := ⟨some 99, _, _, _, _, none⟩) (v := ?_) rfl (by kernel_rfl) (by kernel_rfl) (by kernel_rfl) (by decide) (fun _ _ _ h => h) (Or.inl ⟨by rfl, ?_⟩) (fun _ => trivial) ?_
              rotate_left 1
              focus (intro w hSw; go_simp; try (with_reducible rfl))
              simp only [Act.put, xA, xB, xC]
              refine wpAnyG_one (i := 9) (o := ⟨some 96, _, _, _, _, none⟩) (by kernel_rfl) rfl (fun K hK => ?_)
              go_simp
              refine hK.out _ _ (fun _ => trivial) ?_
              clear hK K
              try simp only [Act.put, xA, xB, xC]
              refine wpAnyG_one (i := 13) (o := ⟨some 100, _, _, _, _, none⟩) (by kernel_rfl) rfl (fun K hK => ?_)
              go_simp
              refine HQ.out.mono ?_
              rintro e w2 (⟨rfl, h1⟩ | ⟨rfl, h1⟩)
              · exact ⟨rfl, Or.inl ⟨rfl, h1⟩⟩
              · refine hK.out _ _ (fun _ => trivial) ?_
                clear hK K
                try simp only [Act.put, xA, xB, xC]
                refine wpAnyG_done (by kernel_rfl) ?_ _
                have HS := hid h1
                clear h1 HQ
                go_upto_region 16 with (go_at_call 29; refine (Sv.sound H.out _ HS.out).mono ?_; rintro e w1 (⟨rfl, h1⟩ | ⟨rfl, h1⟩))
                case' inl => exact ⟨rfl, Or.inl ⟨rfl, h1⟩⟩
                have HS := hid h1
                clear h1
                have HQ := hid (H.out.sn 61 3 w1.drew (H.out.drew _ _ HS.out) rfl)
                refine wp_region_G (S := fun _ => True) (st := 17) (by kernel_rfl) ?_
                refine wpAnyG_pure (i := 0) (oi := ⟨some 106, _, _, _, _, none⟩) (v := ?_) rfl (by kernel_rfl) (by kernel_rfl) (by kernel_rfl) (by decide) (fun _ _ _ h => h) (Or.inl ⟨by rfl, ?_⟩) (fun _ => trivial) ?_
                rotate_left 1
                focus (intro w hSw; go_simp; try (with_reducible rfl))
                simp only [Act.put, xA, xB, xC]
                refine wpAnyG_pure (i := 1) (oi := ⟨some 107, _, _, _, _, none⟩) (v := ?_) rfl (by kernel_rfl) (by kernel_rfl) (by kernel_rfl) (by decide) (fun _ _ _ h => h) (Or.inl ⟨by rfl, ?_⟩) (fun _ => trivial) ?_
                rotate_left 1
                focus (intro w hSw; go_simp; try (with_reducible rfl))
                simp only [Act.put, xA, xB, xC]
                refine wpAnyG_pure (i := 2) (oi := ⟨some 108, _, _, _, _, none⟩) (v := ?_) rfl (by kernel_rfl) (by kernel_rfl) (by kernel_rfl) (by decide) (fun _ _ _ h => h) (Or.inl ⟨by rfl, ?_⟩) (fun _ => trivial) ?_
                rotate_left 1
                focus (intro w hSw; go_simp; try (with_reducible rfl))
                simp only [Act.put, xA, xB, xC]
                refine wpAnyG_pure (i := 3) (oi := ⟨some 109, _, _, _, _, none⟩) (v := ?_) rfl (by kernel_rfl) (by kernel_rfl) (by kernel_rfl) (by decide) (fun _ _ _ h => h) (Or.inl ⟨by rfl, ?_⟩) (fun _ => trivial) ?_
                rotate_left 1
                focus (intro w hSw; go_simp; try (with_reducible rfl))
                simp only [Act.put, xA, xB, xC]
                refine wpAnyG_pure (i := 4) (oi := ⟨some 110, _, _, _, _, none⟩) (v := ?_) rfl (by kernel_rfl) (by kernel_rfl) (by kernel_rfl) (by decide) (fun _ _ _ h => h) (Or.inl ⟨by rfl, ?_⟩) (fun _ => trivial) ?_
                rotate_left 1
                focus (intro w hSw; go_simp; try (with_reducible rfl))
                simp only [Act.put, xA, xB, xC]
                refine wpAnyG_pure (i := 5) (oi := ⟨some 111, _, _, _, _, none⟩) (v := ?_) rfl (by kernel_rfl) (by kernel_rfl) (by kernel_rfl) (by decide) (fun _ _ _ h => h) (Or.inl ⟨by rfl, ?_⟩) (fun _ => trivial) ?_
                rotate_left 1
                focus (intro w hSw; go_simp; try (with_reducible rfl))
                simp only [Act.put, xA, xB, xC]
                refine wpAnyG_pure (i := 6) (oi := ⟨some 112, _, _, _, _, none⟩) (v := ?_) rfl (by kernel_rfl) (by kernel_rfl) (by kernel_rfl) (by decide) (fun _ _ _ h => h) (Or.inl ⟨by rfl, ?_⟩) (fun _ => trivial) ?_
                rotate_left 1
                focus (intro w hSw; go_simp; try (with_reducible rfl))
                simp only [Act.put, xA, xB, xC]
                refine wpAnyG_pure (i := 7) (oi := ⟨some 113, _, _, _, _, none⟩) (v := ?_) rfl (by kernel_rfl) (by kernel_rfl) (by kernel_rfl) (by decide) (fun _ _ _ h => h) (Or.inl ⟨by rfl, ?_⟩) (fun _ => trivial) ?_
                rotate_left 1
                focus (intro w hSw; go_simp; try (with_reducible rfl))
                simp only [Act.put, xA, xB, xC]
                refine wpAnyG_pure (i := 8) (oi := ⟨some 114, _, _, _, _, none⟩) (v := ?_) rfl (by kernel_rfl) (by kernel_rfl) (by kernel_rfl) (by decide) (fun _ _ _ h => h) (Or.inl ⟨by rfl, ?_⟩) (fun _ => trivial) ?_
                rotate_left 1
                focus (intro w hSw; go_simp; try (with_reducible rfl))
                simp only [Act.put, xA, xB, xC]
                refine wpAnyG_pure (i := 9) (oi := ⟨some 115, _, _, _, _, none⟩) (v := ?_) rfl (by kernel_rfl) (by kernel_rfl) (by kernel_rfl) (by decide) (fun _ _ _ h => h) (Or.inl ⟨by rfl, ?_⟩) (fun _ => trivial) ?_
                rotate_left 1
                focus (intro w hSw; go_simp; try (with_reducible rfl))
                simp only [Act.put, xA, xB, xC]
                refine wpAnyG_pure (i := 10) (oi := ⟨some 116, _, _, _, _, none⟩) (v := ?_) rfl (by kernel_rfl) (by kernel_rfl) (by kernel_rfl) (by decide) (fun _ _ _ h => h) (Or.inl ⟨by rfl, ?_⟩) (fun _ => trivial) ?_
                rotate_left 1
                focus (intro w hSw; go_simp; try (with_reducible rfl))
                simp only [Act.put, xA, xB, xC]
                refine wpAnyG_pure (i := 11) (oi := ⟨some 117, _, _, _, _, none⟩) (v := ?_) rfl (by kernel_rfl) (by kernel_rfl) (by kernel_rfl) (by decide) (fun _ _ _ h => h) (Or.inl ⟨by rfl, ?_⟩) (fun _ => trivial) ?_
                rotate_left 1
                focus (intro w hSw; go_simp; try (with_reducible rfl))
                simp only [Act.put, xA, xB, xC]
                refine wpAnyG_pure (i := 12) (oi := ⟨some 118, _, _, _, _, none⟩) (v := ?_) rfl (by kernel_rfl) (by kernel_rfl) (by kernel_rfl) (by decide) (fun _ _ _ h => h) (Or.inl ⟨by rfl, ?_⟩) (fun _ => trivial) ?_
                rotate_left 1
                focus (intro w hSw; go_simp; try (with_reducible rfl))
                simp only [Act.put, xA, xB, xC]
                refine wpAnyG_pure (i := 14) (oi := ⟨some 120, _, _, _, _, none⟩) (v := ?_) rfl (by kernel_rfl) (by kernel_rfl) (by kernel_rfl) (by decide) (fun _ _ _ h => h) (Or.inl ⟨by rfl, ?_⟩) (fun _ => trivial) ?_
                rotate_left 1
                focus (intro w hSw; go_simp; try (with_reducible rfl))
                simp only [Act.put, xA, xB, xC]
                refine wpAnyG_pure (i := 15) (oi := ⟨some 121, _, _, _, _, none⟩) (v := ?_) rfl (by kernel_rfl) (by kernel_rfl) (by kernel_rfl) (by decide) (fun _ _ _ h => h) (Or.inl ⟨by rfl, ?_⟩) (fun _ => trivial) ?_
                rotate_left 1
                focus (intro w hSw; go_simp; try (with_reducible rfl))
                simp only [Act.put, xA, xB, xC]
                refine wpAnyG_pure (i := 16) (oi := ⟨some 122, _, _, _, _, none⟩) (v := ?_) rfl (by kernel_rfl) (by kernel_rfl) (by kernel_rfl) (by decide) (fun _ _ _ h => h) (Or.inl ⟨by rfl, ?_⟩) (fun _ => trivial) ?_
                rotate_left 1
                focus (intro w hSw; go_simp; try (with_reducible rfl))
                simp only [Act.put, xA, xB, xC]
                refine wpAnyG_one (i := 13) (o := ⟨some 119, _, _, _, _, none⟩) (by kernel_rfl) rfl (fun K hK => ?_)
                go_simp
                refine hK.out _ _ (fun _ => trivial) ?_
                clear hK K
                try simp only [Act.put, xA, xB, xC]
                refine wpAnyG_one (i := 17) (o := ⟨some 123, _, _, _, _, none⟩) (by kernel_rfl) rfl (fun K hK => ?_)
                go_simp
                refine HQ.out.mono ?_
                rintro e w2 (⟨rfl, h1⟩ | ⟨rfl, h1⟩)
                · exact ⟨rfl, Or.inl ⟨rfl, h1⟩⟩
                · refine hK.out _ _ (fun _ => trivial) ?_
                  clear hK K
                  try simp only [Act.put, xA, xB, xC]
                  refine wpAnyG_done (by kernel_rfl) ?_ _
                  have HS := hid h1
                  clear h1 HQ
                  go_upto_region 17 with fail
                  have HQ := hid (H.out.so 64 1 w2.drew (H.out.drew _ _ HS.out) rfl)
                  refine wp_region_G (S := fun _ => True) (st := 9) (by kernel_rfl) ?_
                  refine wpAnyG_pure (i := 0) (oi := ⟨some 124, _, _, _, _, none⟩) (v := ?_) rfl (by kernel_rfl) (by kernel_rfl) (by kernel_rfl) (by decide) (fun _ _ _ h => h) (Or.inl ⟨by rfl, ?_⟩) (fun _ => trivial) ?_
                  rotate_left 1
                  focus (intro w hSw; go_simp; try (with_reducible rfl))
                  simp only [Act.put, xA, xB, xC]
                  refine wpAnyG_pure (i := 1) (oi := ⟨some 125, _, _, _, _, none⟩) (v := ?_) rfl (by kernel_rfl) (by kernel_rfl) (by kernel_rfl) (by decide) (fun _ _ _ h => h) (Or.inl ⟨by rfl, ?_⟩) (fun _ => trivial) ?_
                  rotate_left 1
                  focus (intro w hSw; go_simp; try (with_reducible rfl))
                  simp only [Act.put, xA, xB, xC]
                  refine wpAnyG_pure (i := 2) (oi := ⟨some 126, _, _, _, _, none⟩) (v := ?_) rfl (by kernel_rfl) (by kernel_rfl) (by kernel_rfl) (by decide) (fun _ _ _ h => h) (Or.inl ⟨by rfl, ?_⟩) (fun _ => trivial) ?_
                  rotate_left 1
                  focus (intro w hSw; go_simp; try (with_reducible rfl))
                  simp only [Act.put, xA, xB, xC]
                  refine wpAnyG_pure (i := 3) (oi := ⟨some 127, _, _, _, _, none⟩) (v := ?_) rfl (by kernel_rfl) (by kernel_rfl) (by kernel_rfl) (by decide) (fun _ _ _ h => h) (Or.inl ⟨by rfl, ?_⟩) (fun _ => trivial) ?_
                  rotate_left 1
                  focus (intro w hSw; go_simp; try (with_reducible rfl))
                  simp only [Act.put, xA, xB, xC]
                  refine wpAnyG_pure (i := 4) (oi := ⟨some 128, _, _, _, _, none⟩) (v := ?_) rfl (by kernel_rfl) (by kernel_rfl) (by kernel_rfl) (by decide) (fun _ _ _ h => h) (Or.inl ⟨by rfl, ?_⟩) (fun _ => trivial) ?_
                  rotate_left 1
                  focus (intro w hSw; go_simp; try (with_reducible rfl))
                  simp only [Act.put, xA, xB, xC]
                  refine wpAnyG_pure (i := 6) (oi := ⟨some 130, _, _, _, _, none⟩) (v := ?_) rfl (by kernel_rfl) (by kernel_rfl) (by kernel_rfl) (by decide) (fun _ _ _ h => h) (Or.inl ⟨by rfl, ?_⟩) (fun _ => trivial) ?_
                  rotate_left 1
                  focus (intro w hSw; go_simp; try (with_reducible rfl))
                  simp only [Act.put, xA, xB, xC]
                  refine wpAnyG_pure (i := 7) (oi := ⟨some 131, _, _, _, _, none⟩) (v := ?_) rfl (by kernel_rfl) (by kernel_rfl) (by kernel_rfl) (by decide) (fun _ _ _ h => h) (Or.inl ⟨by rfl, ?_⟩) (fun _ => trivial) ?_
                  rotate_left 1
                  focus (intro w hSw; go_simp; try (with_reducible rfl))
                  simp only [Act.put, xA, xB, xC]
                  refine wpAnyG_pure (i := 8) (oi := ⟨some 132, _, _, _, _, none⟩) (v := ?_) rfl (by kernel_rfl) (by kernel_rfl) (by kernel_rfl) (by decide) (fun _ _ _ h => h) (Or.inl ⟨by rfl, ?_⟩) (fun _ => trivial) ?_
                  rotate_left 1
                  focus (intro w hSw; go_simp; try (with_reducible rfl))
                  simp only [Act.put, xA, xB, xC]
                  refine wpAnyG_one (i := 5) (o := ⟨some 129, _, _, _, _, none⟩) (by kernel_rfl) rfl (fun K hK => ?_)
                  go_simp
                  refine hK.out _ _ (fun _ => trivial) ?_
                  clear hK K
                  try simp only [Act.put, xA, xB, xC]
                  refine wpAnyG_one (i := 9) (o := ⟨some 133, _, _, _, _, none⟩) (by kernel_rfl) rfl (fun K hK => ?_)
                  go_simp
                  refine HQ.out.mono ?_
                  rintro e w1 (⟨rfl, h1⟩ | ⟨rfl, h1⟩)
                  · exact ⟨rfl, Or.inl ⟨rfl, h1⟩⟩
                  · refine hK.out _ _ (fun _ => trivial) ?_
                    clear hK K
                    try simp only [Act.put, xA, xB, xC]
                    refine wpAnyG_done (by kernel_rfl) ?_ _
                    have HS := hid h1
                    clear h1 HQ
                    go_upto_region 18 with fail
                    have HQ := hid (H.out.sw 65 2 w1.drew (H.out.drew _ _ HS.out) rfl)
                    refine wp_region_G (S := fun _ => True) (st := 11) (by kernel_rfl) ?_
                    refine wpAnyG_pure (i := 0) (oi := ⟨some 134, _, _, _, _, none⟩) (v := ?_) rfl (by kernel_rfl) (by kernel_rfl) (by kernel_rfl) (by decide) (fun _ _ _ h => h) (Or.inl ⟨by rfl, ?_⟩) (fun _ => trivial) ?_
                    rotate_left 1
                    focus (intro w hSw; go_simp; try (with_reducible rfl))
                    simp only [Act.put, xA, xB, xC]
                    refine wpAnyG_pure (i := 1) (oi := ⟨some 135, _, _, _, _, none⟩) (v := ?_) rfl (by kernel_rfl) (by kernel_rfl) (by kernel_rfl) (by decide) (fun _ _ _ h => h) (Or.inl ⟨by rfl, ?_⟩) (fun _ => trivial) ?_
                    rotate_left 1
                    focus (intro w hSw; go_simp; try (with_reducible rfl))
                    simp only [Act.put, xA, xB, xC]
                    refine wpAnyG_pure (i := 2) (oi := ⟨some 136, _, _, _, _, none⟩) (v := ?_) rfl (by kernel_rfl) (by kernel_rfl) (by kernel_rfl) (by decide) (fun _ _ _ h => h) (Or.inl ⟨by rfl, ?_⟩) (fun _ => trivial) ?_
                    rotate_left 1
                    focus (intro w hSw; go_simp; try (with_reducible rfl))
                    simp only [Act.put, xA, xB, xC]
                    refine wpAnyG_pure (i := 3) (oi := ⟨some 137, _, _, _, _, none⟩) (v := ?_) rfl (by kernel_rfl) (by kernel_rfl) (by kernel_rfl) (by decide) (fun _ _ _ h => h) (Or.inl ⟨by rfl, ?_⟩) (fun _ => trivial) ?_
                    rotate_left 1
                    focus (intro w hSw; go_simp; try (with_reducible rfl))
                    simp only [Act.put, xA, xB, xC]
                    refine wpAnyG_pure (i := 4) (oi := ⟨some 138, _, _, _, _, none⟩) (v := ?_) rfl (by kernel_rfl) (by kernel_rfl) (by kernel_rfl) (by decide) (fun _ _ _ h => h) (Or.inl ⟨by rfl, ?_⟩) (fun _ => trivial) ?_
                    rotate_left 1
                    focus (intro w hSw; go_simp; try (with_reducible rfl))
                    simp only [Act.put, xA, xB, xC]
                    refine wpAnyG_pure (i := 5) (oi := ⟨some 139, _, _, _, _, none⟩) (v := ?_) rfl (by kernel_rfl) (by kernel_rfl) (by kernel_rfl) (by decide) (fun _ _ _ h => h) (Or.inl ⟨by rfl, ?_⟩) (fun _ => trivial) ?_
                    rotate_left 1
                    focus (intro w hSw; go_simp; try (with_reducible rfl))
                    simp only [Act.put, xA, xB, xC]
                    refine wpAnyG_pure (i := 6) (oi := ⟨some 140, _, _, _, _, none⟩) (v := ?_) rfl (by kernel_rfl) (by kernel_rfl) (by kernel_rfl) (by decide) (fun _ _ _ h => h) (Or.inl ⟨by rfl, ?_⟩) (fun _ => trivial) ?_
                    rotate_left 1
                    focus (intro w hSw; go_simp; try (with_reducible rfl))
                    simp only [Act.put, xA, xB, xC]
                    refine wpAnyG_pure (i := 8) (oi := ⟨some 142, _, _, _, _, none⟩) (v := ?_) rfl (by kernel_rfl) (by kernel_rfl) (by kernel_rfl) (by decide) (fun _ _ _ h => h) (Or.inl ⟨by rfl, ?_⟩) (fun _ => trivial) ?_
                    rotate_left 1
                    focus (intro w hSw; go_simp; try (with_reducible rfl))
                    simp only [Act.put, xA, xB, xC]
                    refine wpAnyG_pure (i := 9) (oi := ⟨some 143, _, _, _, _, none⟩) (v := ?_) rfl (by kernel_rfl) (by kernel_rfl) (by kernel_rfl) (by decide) (fun _ _ _ h => h) (Or.inl ⟨by rfl, ?_⟩) (fun _ => trivial) ?_
                    rotate_left 1
                    focus (intro w hSw; go_simp; try (with_reducible rfl))
                    simp only [Act.put, xA, xB, xC]
                    refine wpAnyG_pure (i := 10) (oi := ⟨some 144, _, _, _, _, none⟩) (v := ?_) rfl (by kernel_rfl) (by kernel_rfl) (by kernel_rfl) (by decide) (fun _ _ _ h => h) (Or.inl ⟨by rfl, ?_⟩) (fun _ => trivial) ?_
                    rotate_left 1
                    focus (intro w hSw; go_simp; try (with_reducible rfl))
                    simp only [Act.put, xA, xB, xC]
                    refine wpAnyG_one (i := 7) (o := ⟨some 141, _, _, _, _, none⟩) (by kernel_rfl) rfl (fun K hK => ?_)
                    go_simp
                    refine hK.out _ _ (fun _ => trivial) ?_
                    clear hK K
                    try simp only [Act.put, xA, xB, xC]
                    refine wpAnyG_one (i := 11) (o := ⟨some 145, _, _, _, _, none⟩) (by kernel_rfl) rfl (fun K hK => ?_)
                    go_simp
                    refine HQ.out.mono ?_
                    rintro e w2 (⟨rfl, h1⟩ | ⟨rfl, h1⟩)
                    · exact ⟨rfl, Or.inl ⟨rfl, h1⟩⟩
                    · refine hK.out _ _ (fun _ => trivial) ?_
                      clear hK K
                      try simp only [Act.put, xA, xB, xC]
                      refine wpAnyG_done (by kernel_rfl) ?_ _
                      have HS := hid h1
                      clear h1 HQ
                      go_upto_region 19 with fail
                      have HQ := hid (H.out.sb 67 2 w2.drew (H.out.drew _ _ HS.out) rfl)
                      refine wp_region_G (S := fun _ => True) (st := 13) (by kernel_rfl) ?_
                      refine wpAnyG_pure (i := 0) (oi := ⟨some 146, _, _, _, _, none⟩) (v := ?_) rfl (by kernel_rfl) (by kernel_rfl) (by kernel_rfl) (by decide) (fun _ _ _ h => h) (Or.inl ⟨by rfl, ?_⟩) (fun _ => trivial) ?_
                      rotate_left 1
                      focus (intro w hSw; go_simp; try (with_reducible rfl))
                      simp only [Act.put, xA, xB, xC]
                      refine wpAnyG_pure (i := 1) (oi := ⟨some 147, _, _, _, _, none⟩) (v := ?_) rfl (by kernel_rfl) (by kernel_rfl) (by kernel_rfl) (by decide) (fun _ _ _ h => h) (Or.inl ⟨by rfl, ?_⟩) (fun _ => trivial) ?_
                      rotate_left 1
                      focus (intro w hSw; go_simp; try (with_reducible rfl))
                      simp only [Act.put, xA, xB, xC]
                      refine wpAnyG_pure (i := 2) (oi := ⟨some 148, _, _, _, _, none⟩) (v := ?_) rfl (by kernel_rfl) (by kernel_rfl) (by kernel_rfl) (by decide) (fun _ _ _ h => h) (Or.inl ⟨by rfl, ?_⟩) (fun _ => trivial) ?_
                      rotate_left 1
                      focus (intro w hSw; go_simp; try (with_reducible rfl))
                      simp only [Act.put, xA, xB, xC]
                      refine wpAnyG_pure (i := 3) (oi := ⟨some 149, _, _, _, _, none⟩) (v := ?_) rfl (by kernel_rfl) (by kernel_rfl) (by kernel_rfl) (by decide) (fun _ _ _ h => h) (Or.inl ⟨by rfl, ?_⟩) (fun _ => trivial) ?_
                      rotate_left 1
                      focus (intro w hSw; go_simp; try (with_reducible rfl))
                      simp only [Act.put, xA, xB, xC]
                      refine wpAnyG_pure (i := 4) (oi := ⟨some 150, _, _, _, _, none⟩) (v := ?_) rfl (by kernel_rfl) (by kernel_rfl) (by kernel_rfl) (by decide) (fun _ _ _ h => h) (Or.inl ⟨by rfl, ?_⟩) (fun _ => trivial) ?_
                      rotate_left 1
                      focus (intro w hSw; go_simp; try (with_reducible rfl))
                      simp only [Act.put, xA, xB, xC]
                      refine wpAnyG_pure (i := 5) (oi := ⟨some 151, _, _, _, _, none⟩) (v := ?_) rfl (by kernel_rfl) (by kernel_rfl) (by kernel_rfl) (by decide) (fun _ _ _ h => h) (Or.inl ⟨by rfl, ?_⟩) (fun _ => trivial) ?_
                      rotate_left 1
                      focus (intro w hSw; go_simp; try (with_reducible rfl))
                      simp only [Act.put, xA, xB, xC]
                      refine wpAnyG_pure (i := 6) (oi := ⟨some 152, _, _, _, _, none⟩) (v := ?_) rfl (by kernel_rfl) (by kernel_rfl) (by kernel_rfl) (by decide) (fun _ _ _ h => h) (Or.inl ⟨by rfl, ?_⟩) (fun _ => trivial) ?_
                      rotate_left 1
                      focus (intro w hSw; go_simp; try (with_reducible rfl))
                      simp only [Act.put, xA, xB, xC]
                      refine wpAnyG_pure (i := 7) (oi := ⟨some 153, _, _, _, _, none⟩) (v := ?_) rfl (by kernel_rfl) (by kernel_rfl) (by kernel_rfl) (by decide) (fun _ _ _ h => h) (Or.inl ⟨by rfl, ?_⟩) (fun _ => trivial) ?_
                      rotate_left 1
                      focus (intro w hSw; go_simp; try (with_reducible rfl))
                      simp only [Act.put, xA, xB, xC]
                      refine wpAnyG_pure (i := 8) (oi := ⟨some 154, _, _, _, _, none⟩) (v := ?_) rfl (by kernel_rfl) (by kernel_rfl) (by kernel_rfl) (by decide) (fun _ _ _ h => h) (Or.inl ⟨by rfl, ?_⟩) (fun _ => trivial) ?_
                      rotate_left 1
                      focus (intro w hSw; go_simp; try (with_reducible rfl))
                      simp only [Act.put, xA, xB, xC]
                      refine wpAnyG_pure (i := 10) (oi := ⟨some 156, _, _, _, _, none⟩) (v := ?_) rfl (by kernel_rfl) (by kernel_rfl) (by kernel_rfl) (by decide) (fun _ _ _ h => h) (Or.inl ⟨by rfl, ?_⟩) (fun _ => trivial) ?_
                      rotate_left 1
                      focus (intro w hSw; go_simp; try (with_reducible rfl))
                      simp only [Act.put, xA, xB, xC]
                      refine wpAnyG_pure (i := 11) (oi := ⟨some 157, _, _, _, _, none⟩) (v := ?_) rfl (by kernel_rfl) (by kernel_rfl) (by kernel_rfl) (by decide) (fun _ _ _ h => h) (Or.inl ⟨by rfl, ?_⟩) (fun _ => trivial) ?_
                      rotate_left 1
                      focus (intro w hSw; go_simp; try (with_reducible rfl))
                      simp only [Act.put, xA, xB, xC]
                      refine wpAnyG_pure (i := 12) (oi := ⟨some 158, _, _, _, _, none⟩) (v := ?_) rfl (by kernel_rfl) (by kernel_rfl) (by kernel_rfl) (by decide) (fun _ _ _ h => h) (Or.inl ⟨by rfl, ?_⟩) (fun _ => trivial) ?_
                      rotate_left 1
                      focus (intro w hSw; go_simp; try (with_reducible rfl))
                      simp only [Act.put, xA, xB, xC]
                      refine wpAnyG_one (i := 9) (o := ⟨some 155, _, _, _, _, none⟩) (by kernel_rfl) rfl (fun K hK => ?_)
                      go_simp
                      refine hK.out _ _ (fun _ => trivial) ?_
                      clear hK K
                      try simp only [Act.put, xA, xB, xC]
                      refine wpAnyG_one (i := 13) (o := ⟨some 159, _, _, _, _, none⟩) (by kernel_rfl) rfl (fun K hK => ?_)
                      go_simp
                      refine HQ.out.mono ?_
                      rintro e w1 (⟨rfl, h1⟩ | ⟨rfl, h1⟩)
                      · exact ⟨rfl, Or.inl ⟨rfl, h1⟩⟩
                      · refine hK.out _ _ (fun _ => trivial) ?_
                        clear hK K
                        try simp only [Act.put, xA, xB, xC]
                        refine wpAnyG_done (by kernel_rfl) ?_ _
                        have HS := hid h1
                        clear h1 HQ
                        go_upto_region 20 with fail
                        have HQ := hid (H.out.so 69 3 w1.drew (H.out.drew _ _ HS.out) rfl)
                        refine wp_region_G (S := fun _ => True) (st := 14) (by kernel_rfl) ?_
                        refine wpAnyG_pure (i := 0) (oi := ⟨some 160, _, _, _, _, none⟩) (v := ?_) rfl (by kernel_rfl) (by kernel_rfl) (by kernel_rfl) (by decide) (fun _ _ _ h => h) (Or.inl ⟨by rfl, ?_⟩) (fun _ => trivial) ?_
                        rotate_left 1
                        focus (intro w hSw; go_simp; try (with_reducible rfl))
                        simp only [Act.put, xA, xB, xC]
                        refine wpAnyG_pure (i := 1) (oi := ⟨some 161, _, _, _, _, none⟩) (v := ?_) rfl (by kernel_rfl) (by kernel_rfl) (by kernel_rfl) (by decide) (fun _ _ _ h => h) (Or.inl ⟨by rfl, ?_⟩) (fun _ => trivial) ?_
                        rotate_left 1
                        focus (intro w hSw; go_simp; try (with_reducible rfl))
                        simp only [Act.put, xA, xB, xC]
                        refine wpAnyG_pure (i := 2) (oi := ⟨some 162, _, _, _, _, none⟩) (v := ?_) rfl (by kernel_rfl) (by kernel_rfl) (by kernel_rfl) (by decide) (fun _ _ _ h => h) (Or.inl ⟨by rfl, ?_⟩) (fun _ => trivial) ?_
                        rotate_left 1
                        focus (intro w hSw; go_simp; try (with_reducible rfl))
                        simp only [Act.put, xA, xB, xC]
                        refine wpAnyG_pure (i := 3) (oi := ⟨some 163, _, _, _, _, none⟩) (v := ?_) rfl (by kernel_rfl) (by kernel_rfl) (by kernel_rfl) (by decide) (fun _ _ _ h => h) (Or.inl ⟨by rfl, ?_⟩) (fun _ => trivial) ?_
                        rotate_left 1
                        focus (intro w hSw; go_simp; try (with_reducible rfl))
                        simp only [Act.put, xA, xB, xC]
                        refine wpAnyG_pure (i := 4) (oi := ⟨some 164, _, _, _, _, none⟩) (v := ?_) rfl (by kernel_rfl) (by kernel_rfl) (by kernel_rfl) (by decide) (fun _ _ _ h => h) (Or.inl ⟨by rfl, ?_⟩) (fun _ => trivial) ?_
                        rotate_left 1
                        focus (intro w hSw; go_simp; try (with_reducible rfl))
                        simp only [Act.put, xA, xB, xC]
                        refine wpAnyG_pure (i := 5) (oi := ⟨some 165, _, _, _, _, none⟩) (v := ?_) rfl (by kernel_rfl) (by kernel_rfl) (by kernel_rfl) (by decide) (fun _ _ _ h => h) (Or.inl ⟨by rfl, ?_⟩) (fun _ => trivial) ?_
                        rotate_left 1
                        focus (intro w hSw; go_simp; try (with_reducible rfl))
                        simp only [Act.put, xA, xB, xC]
                        refine wpAnyG_pure (i := 6) (oi := ⟨some 166, _, _, _, _, none⟩) (v := ?_) rfl (by kernel_rfl) (by kernel_rfl) (by kernel_rfl) (by decide) (fun _ _ _ h => h) (Or.inl ⟨by rfl, ?_⟩) (fun _ => trivial) ?_
                        rotate_left 1
                        focus (intro w hSw; go_simp; try (with_reducible rfl))
                        simp only [Act.put, xA, xB, xC]
                        refine wpAnyG_pure (i := 7) (oi := ⟨some 167, _, _, _, _, none⟩) (v := ?_) rfl (by kernel_rfl) (by kernel_rfl) (by kernel_rfl) (by decide) (fun _ _ _ h => h) (Or.inl ⟨by rfl, ?_⟩) (fun _ => trivial) ?_
                        rotate_left 1
                        focus (intro w hSw; go_simp; try (with_reducible rfl))
                        simp only [Act.put, xA, xB, xC]
                        refine wpAnyG_pure (i := 8) (oi := ⟨some 168, _, _, _, _, none⟩) (v := ?_) rfl (by kernel_rfl) (by kernel_rfl) (by kernel_rfl) (by decide) (fun _ _ _ h => h) (Or.inl ⟨by rfl, ?_⟩) (fun _ => trivial) ?_
                        rotate_left 1
                        focus (intro w hSw; go_simp; try (with_reducible rfl))
                        simp only [Act.put, xA, xB, xC]
                        refine wpAnyG_pure (i := 9) (oi := ⟨some 169, _, _, _, _, none⟩) (v := ?_) rfl (by kernel_rfl) (by kernel_rfl) (by kernel_rfl) (by decide) (fun _ _ _ h => h) (Or.inl ⟨by rfl, ?_⟩) (fun _ => trivial) ?_
                        rotate_left 1
                        focus (intro w hSw; go_simp; try (with_reducible rfl))
                        simp only [Act.put, xA, xB, xC]
                        refine wpAnyG_pure (i := 11) (oi := ⟨some 171, _, _, _, _, none⟩) (v := ?_) rfl (by kernel_rfl) (by kernel_rfl) (by kernel_rfl) (by decide) (fun _ _ _ h => h) (Or.inl ⟨by rfl, ?_⟩) (fun _ => trivial) ?_
                        rotate_left 1
                        focus (intro w hSw; go_simp; try (with_reducible rfl))
                        simp only [Act.put, xA, xB, xC]
                        refine wpAnyG_pure (i := 12) (oi := ⟨some 172, _, _, _, _, none⟩) (v := ?_) rfl (by kernel_rfl) (by kernel_rfl) (by kernel_rfl) (by decide) (fun _ _ _ h => h) (Or.inl ⟨by rfl, ?_⟩) (fun _ => trivial) ?_
                        rotate_left 1
                        focus (intro w hSw; go_simp; try (with_reducible rfl))
                        simp only [Act.put, xA, xB, xC]
                        refine wpAnyG_pure (i := 13) (oi := ⟨some 173, _, _, _, _, none⟩) (v := ?_) rfl (by kernel_rfl) (by kernel_rfl) (by kernel_rfl) (by decide) (fun _ _ _ h => h) (Or.inl ⟨by rfl, ?_⟩) (fun _ => trivial) ?_
                        rotate_left 1
                        focus (intro w hSw; go_simp; try (with_reducible rfl))
                        simp only [Act.put, xA, xB, xC]
                        refine wpAnyG_one (i := 10) (o := ⟨some 170, _, _, _, _, none⟩) (by kernel_rfl) rfl (fun K hK => ?_)
                        go_simp
                        refine hK.out _ _ (fun _ => trivial) ?_
                        clear hK K
                        try simp only [Act.put, xA, xB, xC]
                        refine wpAnyG_one (i := 14) (o := ⟨some 174, _, _, _, _, none⟩) (by kernel_rfl) rfl (fun K hK => ?_)
                        go_simp
                        refine HQ.out.mono ?_
                        rintro e w2 (⟨rfl, h1⟩ | ⟨rfl, h1⟩)
                        · exact ⟨rfl, Or.inl ⟨rfl, h1⟩⟩
                        · refine hK.out _ _ (fun _ => trivial) ?_
                          clear hK K
                          try simp only [Act.put, xA, xB, xC]
                          refine wpAnyG_done (by kernel_rfl) ?_ _
                          have HS := hid h1
                          clear h1 HQ
                          go_upto_region 21 with fail
                          have HQ := hid (H.out.sn 72 3 w2.drew (H.out.drew _ _ HS.out) rfl)
                          refine wp_region_G (S := fun _ => True) (st := 14) (by kernel_rfl) ?_
                          refine wpAnyG_pure (i := 0) (oi := ⟨some 175, _, _, _, _, none⟩) (v := ?_) rfl (by kernel_rfl) (by kernel_rfl) (by kernel_rfl) (by decide) (fun _ _ _ h => h) (Or.inl ⟨by rfl, ?_⟩) (fun _ => trivial) ?_
                          rotate_left 1
                          focus (intro w hSw; go_simp; try (with_reducible rfl))
                          simp only [Act.put, xA, xB, xC]
                          refine wpAnyG_pure (i := 1) (oi := ⟨some 176, _, _, _, _, none⟩) (v := ?_) rfl (by kernel_rfl) (by kernel_rfl) (by kernel_rfl) (by decide) (fun _ _ _ h => h) (Or.inl ⟨by rfl, ?_⟩) (fun _ => trivial) ?_
                          rotate_left 1
                          focus (intro w hSw; go_simp; try (with_reducible rfl))
                          simp only [Act.put, xA, xB, xC]
                          refine wpAnyG_pure (i := 2) (oi := ⟨some 177, _, _, _, _, none⟩) (v := ?_) rfl (by kernel_rfl) (by kernel_rfl) (by kernel_rfl) (by decide) (fun _ _ _ h => h) (Or.inl ⟨by rfl, ?_⟩) (fun _ => trivial) ?_
                          rotate_left 1
                          focus (intro w hSw; go_simp; try (with_reducible rfl))
                          simp only [Act.put, xA, xB, xC]
                          refine wpAnyG_pure (i := 3) (oi := ⟨some 178, _, _, _, _, none⟩) (v := ?_) rfl (by kernel_rfl) (by kernel_rfl) (by kernel_rfl) (by decide) (fun _ _ _ h => h) (Or.inl ⟨by rfl, ?_⟩) (fun _ => trivial) ?_
                          rotate_left 1
                          focus (intro w hSw; go_simp; try (with_reducible rfl))
                          simp only [Act.put, xA, xB, xC]
                          refine wpAnyG_pure (i := 4) (oi := ⟨some 179, _, _, _, _, none⟩) (v := ?_) rfl (by kernel_rfl) (by kernel_rfl) (by kernel_rfl) (by decide) (fun _ _ _ h => h) (Or.inl ⟨by rfl, ?_⟩) (fun _ => trivial) ?_
                          rotate_left 1
                          focus (intro w hSw; go_simp; try (with_reducible rfl))
                          simp only [Act.put, xA, xB, xC]
                          refine wpAnyG_pure (i := 5) (oi := ⟨some 180, _, _, _, _, none⟩) (v := ?_) rfl (by kernel_rfl) (by kernel_rfl) (by kernel_rfl) (by decide) (fun _ _ _ h => h) (Or.inl ⟨by rfl, ?_⟩) (fun _ => trivial) ?_
                          rotate_left 1
                          focus (intro w hSw; go_simp; try (with_reducible rfl))
                          simp only [Act.put, xA, xB, xC]
                          refine wpAnyG_pure (i := 6) (oi := ⟨some 181, _, _, _, _, none⟩) (v := ?_) rfl (by kernel_rfl) (by kernel_rfl) (by kernel_rfl) (by decide) (fun _ _ _ h => h) (Or.inl ⟨by rfl, ?_⟩) (fun _ => trivial) ?_
                          rotate_left 1
                          focus (intro w hSw; go_simp; try (with_reducible rfl))
                          simp only [Act.put, xA, xB, xC]
                          refine wpAnyG_pure (i := 7) (oi := ⟨some 182, _, _, _, _, none⟩) (v := ?_) rfl (by kernel_rfl) (by kernel_rfl) (by kernel_rfl) (by decide) (fun _ _ _ h => h) (Or.inl ⟨by rfl, ?_⟩) (fun _ => trivial) ?_
                          rotate_left 1
                          focus (intro w hSw; go_simp; try (with_reducible rfl))
                          simp only [Act.put, xA, xB, xC]
                          refine wpAnyG_pure (i := 8) (oi := ⟨some 183, _, _, _, _, none⟩) (v := ?_) rfl (by kernel_rfl) (by kernel_rfl) (by kernel_rfl) (by decide) (fun _ _ _ h => h) (Or.inl ⟨by rfl, ?_⟩) (fun _ => trivial) ?_
                          rotate_left 1
                          focus (intro w hSw; go_simp; try (with_reducible rfl))
                          simp only [Act.put, xA, xB, xC]
                          refine wpAnyG_pure (i := 9) (oi := ⟨some 184, _, _, _, _, none⟩) (v := ?_) rfl (by kernel_rfl) (by kernel_rfl) (by kernel_rfl) (by decide) (fun _ _ _ h => h) (Or.inl ⟨by rfl, ?_⟩) (fun _ => trivial) ?_
                          rotate_left 1
                          focus (intro w hSw; go_simp; try (with_reducible rfl))
                          simp only [Act.put, xA, xB, xC]
                          refine wpAnyG_pure (i := 11) (oi := ⟨some 186, _, _, _, _, none⟩) (v := ?_) rfl (by kernel_rfl) (by kernel_rfl) (by kernel_rfl) (by decide) (fun _ _ _ h => h) (Or.inl ⟨by rfl, ?_⟩) (fun _ => trivial) ?_
                          rotate_left 1
                          focus (intro w hSw; go_simp; try (with_reducible rfl))
                          simp only [Act.put, xA, xB, xC]
                          refine wpAnyG_pure (i := 12) (oi := ⟨some 187, _, _, _, _, none⟩) (v := ?_) rfl (by kernel_rfl) (by kernel_rfl) (by kernel_rfl) (by decide) (fun _ _ _ h => h) (Or.inl ⟨by rfl, ?_⟩) (fun _ => trivial) ?_
                          rotate_left 1
                          focus (intro w hSw; go_simp; try (with_reducible rfl))
                          simp only [Act.put, xA, xB, xC]
                          refine wpAnyG_pure (i := 13) (oi := ⟨some 188, _, _, _, _, none⟩) (v := ?_) rfl (by kernel_rfl) (by kernel_rfl) (by kernel_rfl) (by decide) (fun _ _ _ h => h) (Or.inl ⟨by rfl, ?_⟩) (fun _ => trivial) ?_
                          rotate_left 1
                          focus (intro w hSw; go_simp; try (with_reducible rfl))
                          simp only [Act.put, xA, xB, xC]
                          refine wpAnyG_one (i := 10) (o := ⟨some 185, _, _, _, _, none⟩) (by kernel_rfl) rfl (fun K hK => ?_)
                          go_simp
                          refine hK.out _ _ (fun _ => trivial) ?_
                          clear hK K
                          try simp only [Act.put, xA, xB, xC]
                          refine wpAnyG_one (i := 14) (o := ⟨some 189, _, _, _, _, none⟩) (by kernel_rfl) rfl (fun K hK => ?_)
                          go_simp
                          refine HQ.out.mono ?_
                          rintro e w1 (⟨rfl, h1⟩ | ⟨rfl, h1⟩)
                          · exact ⟨rfl, Or.inl ⟨rfl, h1⟩⟩
                          · refine hK.out _ _ (fun _ => trivial) ?_
                            clear hK K
                            try simp only [Act.put, xA, xB, xC]
                            refine wpAnyG_done (by kernel_rfl) ?_ _
                            go_end0
                            exact Or.inr ⟨rfl, h1⟩
end
end Go.Proofs.Ytdioiilmpjckfaa
