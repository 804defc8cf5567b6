/-
  Parts of a proof, joined.
-/
import Derived.Test.YtdioiilmpjckfaaZt19
namespace Go.Proofs.Ytdioiilmpjckfaa
open Go.ChangeShapes Go.WideShapes Go.ChangeAt Go.RowKit
set_option linter.unusedVariables false
set_option maxRecDepth 100000
section
variable {T : TypeId} {g m fb fo fw fn fl : Nat} {St : Nat → World → Prop} {No : World → Prop}
set_option maxHeartbeats 1600000 in
theorem Sv.sound (h : Car T g m fb fo fw fn fl St No) (W : World) (h0 : St 45 W) : Calls Try.prog 29 #[.iface T (pt g 0), pt m 45] W (Stp St No 61) := by
  have eb := h.eb
  have mb := h.mb
  have nb := h.nb
  have eo := h.eo
  have mo := h.mo
  have no := h.no
  have ew := h.ew
  have mw := h.mw
  have nw := h.nw
  have en := h.en
  have mn := h.mn
  have nn := h.nn
  have el := h.el
  have ml := h.ml
  have nl := h.nl
  have H := hid h
  have H0 := hid h0
  clear h h0
  go_enter Try.func29, Try.ntmps29
  go_wp2
  go_loopw [6] (fun i wr => ∃ j : Nat, j ≤ 3 ∧ i = .int .i64 j ∧ St (45 + 5 * j) wr) (fun i _ => 3 - (intOf i).toNat)
  case atStart => exact ⟨0, by omega, rfl, H0.out⟩
  case round =>
    obtain ⟨j, hj, rfl, hs⟩ := hrel
    have HS := hid hs
    clear hs
    have hc : j = 0 ∨ j = 1 ∨ j = 2 ∨ j = 3 := by omega
    rcases hc with rfl | rfl | rfl | rfl
    · go_upto_region 4 with fail
      have HQ := hid (H.out.sw 45 3 wr.drew (H.out.drew _ _ HS.out) rfl)
      refine wp_region_G (S := fun _ => True) (st := 14) (by kernel_rfl) ?_
      refine wpAnyG_pure (i := 0) (oi := ⟨some 14, _, _, _, _, none⟩) (v := ?_) rfl (by kernel_rfl) (by kernel_rfl) (by kernel_rfl) (by decide) (fun _ _ _ h => h) (Or.inl ⟨by rfl, ?_⟩) (fun _ => trivial) ?_
      rotate_left 1
      focus (intro w hSw; go_simp; try (with_reducible rfl))
      simp only [Act.put, xA, xB, xC]
      refine wpAnyG_pure (i := 1) (oi := ⟨some 15, _, _, _, _, none⟩) (v := ?_) rfl (by kernel_rfl) (by kernel_rfl) (by kernel_rfl) (by decide) (fun _ _ _ h => h) (Or.inl ⟨by rfl, ?_⟩) (fun _ => trivial) ?_
      rotate_left 1
      focus (intro w hSw; go_simp; try (with_reducible rfl))
      simp only [Act.put, xA, xB, xC]
      refine wpAnyG_pure (i := 2) (oi := ⟨some 16, _, _, _, _, none⟩) (v := ?_) rfl (by kernel_rfl) (by kernel_rfl) (by kernel_rfl) (by decide) (fun _ _ _ h => h) (Or.inl ⟨by rfl, ?_⟩) (fun _ => trivial) ?_
      rotate_left 1
      focus (intro w hSw; go_simp; try (with_reducible rfl))
      simp only [Act.put, xA, xB, xC]
      refine wpAnyG_pure (i := 3) (oi := ⟨some 17, _, _, _, _, none⟩) (v := ?_) rfl (by kernel_rfl) (by kernel_rfl) (by kernel_rfl) (by decide) (fun _ _ _ h => h) (Or.inl ⟨by rfl, ?_⟩) (fun _ => trivial) ?_
      rotate_left 1
      focus (intro w hSw; go_simp; try (with_reducible rfl))
      simp only [Act.put, xA, xB, xC]
      refine wpAnyG_pure (i := 4) (oi := ⟨some 18, _, _, _, _, none⟩) (v := ?_) rfl (by kernel_rfl) (by kernel_rfl) (by kernel_rfl) (by decide) (fun _ _ _ h => h) (Or.inl ⟨by rfl, ?_⟩) (fun _ => trivial) ?_
      rotate_left 1
      focus (intro w hSw; go_simp; try (with_reducible rfl))
      simp only [Act.put, xA, xB, xC]
      refine wpAnyG_pure (i := 5) (oi := ⟨some 19, _, _, _, _, none⟩) (v := ?_) rfl (by kernel_rfl) (by kernel_rfl) (by kernel_rfl) (by decide) (fun _ _ _ h => h) (Or.inl ⟨by rfl, ?_⟩) (fun _ => trivial) ?_
      rotate_left 1
      focus (intro w hSw; go_simp; try (with_reducible rfl))
      simp only [Act.put, xA, xB, xC]
      refine wpAnyG_pure (i := 6) (oi := ⟨some 20, _, _, _, _, none⟩) (v := ?_) rfl (by kernel_rfl) (by kernel_rfl) (by kernel_rfl) (by decide) (fun _ _ _ h => h) (Or.inl ⟨by rfl, ?_⟩) (fun _ => trivial) ?_
      rotate_left 1
      focus (intro w hSw; go_simp; try (with_reducible rfl))
      simp only [Act.put, xA, xB, xC]
      refine wpAnyG_pure (i := 7) (oi := ⟨some 21, _, _, _, _, none⟩) (v := ?_) rfl (by kernel_rfl) (by kernel_rfl) (by kernel_rfl) (by decide) (fun _ _ _ h => h) (Or.inl ⟨by rfl, ?_⟩) (fun _ => trivial) ?_
      rotate_left 1
      focus (intro w hSw; go_simp; try (with_reducible rfl))
      simp only [Act.put, xA, xB, xC]
      refine wpAnyG_pure (i := 8) (oi := ⟨some 22, _, _, _, _, none⟩) (v := ?_) rfl (by kernel_rfl) (by kernel_rfl) (by kernel_rfl) (by decide) (fun _ _ _ h => h) (Or.inl ⟨by rfl, ?_⟩) (fun _ => trivial) ?_
      rotate_left 1
      focus (intro w hSw; go_simp; try (with_reducible rfl))
      simp only [Act.put, xA, xB, xC]
      refine wpAnyG_pure (i := 9) (oi := ⟨some 23, _, _, _, _, none⟩) (v := ?_) rfl (by kernel_rfl) (by kernel_rfl) (by kernel_rfl) (by decide) (fun _ _ _ h => h) (Or.inl ⟨by rfl, ?_⟩) (fun _ => trivial) ?_
      rotate_left 1
      focus (intro w hSw; go_simp; try (with_reducible rfl))
      simp only [Act.put, xA, xB, xC]
      refine wpAnyG_pure (i := 11) (oi := ⟨some 25, _, _, _, _, none⟩) (v := ?_) rfl (by kernel_rfl) (by kernel_rfl) (by kernel_rfl) (by decide) (fun _ _ _ h => h) (Or.inl ⟨by rfl, ?_⟩) (fun _ => trivial) ?_
      rotate_left 1
      focus (intro w hSw; go_simp; try (with_reducible rfl))
      simp only [Act.put, xA, xB, xC]
      refine wpAnyG_pure (i := 12) (oi := ⟨some 26, _, _, _, _, none⟩) (v := ?_) rfl (by kernel_rfl) (by kernel_rfl) (by kernel_rfl) (by decide) (fun _ _ _ h => h) (Or.inl ⟨by rfl, ?_⟩) (fun _ => trivial) ?_
      rotate_left 1
      focus (intro w hSw; go_simp; try (with_reducible rfl))
      simp only [Act.put, xA, xB, xC]
      refine wpAnyG_pure (i := 13) (oi := ⟨some 27, _, _, _, _, none⟩) (v := ?_) rfl (by kernel_rfl) (by kernel_rfl) (by kernel_rfl) (by decide) (fun _ _ _ h => h) (Or.inl ⟨by rfl, ?_⟩) (fun _ => trivial) ?_
      rotate_left 1
      focus (intro w hSw; go_simp; try (with_reducible rfl))
      simp only [Act.put, xA, xB, xC]
      refine wpAnyG_one (i := 10) (o := ⟨some 24, _, _, _, _, none⟩) (by kernel_rfl) rfl (fun K hK => ?_)
      go_simp
      refine hK.out _ _ (fun _ => trivial) ?_
      clear hK K
      try simp only [Act.put, xA, xB, xC]
      refine wpAnyG_one (i := 14) (o := ⟨some 28, _, _, _, _, none⟩) (by kernel_rfl) rfl (fun K hK => ?_)
      go_simp
      refine HQ.out.mono ?_
      rintro e w1 (⟨rfl, h1⟩ | ⟨rfl, h1⟩)
      · exact ⟨rfl, Or.inl ⟨rfl, h1⟩⟩
      · refine hK.out _ _ (fun _ => trivial) ?_
        clear hK K
        try simp only [Act.put, xA, xB, xC]
        refine wpAnyG_done (by kernel_rfl) ?_ _
        have HS := hid h1
        clear h1 HQ
        go_upto_region 5 with fail
        have HQ := hid (H.out.sb 48 1 w1.drew (H.out.drew _ _ HS.out) rfl)
        refine wp_region_G (S := fun _ => True) (st := 8) (by kernel_rfl) ?_
        refine wpAnyG_pure (i := 0) (oi := ⟨some 29, _, _, _, _, none⟩) (v := ?_) rfl (by kernel_rfl) (by kernel_rfl) (by kernel_rfl) (by decide) (fun _ _ _ h => h) (Or.inl ⟨by rfl, ?_⟩) (fun _ => trivial) ?_
        rotate_left 1
        focus (intro w hSw; go_simp; try (with_reducible rfl))
        simp only [Act.put, xA, xB, xC]
        refine wpAnyG_pure (i := 1) (oi := ⟨some 30, _, _, _, _, none⟩) (v := ?_) rfl (by kernel_rfl) (by kernel_rfl) (by kernel_rfl) (by decide) (fun _ _ _ h => h) (Or.inl ⟨by rfl, ?_⟩) (fun _ => trivial) ?_
        rotate_left 1
        focus (intro w hSw; go_simp; try (with_reducible rfl))
        simp only [Act.put, xA, xB, xC]
        refine wpAnyG_pure (i := 2) (oi := ⟨some 31, _, _, _, _, none⟩) (v := ?_) rfl (by kernel_rfl) (by kernel_rfl) (by kernel_rfl) (by decide) (fun _ _ _ h => h) (Or.inl ⟨by rfl, ?_⟩) (fun _ => trivial) ?_
        rotate_left 1
        focus (intro w hSw; go_simp; try (with_reducible rfl))
        simp only [Act.put, xA, xB, xC]
        refine wpAnyG_pure (i := 3) (oi := ⟨some 32, _, _, _, _, none⟩) (v := ?_) rfl (by kernel_rfl) (by kernel_rfl) (by kernel_rfl) (by decide) (fun _ _ _ h => h) (Or.inl ⟨by rfl, ?_⟩) (fun _ => trivial) ?_
        rotate_left 1
        focus (intro w hSw; go_simp; try (with_reducible rfl))
        simp only [Act.put, xA, xB, xC]
        refine wpAnyG_pure (i := 5) (oi := ⟨some 34, _, _, _, _, none⟩) (v := ?_) rfl (by kernel_rfl) (by kernel_rfl) (by kernel_rfl) (by decide) (fun _ _ _ h => h) (Or.inl ⟨by rfl, ?_⟩) (fun _ => trivial) ?_
        rotate_left 1
        focus (intro w hSw; go_simp; try (with_reducible rfl))
        simp only [Act.put, xA, xB, xC]
        refine wpAnyG_pure (i := 6) (oi := ⟨some 35, _, _, _, _, none⟩) (v := ?_) rfl (by kernel_rfl) (by kernel_rfl) (by kernel_rfl) (by decide) (fun _ _ _ h => h) (Or.inl ⟨by rfl, ?_⟩) (fun _ => trivial) ?_
        rotate_left 1
        focus (intro w hSw; go_simp; try (with_reducible rfl))
        simp only [Act.put, xA, xB, xC]
        refine wpAnyG_pure (i := 7) (oi := ⟨some 36, _, _, _, _, none⟩) (v := ?_) rfl (by kernel_rfl) (by kernel_rfl) (by kernel_rfl) (by decide) (fun _ _ _ h => h) (Or.inl ⟨by rfl, ?_⟩) (fun _ => trivial) ?_
        rotate_left 1
        focus (intro w hSw; go_simp; try (with_reducible rfl))
        simp only [Act.put, xA, xB, xC]
        refine wpAnyG_one (i := 4) (o := ⟨some 33, _, _, _, _, none⟩) (by kernel_rfl) rfl (fun K hK => ?_)
        go_simp
        refine hK.out _ _ (fun _ => trivial) ?_
        clear hK K
        try simp only [Act.put, xA, xB, xC]
        refine wpAnyG_one (i := 8) (o := ⟨some 37, _, _, _, _, none⟩) (by kernel_rfl) rfl (fun K hK => ?_)
        go_simp
        refine HQ.out.mono ?_
        rintro e w2 (⟨rfl, h1⟩ | ⟨rfl, h1⟩)
        · exact ⟨rfl, Or.inl ⟨rfl, h1⟩⟩
        · refine hK.out _ _ (fun _ => trivial) ?_
          clear hK K
          try simp only [Act.put, xA, xB, xC]
          refine wpAnyG_done (by kernel_rfl) ?_ _
          have HS := hid h1
          clear h1 HQ
          go_upto_region 6 with fail
          have HQ := hid (H.out.so 49 1 w2.drew (H.out.drew _ _ HS.out) rfl)
          refine wp_region_G (S := fun _ => True) (st := 8) (by kernel_rfl) ?_
          refine wpAnyG_pure (i := 0) (oi := ⟨some 38, _, _, _, _, none⟩) (v := ?_) rfl (by kernel_rfl) (by kernel_rfl) (by kernel_rfl) (by decide) (fun _ _ _ h => h) (Or.inl ⟨by rfl, ?_⟩) (fun _ => trivial) ?_
          rotate_left 1
          focus (intro w hSw; go_simp; try (with_reducible rfl))
          simp only [Act.put, xA, xB, xC]
          refine wpAnyG_pure (i := 1) (oi := ⟨some 39, _, _, _, _, none⟩) (v := ?_) rfl (by kernel_rfl) (by kernel_rfl) (by kernel_rfl) (by decide) (fun _ _ _ h => h) (Or.inl ⟨by rfl, ?_⟩) (fun _ => trivial) ?_
          rotate_left 1
          focus (intro w hSw; go_simp; try (with_reducible rfl))
          simp only [Act.put, xA, xB, xC]
          refine wpAnyG_pure (i := 2) (oi := ⟨some 40, _, _, _, _, none⟩) (v := ?_) rfl (by kernel_rfl) (by kernel_rfl) (by kernel_rfl) (by decide) (fun _ _ _ h => h) (Or.inl ⟨by rfl, ?_⟩) (fun _ => trivial) ?_
          rotate_left 1
          focus (intro w hSw; go_simp; try (with_reducible rfl))
          simp only [Act.put, xA, xB, xC]
          refine wpAnyG_pure (i := 3) (oi := ⟨some 41, _, _, _, _, none⟩) (v := ?_) rfl (by kernel_rfl) (by kernel_rfl) (by kernel_rfl) (by decide) (fun _ _ _ h => h) (Or.inl ⟨by rfl, ?_⟩) (fun _ => trivial) ?_
          rotate_left 1
          focus (intro w hSw; go_simp; try (with_reducible rfl))
          simp only [Act.put, xA, xB, xC]
          refine wpAnyG_pure (i := 5) (oi := ⟨some 43, _, _, _, _, none⟩) (v := ?_) rfl (by kernel_rfl) (by kernel_rfl) (by kernel_rfl) (by decide) (fun _ _ _ h => h) (Or.inl ⟨by rfl, ?_⟩) (fun _ => trivial) ?_
          rotate_left 1
          focus (intro w hSw; go_simp; try (with_reducible rfl))
          simp only [Act.put, xA, xB, xC]
          refine wpAnyG_pure (i := 6) (oi := ⟨some 44, _, _, _, _, none⟩) (v := ?_) rfl (by kernel_rfl) (by kernel_rfl) (by kernel_rfl) (by decide) (fun _ _ _ h => h) (Or.inl ⟨by rfl, ?_⟩) (fun _ => trivial) ?_
          rotate_left 1
          focus (intro w hSw; go_simp; try (with_reducible rfl))
          simp only [Act.put, xA, xB, xC]
          refine wpAnyG_pure (i := 7) (oi := ⟨some 45, _, _, _, _, none⟩) (v := ?_) rfl (by kernel_rfl) (by kernel_rfl) (by kernel_rfl) (by decide) (fun _ _ _ h => h) (Or.inl ⟨by rfl, ?_⟩) (fun _ => trivial) ?_
          rotate_left 1
          focus (intro w hSw; go_simp; try (with_reducible rfl))
          simp only [Act.put, xA, xB, xC]
          refine wpAnyG_one (i := 4) (o := ⟨some 42, _, _, _, _, none⟩) (by kernel_rfl) rfl (fun K hK => ?_)
          go_simp
          refine hK.out _ _ (fun _ => trivial) ?_
          clear hK K
          try simp only [Act.put, xA, xB, xC]
          refine wpAnyG_one (i := 8) (o := ⟨some 46, _, _, _, _, none⟩) (by kernel_rfl) rfl (fun K hK => ?_)
          go_simp
          refine HQ.out.mono ?_
          rintro e w1 (⟨rfl, h1⟩ | ⟨rfl, h1⟩)
          · exact ⟨rfl, Or.inl ⟨rfl, h1⟩⟩
          · refine hK.out _ _ (fun _ => trivial) ?_
            clear hK K
            try simp only [Act.put, xA, xB, xC]
            refine wpAnyG_done (by kernel_rfl) ?_ _
            go_wp2
            exact ⟨⟨1, by omega, rfl, h1⟩, by simp [intOf]⟩
    · go_upto_region 4 with fail
      have HQ := hid (H.out.sw 50 3 wr.drew (H.out.drew _ _ HS.out) rfl)
      refine wp_region_G (S := fun _ => True) (st := 14) (by kernel_rfl) ?_
      refine wpAnyG_pure (i := 0) (oi := ⟨some 14, _, _, _, _, none⟩) (v := ?_) rfl (by kernel_rfl) (by kernel_rfl) (by kernel_rfl) (by decide) (fun _ _ _ h => h) (Or.inl ⟨by rfl, ?_⟩) (fun _ => trivial) ?_
      rotate_left 1
      focus (intro w hSw; go_simp; try (with_reducible rfl))
      simp only [Act.put, xA, xB, xC]
      refine wpAnyG_pure (i := 1) (oi := ⟨some 15, _, _, _, _, none⟩) (v := ?_) rfl (by kernel_rfl) (by kernel_rfl) (by kernel_rfl) (by decide) (fun _ _ _ h => h) (Or.inl ⟨by rfl, ?_⟩) (fun _ => trivial) ?_
      rotate_left 1
      focus (intro w hSw; go_simp; try (with_reducible rfl))
      simp only [Act.put, xA, xB, xC]
      refine wpAnyG_pure (i := 2) (oi := ⟨some 16, _, _, _, _, none⟩) (v := ?_) rfl (by kernel_rfl) (by kernel_rfl) (by kernel_rfl) (by decide) (fun _ _ _ h => h) (Or.inl ⟨by rfl, ?_⟩) (fun _ => trivial) ?_
      rotate_left 1
      focus (intro w hSw; go_simp; try (with_reducible rfl))
      simp only [Act.put, xA, xB, xC]
      refine wpAnyG_pure (i := 3) (oi := ⟨some 17, _, _, _, _, none⟩) (v := ?_) rfl (by kernel_rfl) (by kernel_rfl) (by kernel_rfl) (by decide) (fun _ _ _ h => h) (Or.inl ⟨by rfl, ?_⟩) (fun _ => trivial) ?_
      rotate_left 1
      focus (intro w hSw; go_simp; try (with_reducible rfl))
      simp only [Act.put, xA, xB, xC]
      refine wpAnyG_pure (i := 4) (oi := ⟨some 18, _, _, _, _, none⟩) (v := ?_) rfl (by kernel_rfl) (by kernel_rfl) (by kernel_rfl) (by decide) (fun _ _ _ h => h) (Or.inl ⟨by rfl, ?_⟩) (fun _ => trivial) ?_
      rotate_left 1
      focus (intro w hSw; go_simp; try (with_reducible rfl))
      simp only [Act.put, xA, xB, xC]
      refine wpAnyG_pure (i := 5) (oi := ⟨some 19, _, _, _, _, none⟩) (v := ?_) rfl (by kernel_rfl) (by kernel_rfl) (by kernel_rfl) (by decide) (fun _ _ _ h => h) (Or.inl ⟨by rfl, ?_⟩) (fun _ => trivial) ?_
      rotate_left 1
      focus (intro w hSw; go_simp; try (with_reducible rfl))
      simp only [Act.put, xA, xB, xC]
      refine wpAnyG_pure (i := 6) (oi := ⟨some 20, _, _, _, _, none⟩) (v := ?_) rfl (by kernel_rfl) (by kernel_rfl) (by kernel_rfl) (by decide) (fun _ _ _ h => h) (Or.inl ⟨by rfl, ?_⟩) (fun _ => trivial) ?_
      rotate_left 1
      focus (intro w hSw; go_simp; try (with_reducible rfl))
      simp only [Act.put, xA, xB, xC]
      refine wpAnyG_pure (i := 7) (oi := ⟨some 21, _, _, _, _, none⟩) (v := ?_) rfl (by kernel_rfl) (by kernel_rfl) (by kernel_rfl) (by decide) (fun _ _ _ h => h) (Or.inl ⟨by rfl, ?_⟩) (fun _ => trivial) ?_
      rotate_left 1
      focus (intro w hSw; go_simp; try (with_reducible rfl))
      simp only [Act.put, xA, xB, xC]
      refine wpAnyG_pure (i := 8) (oi := ⟨some 22, _, _, _, _, none⟩) (v := ?_) rfl (by kernel_rfl) (by kernel_rfl) (by kernel_rfl) (by decide) (fun _ _ _ h => h) (Or.inl ⟨by rfl, ?_⟩) (fun _ => trivial) ?_
      rotate_left 1
      focus (intro w hSw; go_simp; try (with_reducible rfl))
      simp only [Act.put, xA, xB, xC]
      refine wpAnyG_pure (i := 9) (oi := ⟨some 23, _, _, _, _, none⟩) (v := ?_) rfl (by kernel_rfl) (by kernel_rfl) (by kernel_rfl) (by decide) (fun _ _ _ h => h) (Or.inl ⟨by rfl, ?_⟩) (fun _ => trivial) ?_
      rotate_left 1
      focus (intro w hSw; go_simp; try (with_reducible rfl))
      simp only [Act.put, xA, xB, xC]
      refine wpAnyG_pure (i := 11) (oi := ⟨some 25, _, _, _, _, none⟩) (v := ?_) rfl (by kernel_rfl) (by kernel_rfl) (by kernel_rfl) (by decide) (fun _ _ _ h => h) (Or.inl ⟨by rfl, ?_⟩) (fun _ => trivial) ?_
      rotate_left 1
      focus (intro w hSw; go_simp; try (with_reducible rfl))
      simp only [Act.put, xA, xB, xC]
      refine wpAnyG_pure (i := 12) (oi := ⟨some 26, _, _, _, _, none⟩) (v := ?_) rfl (by kernel_rfl) (by kernel_rfl) (by kernel_rfl) (by decide) (fun _ _ _ h => h) (Or.inl ⟨by rfl, ?_⟩) (fun _ => trivial) ?_
      rotate_left 1
      focus (intro w hSw; go_simp; try (with_reducible rfl))
      simp only [Act.put, xA, xB, xC]
      refine wpAnyG_pure (i := 13) (oi := ⟨some 27, _, _, _, _, none⟩) (v := ?_) rfl (by kernel_rfl) (by kernel_rfl) (by kernel_rfl) (by decide) (fun _ _ _ h => h) (Or.inl ⟨by rfl, ?_⟩) (fun _ => trivial) ?_
      rotate_left 1
      focus (intro w hSw; go_simp; try (with_reducible rfl))
      simp only [Act.put, xA, xB, xC]
      refine wpAnyG_one (i := 10) (o := ⟨some 24, _, _, _, _, none⟩) (by kernel_rfl) rfl (fun K hK => ?_)
      go_simp
      refine hK.out _ _ (fun _ => trivial) ?_
      clear hK K
      try simp only [Act.put, xA, xB, xC]
      refine wpAnyG_one (i := 14) (o := ⟨some 28, _, _, _, _, none⟩) (by kernel_rfl) rfl (fun K hK => ?_)
      go_simp
      refine HQ.out.mono ?_
      rintro e w1 (⟨rfl, h1⟩ | ⟨rfl, h1⟩)
      · exact ⟨rfl, Or.inl ⟨rfl, h1⟩⟩
      · refine hK.out _ _ (fun _ => trivial) ?_
        clear hK K
        try simp only [Act.put, xA, xB, xC]
        refine wpAnyG_done (by kernel_rfl) ?_ _
        have HS := hid h1
        clear h1 HQ
        go_upto_region 5 with fail
        have HQ := hid (H.out.sb 53 1 w1.drew (H.out.drew _ _ HS.out) rfl)
        refine wp_region_G (S := fun _ => True) (st := 8) (by kernel_rfl) ?_
        refine wpAnyG_pure (i := 0) (oi := ⟨some 29, _, _, _, _, none⟩) (v := ?_) rfl (by kernel_rfl) (by kernel_rfl) (by kernel_rfl) (by decide) (fun _ _ _ h => h) (Or.inl ⟨by rfl, ?_⟩) (fun _ => trivial) ?_
        rotate_left 1
        focus (intro w hSw; go_simp; try (with_reducible rfl))
        simp only [Act.put, xA, xB, xC]
        refine wpAnyG_pure (i := 1) (oi := ⟨some 30, _, _, _, _, none⟩) (v := ?_) rfl (by kernel_rfl) (by kernel_rfl) (by kernel_rfl) (by decide) (fun _ _ _ h => h) (Or.inl ⟨by rfl, ?_⟩) (fun _ => trivial) ?_
        rotate_left 1
        focus (intro w hSw; go_simp; try (with_reducible rfl))
        simp only [Act.put, xA, xB, xC]
        refine wpAnyG_pure (i := 2) (oi := ⟨some 31, _, _, _, _, none⟩) (v := ?_) rfl (by kernel_rfl) (by kernel_rfl) (by kernel_rfl) (by decide) (fun _ _ _ h => h) (Or.inl ⟨by rfl, ?_⟩) (fun _ => trivial) ?_
        rotate_left 1
        focus (intro w hSw; go_simp; try (with_reducible rfl))
        simp only [Act.put, xA, xB, xC]
        refine wpAnyG_pure (i := 3) (oi := ⟨some 32, _, _, _, _, none⟩) (v := ?_) rfl (by kernel_rfl) (by kernel_rfl) (by kernel_rfl) (by decide) (fun _ _ _ h => h) (Or.inl ⟨by rfl, ?_⟩) (fun _ => trivial) ?_
        rotate_left 1
        focus (intro w hSw; go_simp; try (with_reducible rfl))
        simp only [Act.put, xA, xB, xC]
        refine wpAnyG_pure (i := 5) (oi := ⟨some 34, _, _, _, _, none⟩) (v := ?_) rfl (by kernel_rfl) (by kernel_rfl) (by kernel_rfl) (by decide) (fun _ _ _ h => h) (Or.inl ⟨by rfl, ?_⟩) (fun _ => trivial) ?_
        rotate_left 1
        focus (intro w hSw; go_simp; try (with_reducible rfl))
        simp only [Act.put, xA, xB, xC]
        refine wpAnyG_pure (i := 6) (oi := ⟨some 35, _, _, _, _, none⟩) (v := ?_) rfl (by kernel_rfl) (by kernel_rfl) (by kernel_rfl) (by decide) (fun _ _ _ h => h) (Or.inl ⟨by rfl, ?_⟩) (fun _ => trivial) ?_
        rotate_left 1
        focus (intro w hSw; go_simp; try (with_reducible rfl))
        simp only [Act.put, xA, xB, xC]
        refine wpAnyG_pure (i := 7) (oi := ⟨some 36, _, _, _, _, none⟩) (v := ?_) rfl (by kernel_rfl) (by kernel_rfl) (by kernel_rfl) (by decide) (fun _ _ _ h => h) (Or.inl ⟨by rfl, ?_⟩) (fun _ => trivial) ?_
        rotate_left 1
        focus (intro w hSw; go_simp; try (with_reducible rfl))
        simp only [Act.put, xA, xB, xC]
        refine wpAnyG_one (i := 4) (o := ⟨some 33, _, _, _, _, none⟩) (by kernel_rfl) rfl (fun K hK => ?_)
        go_simp
        refine hK.out _ _ (fun _ => trivial) ?_
        clear hK K
        try simp only [Act.put, xA, xB, xC]
        refine wpAnyG_one (i := 8) (o := ⟨some 37, _, _, _, _, none⟩) (by kernel_rfl) rfl (fun K hK => ?_)
        go_simp
        refine HQ.out.mono ?_
        rintro e w2 (⟨rfl, h1⟩ | ⟨rfl, h1⟩)
        · exact ⟨rfl, Or.inl ⟨rfl, h1⟩⟩
        · refine hK.out _ _ (fun _ => trivial) ?_
          clear hK K
          try simp only [Act.put, xA, xB, xC]
          refine wpAnyG_done (by kernel_rfl) ?_ _
          have HS := hid h1
          clear h1 HQ
          go_upto_region 6 with fail
          have HQ := hid (H.out.so 54 1 w2.drew (H.out.drew _ _ HS.out) rfl)
          refine wp_region_G (S := fun _ => True) (st := 8) (by kernel_rfl) ?_
          refine wpAnyG_pure (i := 0) (oi := ⟨some 38, _, _, _, _, none⟩) (v := ?_) rfl (by kernel_rfl) (by kernel_rfl) (by kernel_rfl) (by decide) (fun _ _ _ h => h) (Or.inl ⟨by rfl, ?_⟩) (fun _ => trivial) ?_
          rotate_left 1
          focus (intro w hSw; go_simp; try (with_reducible rfl))
          simp only [Act.put, xA, xB, xC]
          refine wpAnyG_pure (i := 1) (oi := ⟨some 39, _, _, _, _, none⟩) (v := ?_) rfl (by kernel_rfl) (by kernel_rfl) (by kernel_rfl) (by decide) (fun _ _ _ h => h) (Or.inl ⟨by rfl, ?_⟩) (fun _ => trivial) ?_
          rotate_left 1
          focus (intro w hSw; go_simp; try (with_reducible rfl))
          simp only [Act.put, xA, xB, xC]
          refine wpAnyG_pure (i := 2) (oi := ⟨some 40, _, _, _, _, none⟩) (v := ?_) rfl (by kernel_rfl) (by kernel_rfl) (by kernel_rfl) (by decide) (fun _ _ _ h => h) (Or.inl ⟨by rfl, ?_⟩) (fun _ => trivial) ?_
          rotate_left 1
          focus (intro w hSw; go_simp; try (with_reducible rfl))
          simp only [Act.put, xA, xB, xC]
          refine wpAnyG_pure (i := 3) (oi := ⟨some 41, _, _, _, _, none⟩) (v := ?_) rfl (by kernel_rfl) (by kernel_rfl) (by kernel_rfl) (by decide) (fun _ _ _ h => h) (Or.inl ⟨by rfl, ?_⟩) (fun _ => trivial) ?_
          rotate_left 1
          focus (intro w hSw; go_simp; try (with_reducible rfl))
          simp only [Act.put, xA, xB, xC]
          refine wpAnyG_pure (i := 5) (oi := ⟨some 43, _, _, _, _, none⟩) (v := ?_) rfl (by kernel_rfl) (by kernel_rfl) (by kernel_rfl) (by decide) (fun _ _ _ h => h) (Or.inl ⟨by rfl, ?_⟩) (fun _ => trivial) ?_
          rotate_left 1
          focus (intro w hSw; go_simp; try (with_reducible rfl))
          simp only [Act.put, xA, xB, xC]
          refine wpAnyG_pure (i := 6) (oi := ⟨some 44, _, _, _, _, none⟩) (v := ?_) rfl (by kernel_rfl) (by kernel_rfl) (by kernel_rfl) (by decide) (fun _ _ _ h => h) (Or.inl ⟨by rfl, ?_⟩) (fun _ => trivial) ?_
          rotate_left 1
          focus (intro w hSw; go_simp; try (with_reducible rfl))
          simp only [Act.put, xA, xB, xC]
          refine wpAnyG_pure (i := 7) (oi := ⟨some 45, _, _, _, _, none⟩) (v := ?_) rfl (by kernel_rfl) (by kernel_rfl) (by kernel_rfl) (by decide) (fun _ _ _ h => h) (Or.inl ⟨by rfl, ?_⟩) (fun _ => trivial) ?_
          rotate_left 1
          focus (intro w hSw; go_simp; try (with_reducible rfl))
          simp only [Act.put, xA, xB, xC]
          refine wpAnyG_one (i := 4) (o := ⟨some 42, _, _, _, _, none⟩) (by kernel_rfl) rfl (fun K hK => ?_)
          go_simp
          refine hK.out _ _ (fun _ => trivial) ?_
          clear hK K
          try simp only [Act.put, xA, xB, xC]
          refine wpAnyG_one (i := 8) (o := ⟨some 46, _, _, _, _, none⟩) (by kernel_rfl) rfl (fun K hK => ?_)
          go_simp
          refine HQ.out.mono ?_
          rintro e w1 (⟨rfl, h1⟩ | ⟨rfl, h1⟩)
          · exact ⟨rfl, Or.inl ⟨rfl, h1⟩⟩
          · refine hK.out _ _ (fun _ => trivial) ?_
            clear hK K
            try simp only [Act.put, xA, xB, xC]
            refine wpAnyG_done (by kernel_rfl) ?_ _
            go_wp2
            exact ⟨⟨2, by omega, rfl, h1⟩, by simp [intOf]⟩
    · go_upto_region 4 with fail
      have HQ := hid (H.out.sw 55 3 wr.drew (H.out.drew _ _ HS.out) rfl)
      refine wp_region_G (S := fun _ => True) (st := 14) (by kernel_rfl) ?_
      refine wpAnyG_pure (i := 0) (oi := ⟨some 14, _, _, _, _, none⟩) (v := ?_) rfl (by kernel_rfl) (by kernel_rfl) (by kernel_rfl) (by decide) (fun _ _ _ h => h) (Or.inl ⟨by rfl, ?_⟩) (fun _ => trivial) ?_
      rotate_left 1
      focus (intro w hSw; go_simp; try (with_reducible rfl))
      simp only [Act.put, xA, xB, xC]
      refine wpAnyG_pure (i := 1) (oi := ⟨some 15, _, _, _, _, none⟩) (v := ?_) rfl (by kernel_rfl) (by kernel_rfl) (by kernel_rfl) (by decide) (fun _ _ _ h => h) (Or.inl ⟨by rfl, ?_⟩) (fun _ => trivial) ?_
      rotate_left 1
      focus (intro w hSw; go_simp; try (with_reducible rfl))
      simp only [Act.put, xA, xB, xC]
      refine wpAnyG_pure (i := 2) (oi := ⟨some 16, _, _, _, _, none⟩) (v := ?_) rfl (by kernel_rfl) (by kernel_rfl) (by kernel_rfl) (by decide) (fun _ _ _ h => h) (Or.inl ⟨by rfl, ?_⟩) (fun _ => trivial) ?_
      rotate_left 1
      focus (intro w hSw; go_simp; try (with_reducible rfl))
      simp only [Act.put, xA, xB, xC]
      refine wpAnyG_pure (i := 3) (oi := ⟨some 17, _, _, _, _, none⟩) (v := ?_) rfl (by kernel_rfl) (by kernel_rfl) (by kernel_rfl) (by decide) (fun _ _ _ h => h) (Or.inl ⟨by rfl, ?_⟩) (fun _ => trivial) ?_
      rotate_left 1
      focus (intro w hSw; go_simp; try (with_reducible rfl))
      simp only [Act.put, xA, xB, xC]
      refine wpAnyG_pure (i := 4) (oi := ⟨some 18, _, _, _, _, none⟩) (v := ?_) rfl (by kernel_rfl) (by kernel_rfl) (by kernel_rfl) (by decide) (fun _ _ _ h => h) (Or.inl ⟨by rfl, ?_⟩) (fun _ => trivial) ?_
      rotate_left 1
      focus (intro w hSw; go_simp; try (with_reducible rfl))
      simp only [Act.put, xA, xB, xC]
      refine wpAnyG_pure (i := 5) (oi := ⟨some 19, _, _, _, _, none⟩) (v := ?_) rfl (by kernel_rfl) (by kernel_rfl) (by kernel_rfl) (by decide) (fun _ _ _ h => h) (Or.inl ⟨by rfl, ?_⟩) (fun _ => trivial) ?_
      rotate_left 1
      focus (intro w hSw; go_simp; try (with_reducible rfl))
      simp only [Act.put, xA, xB, xC]
      refine wpAnyG_pure (i := 6) (oi := ⟨some 20, _, _, _, _, none⟩) (v := ?_) rfl (by kernel_rfl) (by kernel_rfl) (by kernel_rfl) (by decide) (fun _ _ _ h => h) (Or.inl ⟨by rfl, ?_⟩) (fun _ => trivial) ?_
      rotate_left 1
      focus (intro w hSw; go_simp; try (with_reducible rfl))
      simp only [Act.put, xA, xB, xC]
      refine wpAnyG_pure (i := 7) (oi := ⟨some 21, _, _, _, _, none⟩) (v := ?_) rfl (by kernel_rfl) (by kernel_rfl) (by kernel_rfl) (by decide) (fun _ _ _ h => h) (Or.inl ⟨by rfl, ?_⟩) (fun _ => trivial) ?_
      rotate_left 1
      focus (intro w hSw; go_simp; try (with_reducible rfl))
      simp only [Act.put, xA, xB, xC]
      refine wpAnyG_pure (i := 8) (oi := ⟨some 22, _, _, _, _, none⟩) (v := ?_) rfl (by kernel_rfl) (by kernel_rfl) (by kernel_rfl) (by decide) (fun _ _ _ h => h) (Or.inl ⟨by rfl, ?_⟩) (fun _ => trivial) ?_
      rotate_left 1
      focus (intro w hSw; go_simp; try (with_reducible rfl))
      simp only [Act.put, xA, xB, xC]
      refine wpAnyG_pure (i := 9) (oi := ⟨some 23, _, _, _, _, none⟩) (v := ?_) rfl (by kernel_rfl) (by kernel_rfl) (by kernel_rfl) (by decide) (fun _ _ _ h => h) (Or.inl ⟨by rfl, ?_⟩) (fun _ => trivial) ?_
      rotate_left 1
      focus (intro w hSw; go_simp; try (with_reducible rfl))
      simp only [Act.put, xA, xB, xC]
      refine wpAnyG_pure (i := 11) (oi := ⟨some 25, _, _, _, _, none⟩) (v := ?_) rfl (by kernel_rfl) (by kernel_rfl) (by kernel_rfl) (by decide) (fun _ _ _ h => h) (Or.inl ⟨by rfl, ?_⟩) (fun _ => trivial) ?_
      rotate_left 1
      focus (intro w hSw; go_simp; try (with_reducible rfl))
      simp only [Act.put, xA, xB, xC]
      refine wpAnyG_pure (i := 12) (oi := ⟨some 26, _, _, _, _, none⟩) (v := ?_) rfl (by kernel_rfl) (by kernel_rfl) (by kernel_rfl) (by decide) (fun _ _ _ h => h) (Or.inl ⟨by rfl, ?_⟩) (fun _ => trivial) ?_
      rotate_left 1
      focus (intro w hSw; go_simp; try (with_reducible rfl))
      simp only [Act.put, xA, xB, xC]
      refine wpAnyG_pure (i := 13) (oi := ⟨some 27, _, _, _, _, none⟩) (v := ?_) rfl (by kernel_rfl) (by kernel_rfl) (by kernel_rfl) (by decide) (fun _ _ _ h => h) (Or.inl ⟨by rfl, ?_⟩) (fun _ => trivial) ?_
      rotate_left 1
      focus (intro w hSw; go_simp; try (with_reducible rfl))
      simp only [Act.put, xA, xB, xC]
      refine wpAnyG_one (i := 10) (o := ⟨some 24, _, _, _, _, none⟩) (by kernel_rfl) rfl (fun K hK => ?_)
      go_simp
      refine hK.out _ _ (fun _ => trivial) ?_
      clear hK K
      try simp only [Act.put, xA, xB, xC]
      refine wpAnyG_one (i := 14) (o := ⟨some 28, _, _, _, _, none⟩) (by kernel_rfl) rfl (fun K hK => ?_)
      go_simp
      refine HQ.out.mono ?_
      rintro e w1 (⟨rfl, h1⟩ | ⟨rfl, h1⟩)
      · exact ⟨rfl, Or.inl ⟨rfl, h1⟩⟩
      · refine hK.out _ _ (fun _ => trivial) ?_
        clear hK K
        try simp only [Act.put, xA, xB, xC]
        refine wpAnyG_done (by kernel_rfl) ?_ _
        have HS := hid h1
        clear h1 HQ
        go_upto_region 5 with fail
        have HQ := hid (H.out.sb 58 1 w1.drew (H.out.drew _ _ HS.out) rfl)
        refine wp_region_G (S := fun _ => True) (st := 8) (by kernel_rfl) ?_
        refine wpAnyG_pure (i := 0) (oi := ⟨some 29, _, _, _, _, none⟩) (v := ?_) rfl (by kernel_rfl) (by kernel_rfl) (by kernel_rfl) (by decide) (fun _ _ _ h => h) (Or.inl ⟨by rfl, ?_⟩) (fun _ => trivial) ?_
        rotate_left 1
        focus (intro w hSw; go_simp; try (with_reducible rfl))
        simp only [Act.put, xA, xB, xC]
        refine wpAnyG_pure (i := 1) (oi := ⟨some 30, _, _, _, _, none⟩) (v := ?_) rfl (by kernel_rfl) (by kernel_rfl) (by kernel_rfl) (by decide) (fun _ _ _ h => h) (Or.inl ⟨by rfl, ?_⟩) (fun _ => trivial) ?_
        rotate_left 1
        focus (intro w hSw; go_simp; try (with_reducible rfl))
        simp only [Act.put, xA, xB, xC]
        refine wpAnyG_pure (i := 2) (oi := ⟨some 31, _, _, _, _, none⟩) (v := ?_) rfl (by kernel_rfl) (by kernel_rfl) (by kernel_rfl) (by decide) (fun _ _ _ h => h) (Or.inl ⟨by rfl, ?_⟩) (fun _ => trivial) ?_
        rotate_left 1
        focus (intro w hSw; go_simp; try (with_reducible rfl))
        simp only [Act.put, xA, xB, xC]
        refine wpAnyG_pure (i := 3) (oi := ⟨some 32, _, _, _, _, none⟩) (v := ?_) rfl (by kernel_rfl) (by kernel_rfl) (by kernel_rfl) (by decide) (fun _ _ _ h => h) (Or.inl ⟨by rfl, ?_⟩) (fun _ => trivial) ?_
        rotate_left 1
        focus (intro w hSw; go_simp; try (with_reducible rfl))
        simp only [Act.put, xA, xB, xC]
        refine wpAnyG_pure (i := 5) (oi := ⟨some 34, _, _, _, _, none⟩) (v := ?_) rfl (by kernel_rfl) (by kernel_rfl) (by kernel_rfl) (by decide) (fun _ _ _ h => h) (Or.inl ⟨by rfl, ?_⟩) (fun _ => trivial) ?_
        rotate_left 1
        focus (intro w hSw; go_simp; try (with_reducible rfl))
        simp only [Act.put, xA, xB, xC]
        refine wpAnyG_pure (i := 6) (oi := ⟨some 35, _, _, _, _, none⟩) (v := ?_) rfl (by kernel_rfl) (by kernel_rfl) (by kernel_rfl) (by decide) (fun _ _ _ h => h) (Or.inl ⟨by rfl, ?_⟩) (fun _ => trivial) ?_
        rotate_left 1
        focus (intro w hSw; go_simp; try (with_reducible rfl))
        simp only [Act.put, xA, xB, xC]
        refine wpAnyG_pure (i := 7) (oi := ⟨some 36, _, _, _, _, none⟩) (v := ?_) rfl (by kernel_rfl) (by kernel_rfl) (by kernel_rfl) (by decide) (fun _ _ _ h => h) (Or.inl ⟨by rfl, ?_⟩) (fun _ => trivial) ?_
        rotate_left 1
        focus (intro w hSw; go_simp; try (with_reducible rfl))
        simp only [Act.put, xA, xB, xC]
        refine wpAnyG_one (i := 4) (o := ⟨some 33, _, _, _, _, none⟩) (by kernel_rfl) rfl (fun K hK => ?_)
        go_simp
        refine hK.out _ _ (fun _ => trivial) ?_
        clear hK K
        try simp only [Act.put, xA, xB, xC]
        refine wpAnyG_one (i := 8) (o := ⟨some 37, _, _, _, _, none⟩) (by kernel_rfl) rfl (fun K hK => ?_)
        go_simp
        refine HQ.out.mono ?_
        rintro e w2 (⟨rfl, h1⟩ | ⟨rfl, h1⟩)
        · exact ⟨rfl, Or.inl ⟨rfl, h1⟩⟩
        · refine hK.out _ _ (fun _ => trivial) ?_
          clear hK K
          try simp only [Act.put, xA, xB, xC]
          refine wpAnyG_done (by kernel_rfl) ?_ _
          have HS := hid h1
          clear h1 HQ
          go_upto_region 6 with fail
          have HQ := hid (H.out.so 59 1 w2.drew (H.out.drew _ _ HS.out) rfl)
          refine wp_region_G (S := fun _ => True) (st := 8) (by kernel_rfl) ?_
          refine wpAnyG_pure (i := 0) (oi := ⟨some 38, _, _, _, _, none⟩) (v := ?_) rfl (by kernel_rfl) (by kernel_rfl) (by kernel_rfl) (by decide) (fun _ _ _ h => h) (Or.inl ⟨by rfl, ?_⟩) (fun _ => trivial) ?_
          rotate_left 1
          focus (intro w hSw; go_simp; try (with_reducible rfl))
          simp only [Act.put, xA, xB, xC]
          refine wpAnyG_pure (i := 1) (oi := ⟨some 39, _, _, _, _, none⟩) (v := ?_) rfl (by kernel_rfl) (by kernel_rfl) (by kernel_rfl) (by decide) (fun _ _ _ h => h) (Or.inl ⟨by rfl, ?_⟩) (fun _ => trivial) ?_
          rotate_left 1
          focus (intro w hSw; go_simp; try (with_reducible rfl))
          simp only [Act.put, xA, xB, xC]
          refine wpAnyG_pure (i := 2) (oi := ⟨some 40, _, _, _, _, none⟩) (v := ?_) rfl (by kernel_rfl) (by kernel_rfl) (by kernel_rfl) (by decide) (fun _ _ _ h => h) (Or.inl ⟨by rfl, ?_⟩) (fun _ => trivial) ?_
          rotate_left 1
          focus (intro w hSw; go_simp; try (with_reducible rfl))
          simp only [Act.put, xA, xB, xC]
          refine wpAnyG_pure (i := 3) (oi := ⟨some 41, _, _, _, _, none⟩) (v := ?_) rfl (by kernel_rfl) (by kernel_rfl) (by kernel_rfl) (by decide) (fun _ _ _ h => h) (Or.inl ⟨by rfl, ?_⟩) (fun _ => trivial) ?_
          rotate_left 1
          focus (intro w hSw; go_simp; try (with_reducible rfl))
          simp only [Act.put, xA, xB, xC]
          refine wpAnyG_pure (i := 5) (oi := ⟨some 43, _, _, _, _, none⟩) (v := ?_) rfl (by kernel_rfl) (by kernel_rfl) (by kernel_rfl) (by decide) (fun _ _ _ h => h) (Or.inl ⟨by rfl, ?_⟩) (fun _ => trivial) ?_
          rotate_left 1
          focus (intro w hSw; go_simp; try (with_reducible rfl))
          simp only [Act.put, xA, xB, xC]
          refine wpAnyG_pure (i := 6) (oi := ⟨some 44, _, _, _, _, none⟩) (v := ?_) rfl (by kernel_rfl) (by kernel_rfl) (by kernel_rfl) (by decide) (fun _ _ _ h => h) (Or.inl ⟨by rfl, ?_⟩) (fun _ => trivial) ?_
          rotate_left 1
          focus (intro w hSw; go_simp; try (with_reducible rfl))
          simp only [Act.put, xA, xB, xC]
          refine wpAnyG_pure (i := 7) (oi := ⟨some 45, _, _, _, _, none⟩) (v := ?_) rfl (by kernel_rfl) (by kernel_rfl) (by kernel_rfl) (by decide) (fun _ _ _ h => h) (Or.inl ⟨by rfl, ?_⟩) (fun _ => trivial) ?_
          rotate_left 1
          focus (intro w hSw; go_simp; try (with_reducible rfl))
          simp only [Act.put, xA, xB, xC]
          refine wpAnyG_one (i := 4) (o := ⟨some 42, _, _, _, _, none⟩) (by kernel_rfl) rfl (fun K hK => ?_)
          go_simp
          refine hK.out _ _ (fun _ => trivial) ?_
          clear hK K
          try simp only [Act.put, xA, xB, xC]
          refine wpAnyG_one (i := 8) (o := ⟨some 46, _, _, _, _, none⟩) (by kernel_rfl) rfl (fun K hK => ?_)
          go_simp
          refine HQ.out.mono ?_
          rintro e w1 (⟨rfl, h1⟩ | ⟨rfl, h1⟩)
          · exact ⟨rfl, Or.inl ⟨rfl, h1⟩⟩
          · refine hK.out _ _ (fun _ => trivial) ?_
            clear hK K
            try simp only [Act.put, xA, xB, xC]
            refine wpAnyG_done (by kernel_rfl) ?_ _
            go_wp2
            exact ⟨⟨3, by omega, rfl, h1⟩, by simp [intOf]⟩
    · go_upto_region 8 with fail
      have HQ := hid (H.out.sn 60 1 wr.drew (H.out.drew _ _ HS.out) rfl)
      refine wp_region_G (S := fun _ => True) (st := 8) (by kernel_rfl) ?_
      refine wpAnyG_pure (i := 0) (oi := ⟨some 48, _, _, _, _, none⟩) (v := ?_) rfl (by kernel_rfl) (by kernel_rfl) (by kernel_rfl) (by decide) (fun _ _ _ h => h) (Or.inl ⟨by rfl, ?_⟩) (fun _ => trivial) ?_
      rotate_left 1
      focus (intro w hSw; go_simp; try (with_reducible rfl))
      simp only [Act.put, xA, xB, xC]
      refine wpAnyG_pure (i := 1) (oi := ⟨some 49, _, _, _, _, none⟩) (v := ?_) rfl (by kernel_rfl) (by kernel_rfl) (by kernel_rfl) (by decide) (fun _ _ _ h => h) (Or.inl ⟨by rfl, ?_⟩) (fun _ => trivial) ?_
      rotate_left 1
      focus (intro w hSw; go_simp; try (with_reducible rfl))
      simp only [Act.put, xA, xB, xC]
      refine wpAnyG_pure (i := 2) (oi := ⟨some 50, _, _, _, _, none⟩) (v := ?_) rfl (by kernel_rfl) (by kernel_rfl) (by kernel_rfl) (by decide) (fun _ _ _ h => h) (Or.inl ⟨by rfl, ?_⟩) (fun _ => trivial) ?_
      rotate_left 1
      focus (intro w hSw; go_simp; try (with_reducible rfl))
      simp only [Act.put, xA, xB, xC]
      refine wpAnyG_pure (i := 3) (oi := ⟨some 51, _, _, _, _, none⟩) (v := ?_) rfl (by kernel_rfl) (by kernel_rfl) (by kernel_rfl) (by decide) (fun _ _ _ h => h) (Or.inl ⟨by rfl, ?_⟩) (fun _ => trivial) ?_
      rotate_left 1
      focus (intro w hSw; go_simp; try (with_reducible rfl))
      simp only [Act.put, xA, xB, xC]
      refine wpAnyG_pure (i := 5) (oi := ⟨some 53, _, _, _, _, none⟩) (v := ?_) rfl (by kernel_rfl) (by kernel_rfl) (by kernel_rfl) (by decide) (fun _ _ _ h => h) (Or.inl ⟨by rfl, ?_⟩) (fun _ => trivial) ?_
      rotate_left 1
      focus (intro w hSw; go_simp; try (with_reducible rfl))
      simp only [Act.put, xA, xB, xC]
      refine wpAnyG_pure (i := 6) (oi := ⟨some 54, _, _, _, _, none⟩) (v := ?_) rfl (by kernel_rfl) (by kernel_rfl) (by kernel_rfl) (by decide) (fun _ _ _ h => h) (Or.inl ⟨by rfl, ?_⟩) (fun _ => trivial) ?_
      rotate_left 1
      focus (intro w hSw; go_simp; try (with_reducible rfl))
      simp only [Act.put, xA, xB, xC]
      refine wpAnyG_pure (i := 7) (oi := ⟨some 55, _, _, _, _, none⟩) (v := ?_) rfl (by kernel_rfl) (by kernel_rfl) (by kernel_rfl) (by decide) (fun _ _ _ h => h) (Or.inl ⟨by rfl, ?_⟩) (fun _ => trivial) ?_
      rotate_left 1
      focus (intro w hSw; go_simp; try (with_reducible rfl))
      simp only [Act.put, xA, xB, xC]
      refine wpAnyG_one (i := 4) (o := ⟨some 52, _, _, _, _, none⟩) (by kernel_rfl) rfl (fun K hK => ?_)
      go_simp
      refine hK.out _ _ (fun _ => trivial) ?_
      clear hK K
      try simp only [Act.put, xA, xB, xC]
      refine wpAnyG_one (i := 8) (o := ⟨some 56, _, _, _, _, none⟩) (by kernel_rfl) rfl (fun K hK => ?_)
      go_simp
      refine HQ.out.mono ?_
      rintro e w1 (⟨rfl, h1⟩ | ⟨rfl, h1⟩)
      · exact ⟨rfl, Or.inl ⟨rfl, h1⟩⟩
      · refine hK.out _ _ (fun _ => trivial) ?_
        clear hK K
        try simp only [Act.put, xA, xB, xC]
        refine wpAnyG_done (by kernel_rfl) ?_ _
        go_end0
        exact Or.inr ⟨rfl, h1⟩
end
end Go.Proofs.Ytdioiilmpjckfaa
