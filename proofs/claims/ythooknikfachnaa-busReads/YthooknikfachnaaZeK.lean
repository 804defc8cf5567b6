/-
  Joined texts.
-/
import Derived.Test.YthooknikfachnaaZeN
import Derived.Test.YthooknikfachnaaBusW
import Derived.WalkKit
import Derived.ProofKit
import Derived.Maps.OwnOps
import Derived.ChangeMaps5
import Derived.Below
import Derived.Test.YthooknikfachnaaBusM
import Derived.Test.YthooknikfachnaaBusI
import Derived.Test.YthooknikfachnaaPadA
import Derived.Deep.DeepCutAuto
import Derived.Deep.RegionHeld3
import Derived.Test.YthooknikfachnaaZeA
import Derived.Test.YthooknikfachnaaBusL2
import Derived.Laws.EntriesVeiled
import Derived.Test.YthooknikfachnaaZeC
namespace Go.Proofs.Ythooknikfachnaa
open Go.ChangeShapes Go.WideShapes Go.ChangeAt Go.RowKit
set_option linter.unusedVariables false
set_option maxRecDepth 100000

theorem newM_chk (l1 l2 : List UInt8) (h : ¬ (l1.length ≤ 1024 ∧ l2.length ≤ 1024)) : (newM l1 l2).chk = 2 := by
  unfold Mach.chk
  exact if_neg h
theorem newM_len (l1 l2 : List UInt8) (h1 : l1.length ≤ 9223372036854775807) (h2 : l2.length ≤ 9223372036854775807) : ∀ j, j < 5 → ((newM l1 l2).byt j).length ≤ 9223372036854775807 := fun j hj => by
  rcases five hj with rfl | rfl | rfl | rfl | rfl
  · exact h1
  · exact h2
  · show (List.replicate 128 (0 : UInt8)).length ≤ _; rw [List.length_replicate]; omega
  · show (List.replicate 64 (0 : UInt8)).length ≤ _; rw [List.length_replicate]; omega
  · show (List.replicate 256 (0 : UInt8)).length ≤ _; rw [List.length_replicate]; omega
theorem zero_again {Y : World} {b : Nat} (h : Bx Y b (machL zeroM nilS)) : Bx (Y.setCells b 0 (machL zeroM nilS)) b (machL zeroM nilS) := by
  have hx := h.puts 0 (machL zeroM nilS) (by omega)
  rw [putL_whole _ _ rfl] at hx
  exact hx
set_option maxHeartbeats 3200000 in
theorem Bu.new_bad (l1 l2 : List UInt8) (v1 v2 : Value) (w : World) (h1 : sliceAt w v1 l1) (h2 : sliceAt w v2 l2) (hl1 : l1.length ≤ 9223372036854775807) (hl2 : l2.length ≤ 9223372036854775807) (hc : ¬ (l1.length ≤ 1024 ∧ l2.length ≤ 1024)) :
    Calls Try.prog 8 #[v1, v2] w fun e w' => e = .returned (.tuple #[.agg (machL zeroM nilS).toArray, .int .i64 2]) ∧ Below w.heap.size w w' := by
  obtain ⟨a1, c1, e1⟩ := slice_len h1
  obtain ⟨a2, c2, e2⟩ := slice_len h2
  subst e1 e2
  have H1 := hid h1
  have H2 := hid h2
  have HR := hid (Bx.new w (machL zeroM nilS) 41 (b := w.heap.size) rfl)
  have HCK := hid (newM_chk l1 l2 hc)
  have HZ := hid (newM_len l1 l2 hl1 hl2)
  clear h1 h2 hl1 hl2 hc
  go_enter Try.func8, Try.ntmps8
  go_wp2
  refine wp_region_held_drew (S := fun _ => True) (by kernel_rfl) trivial ?_
  intro _
  refine wpAnyH_take (i := 0) (oi := { dst := some 9, op := _, type := _, pos := _, after := _, guard := none }) (v := ?_) rfl (by kernel_rfl) (by kernel_rfl) (by kernel_rfl) (fun _ _ _ h => h) (Or.inl ⟨by rfl, ?_⟩) trivial ?_
  rotate_left 1
  focus (intro w hSw; (try dsimp only at hSw); go_simp; try (with_reducible rfl))
  simp only [Act.put, List.setIfInBounds_toArray, List.set_cons_zero, List.set_cons_succ]
  refine wpAnyH_take (i := 1) (oi := { dst := some 10, op := _, type := _, pos := _, after := _, guard := none }) (v := ?_) rfl (by kernel_rfl) (by kernel_rfl) (by kernel_rfl) (fun _ _ _ h => h) (Or.inl ⟨by rfl, ?_⟩) trivial ?_
  rotate_left 1
  focus (intro w hSw; (try dsimp only at hSw); go_simp; try (with_reducible rfl))
  simp only [Act.put, List.setIfInBounds_toArray, List.set_cons_zero, List.set_cons_succ]
  refine wpAnyH_ready (rs := [2, 3, 4]) (by kernel_rfl) (by simp) ?_
  refine consH_make (op := { dst := some 11, op := _, type := _, pos := _, after := _, guard := none }) rfl rfl 22 _ _ rfl (.int .i64 128) (.int .i64 128) _ rfl rfl (mk128 _ (w.heap.size + 1) (by simp)) trivial ?_ (consH_make (op := { dst := some 12, op := _, type := _, pos := _, after := _, guard := none }) rfl rfl 22 _ _ rfl (.int .i64 64) (.int .i64 64) _ rfl rfl (mk64 _ (w.heap.size + 1) (by simp)) trivial ?_ (consH_make (op := { dst := some 13, op := _, type := _, pos := _, after := _, guard := none }) rfl rfl 22 _ _ rfl (.int .i64 256) (.int .i64 256) _ rfl rfl (mkV _ (w.heap.size + 1) (by simp)) trivial ?_ AllReadyH.nil))
  all_goals simp only [Act.put, List.setIfInBounds_toArray, List.set_cons_zero, List.set_cons_succ]
  · refine wpAnyH_ready (rs := [3, 4]) (by kernel_rfl) (by simp) ?_
    refine consH_make (op := { dst := some 12, op := _, type := _, pos := _, after := _, guard := none }) rfl rfl 22 _ _ rfl (.int .i64 64) (.int .i64 64) _ rfl rfl (mk64 _ (w.heap.size + 1 + 1) (by simp)) trivial ?_ (consH_make (op := { dst := some 13, op := _, type := _, pos := _, after := _, guard := none }) rfl rfl 22 _ _ rfl (.int .i64 256) (.int .i64 256) _ rfl rfl (mkV _ (w.heap.size + 1 + 1) (by simp)) trivial ?_ AllReadyH.nil)
    all_goals simp only [Act.put, List.setIfInBounds_toArray, List.set_cons_zero, List.set_cons_succ]
    · refine wpAnyH_ready (rs := [4]) (by kernel_rfl) (by simp) ?_
      refine consH_make (op := { dst := some 13, op := _, type := _, pos := _, after := _, guard := none }) rfl rfl 22 _ _ rfl (.int .i64 256) (.int .i64 256) _ rfl rfl (mkV _ (w.heap.size + 1 + 1 + 1) (by simp)) trivial ?_ AllReadyH.nil
      simp only [Act.put, List.setIfInBounds_toArray, List.set_cons_zero, List.set_cons_succ]
      refine cutH (NF w l1 l2 ⟨.slice a1 l1.length c1, .slice a2 l2.length c2, .slice (some ⟨_, 0, none⟩) 128 128, .slice (some ⟨_, 0, none⟩) 64 64, .slice (some ⟨_, 0, none⟩) 256 256⟩) (NF.of (b1 := w.heap.size + 1) (b2 := w.heap.size + 1 + 1) (b3 := w.heap.size + 1 + 1 + 1) H1.out H2.out ?_ ?_ ?_ ?_ ?_) ?_
      · repeat' (first | exact st0 _ | refine Below.drew ?_ | refine stA ?_ _)
      · repeat' (first | exact HR.out | refine Bx.drew ?_ | refine Bx.over ?_ _)
      · repeat' (first | exact Bx.new _ (List.replicate 128 (.int .u8 0)) _ (by simp) | refine Bx.drew ?_ | refine Bx.over ?_ _)
      · repeat' (first | exact Bx.new _ (List.replicate 64 (.int .u8 0)) _ (by simp) | refine Bx.drew ?_ | refine Bx.over ?_ _)
      · repeat' (first | exact Bx.new _ (List.replicate 256 (.int .u8 0)) _ (by simp) | refine Bx.drew ?_ | refine Bx.over ?_ _)
      intro Y hY
      have HY := hid hY
      clear hY
      refine wpAnyH_take (i := 5) (oi := { dst := some 14, op := _, type := _, pos := _, after := _, guard := none }) (v := .agg (machL (newM l1 l2) ⟨.slice a1 l1.length c1, .slice a2 l2.length c2, .slice (some ⟨w.heap.size + 1, 0, none⟩) 128 128, .slice (some ⟨w.heap.size + 1 + 1, 0, none⟩) 64 64, .slice (some ⟨w.heap.size + 1 + 1 + 1, 0, none⟩) 256 256⟩).toArray) rfl (by kernel_rfl) (by kernel_rfl) (by kernel_rfl) (fun _ _ _ h => h) (Or.inl ⟨by rfl, fun w' _ => exec_build6 41 2 3 4 5 6 14 _ _ _ _ _ _ rfl _ _ _ _ _ _ _ rfl rfl rfl rfl rfl rfl (run_new a1 a2 l1.length c1 l2.length c2 (w.heap.size + 1) (w.heap.size + 1 + 1) (w.heap.size + 1 + 1 + 1) l1 l2 w')⟩) trivial ?_
      simp only [Act.put, List.setIfInBounds_toArray, List.set_cons_zero, List.set_cons_succ]
      refine wpAnyH_ready (rs := [6]) (by kernel_rfl) (by simp) ?_
      refine AllReadyH.cons (o := { dst := some 15, op := _, type := _, pos := _, after := _, guard := none }) rfl (fun K hK => ?_) AllReadyH.nil
      go_simp
      go_at_call 21
      refine (Bu.open_bad (newM l1 l2) _ _ HY.out.sl.lens HZ.out (by rw [HCK.out]; decide)).mono ?_
      rw [HCK.out]
      rintro e w1 ⟨rfl, hb1⟩
      have HLO := hid (stp HY.out.low hb1)
      have HRE := hid (HY.out.res.kept hb1)
      clear hb1
      try go_wp2_with fail
      refine hK.out _ _ trivial (fun _ => ?_)
      clear hK K HY
      try simp only [Act.put, List.setIfInBounds_toArray, List.set_cons_zero, List.set_cons_succ]
      refine wpAnyH_take (i := 7) (oi := { dst := some 8, op := _, type := _, pos := _, after := _, guard := none }) (v := ?_) rfl (by kernel_rfl) (by kernel_rfl) (by kernel_rfl) (fun _ _ _ h => h) (Or.inl ⟨by rfl, ?_⟩) trivial ?_
      rotate_left 1
      focus (intro w hSw; (try dsimp only at hSw); go_simp; try (with_reducible rfl))
      simp only [Act.put, List.setIfInBounds_toArray, List.set_cons_zero, List.set_cons_succ]
      refine wpAnyH_take (i := 8) (oi := { dst := some 16, op := _, type := _, pos := _, after := _, guard := none }) (v := ?_) rfl (by kernel_rfl) (by kernel_rfl) (by kernel_rfl) (fun _ _ _ h => h) (Or.inl ⟨by rfl, ?_⟩) trivial ?_
      rotate_left 1
      focus (intro w hSw; (try dsimp only at hSw); go_simp; try (with_reducible rfl))
      simp only [Act.put, List.setIfInBounds_toArray, List.set_cons_zero, List.set_cons_succ]
      refine wpAnyH_take (i := 9) (oi := { dst := some 17, op := _, type := _, pos := _, after := _, guard := none }) (v := ?_) rfl (by kernel_rfl) (by kernel_rfl) (by kernel_rfl) (fun _ _ _ h => h) (Or.inl ⟨by rfl, ?_⟩) trivial ?_
      rotate_left 1
      focus (intro w hSw; (try dsimp only at hSw); go_simp; try (with_reducible rfl))
      simp only [Act.put, List.setIfInBounds_toArray, List.set_cons_zero, List.set_cons_succ]
      refine wpAnyH_take (i := 10) (oi := { dst := some 6, op := _, type := _, pos := _, after := _, guard := none }) (v := ?_) rfl (by kernel_rfl) (by kernel_rfl) (by kernel_rfl) (fun _ _ _ h => h) (Or.inl ⟨by rfl, ?_⟩) trivial ?_
      rotate_left 1
      focus (intro w hSw; (try dsimp only at hSw); go_simp; try (with_reducible rfl))
      simp only [Act.put, List.setIfInBounds_toArray, List.set_cons_zero, List.set_cons_succ]
      refine wpAnyH_take (i := 11) (oi := { dst := some 7, op := _, type := _, pos := _, after := _, guard := none }) (v := ?_) rfl (by kernel_rfl) (by kernel_rfl) (by kernel_rfl) (fun _ _ _ h => h) (Or.inl ⟨by rfl, ?_⟩) trivial ?_
      rotate_left 1
      focus (intro w hSw; (try dsimp only at hSw); go_simp; try (with_reducible rfl))
      simp only [Act.put, List.setIfInBounds_toArray, List.set_cons_zero, List.set_cons_succ]
      refine wpAnyH_done (by kernel_rfl) ?_ _
      refine Pl.cutE (fun X => Below w.heap.size w X ∧ Bx X w.heap.size (machL zeroM nilS)) ⟨HLO.out, HRE.out⟩ ?_
      rintro X ⟨hX1, hX2⟩
      have HX1 := hid hX1
      have HX2 := hid hX2
      clear hX1 hX2 HLO HRE
      go_wp2_with (refine wpList_store_mid rfl 41 _ _ rfl w.heap.size 0 (machL zeroM nilS).toArray rfl rfl (HX2.out.there 0 75 (by rw [machL_len]; omega)) info_mach (machL_one _ _ zero_sl) ?_; refine Pl.cutL (fun V => Below w.heap.size w V ∧ Bx V w.heap.size (machL zeroM nilS)) ⟨Bl.puts HX1.out (Nat.le_refl _) _, zero_again HX2.out⟩ ?_; rintro V ⟨hV1, hV2⟩; have HV1 := hid hV1; have HV2 := hid hV2; clear hV1 hV2)
      have hl := load_mach _ _ HV2.out.c
      refine bodyPost_ret (v := .tuple #[.agg (machL zeroM nilS).toArray, .int .i64 2]) ?_ rfl ⟨rfl, HV1.out⟩
      simp only [results, Try.results8]
      simp
      show (Result.andThen (Sem.run Try.prog (loadVar 41 ⟨w.heap.size, 0, none⟩) V) _) = _
      rw [hl]
      rfl
    · refine wpAnyH_ready (rs := [3]) (by kernel_rfl) (by simp) ?_
      refine consH_make (op := { dst := some 12, op := _, type := _, pos := _, after := _, guard := none }) rfl rfl 22 _ _ rfl (.int .i64 64) (.int .i64 64) _ rfl rfl (mk64 _ (w.heap.size + 1 + 1 + 1) (by simp)) trivial ?_ AllReadyH.nil
      simp only [Act.put, List.setIfInBounds_toArray, List.set_cons_zero, List.set_cons_succ]
      refine cutH (NF w l1 l2 ⟨.slice a1 l1.length c1, .slice a2 l2.length c2, .slice (some ⟨_, 0, none⟩) 128 128, .slice (some ⟨_, 0, none⟩) 64 64, .slice (some ⟨_, 0, none⟩) 256 256⟩) (NF.of (b1 := w.heap.size + 1) (b2 := w.heap.size + 1 + 1 + 1) (b3 := w.heap.size + 1 + 1) H1.out H2.out ?_ ?_ ?_ ?_ ?_) ?_
      · repeat' (first | exact st0 _ | refine Below.drew ?_ | refine stA ?_ _)
      · repeat' (first | exact HR.out | refine Bx.drew ?_ | refine Bx.over ?_ _)
      · repeat' (first | exact Bx.new _ (List.replicate 128 (.int .u8 0)) _ (by simp) | refine Bx.drew ?_ | refine Bx.over ?_ _)
      · repeat' (first | exact Bx.new _ (List.replicate 64 (.int .u8 0)) _ (by simp) | refine Bx.drew ?_ | refine Bx.over ?_ _)
      · repeat' (first | exact Bx.new _ (List.replicate 256 (.int .u8 0)) _ (by simp) | refine Bx.drew ?_ | refine Bx.over ?_ _)
      intro Y hY
      have HY := hid hY
      clear hY
      refine wpAnyH_take (i := 5) (oi := { dst := some 14, op := _, type := _, pos := _, after := _, guard := none }) (v := .agg (machL (newM l1 l2) ⟨.slice a1 l1.length c1, .slice a2 l2.length c2, .slice (some ⟨w.heap.size + 1, 0, none⟩) 128 128, .slice (some ⟨w.heap.size + 1 + 1 + 1, 0, none⟩) 64 64, .slice (some ⟨w.heap.size + 1 + 1, 0, none⟩) 256 256⟩).toArray) rfl (by kernel_rfl) (by kernel_rfl) (by kernel_rfl) (fun _ _ _ h => h) (Or.inl ⟨by rfl, fun w' _ => exec_build6 41 2 3 4 5 6 14 _ _ _ _ _ _ rfl _ _ _ _ _ _ _ rfl rfl rfl rfl rfl rfl (run_new a1 a2 l1.length c1 l2.length c2 (w.heap.size + 1) (w.heap.size + 1 + 1 + 1) (w.heap.size + 1 + 1) l1 l2 w')⟩) trivial ?_
      simp only [Act.put, List.setIfInBounds_toArray, List.set_cons_zero, List.set_cons_succ]
      refine wpAnyH_ready (rs := [6]) (by kernel_rfl) (by simp) ?_
      refine AllReadyH.cons (o := { dst := some 15, op := _, type := _, pos := _, after := _, guard := none }) rfl (fun K hK => ?_) AllReadyH.nil
      go_simp
      go_at_call 21
      refine (Bu.open_bad (newM l1 l2) _ _ HY.out.sl.lens HZ.out (by rw [HCK.out]; decide)).mono ?_
      rw [HCK.out]
      rintro e w1 ⟨rfl, hb1⟩
      have HLO := hid (stp HY.out.low hb1)
      have HRE := hid (HY.out.res.kept hb1)
      clear hb1
      try go_wp2_with fail
      refine hK.out _ _ trivial (fun _ => ?_)
      clear hK K HY
      try simp only [Act.put, List.setIfInBounds_toArray, List.set_cons_zero, List.set_cons_succ]
      refine wpAnyH_take (i := 7) (oi := { dst := some 8, op := _, type := _, pos := _, after := _, guard := none }) (v := ?_) rfl (by kernel_rfl) (by kernel_rfl) (by kernel_rfl) (fun _ _ _ h => h) (Or.inl ⟨by rfl, ?_⟩) trivial ?_
      rotate_left 1
      focus (intro w hSw; (try dsimp only at hSw); go_simp; try (with_reducible rfl))
      simp only [Act.put, List.setIfInBounds_toArray, List.set_cons_zero, List.set_cons_succ]
      refine wpAnyH_take (i := 8) (oi := { dst := some 16, op := _, type := _, pos := _, after := _, guard := none }) (v := ?_) rfl (by kernel_rfl) (by kernel_rfl) (by kernel_rfl) (fun _ _ _ h => h) (Or.inl ⟨by rfl, ?_⟩) trivial ?_
      rotate_left 1
      focus (intro w hSw; (try dsimp only at hSw); go_simp; try (with_reducible rfl))
      simp only [Act.put, List.setIfInBounds_toArray, List.set_cons_zero, List.set_cons_succ]
      refine wpAnyH_take (i := 9) (oi := { dst := some 17, op := _, type := _, pos := _, after := _, guard := none }) (v := ?_) rfl (by kernel_rfl) (by kernel_rfl) (by kernel_rfl) (fun _ _ _ h => h) (Or.inl ⟨by rfl, ?_⟩) trivial ?_
      rotate_left 1
      focus (intro w hSw; (try dsimp only at hSw); go_simp; try (with_reducible rfl))
      simp only [Act.put, List.setIfInBounds_toArray, List.set_cons_zero, List.set_cons_succ]
      refine wpAnyH_take (i := 10) (oi := { dst := some 6, op := _, type := _, pos := _, after := _, guard := none }) (v := ?_) rfl (by kernel_rfl) (by kernel_rfl) (by kernel_rfl) (fun _ _ _ h => h) (Or.inl ⟨by rfl, ?_⟩) trivial ?_
      rotate_left 1
      focus (intro w hSw; (try dsimp only at hSw); go_simp; try (with_reducible rfl))
      simp only [Act.put, List.setIfInBounds_toArray, List.set_cons_zero, List.set_cons_succ]
      refine wpAnyH_take (i := 11) (oi := { dst := some 7, op := _, type := _, pos := _, after := _, guard := none }) (v := ?_) rfl (by kernel_rfl) (by kernel_rfl) (by kernel_rfl) (fun _ _ _ h => h) (Or.inl ⟨by rfl, ?_⟩) trivial ?_
      rotate_left 1
      focus (intro w hSw; (try dsimp only at hSw); go_simp; try (with_reducible rfl))
      simp only [Act.put, List.setIfInBounds_toArray, List.set_cons_zero, List.set_cons_succ]
      refine wpAnyH_done (by kernel_rfl) ?_ _
      refine Pl.cutE (fun X => Below w.heap.size w X ∧ Bx X w.heap.size (machL zeroM nilS)) ⟨HLO.out, HRE.out⟩ ?_
      rintro X ⟨hX1, hX2⟩
      have HX1 := hid hX1
      have HX2 := hid hX2
      clear hX1 hX2 HLO HRE
      go_wp2_with (refine wpList_store_mid rfl 41 _ _ rfl w.heap.size 0 (machL zeroM nilS).toArray rfl rfl (HX2.out.there 0 75 (by rw [machL_len]; omega)) info_mach (machL_one _ _ zero_sl) ?_; refine Pl.cutL (fun V => Below w.heap.size w V ∧ Bx V w.heap.size (machL zeroM nilS)) ⟨Bl.puts HX1.out (Nat.le_refl _) _, zero_again HX2.out⟩ ?_; rintro V ⟨hV1, hV2⟩; have HV1 := hid hV1; have HV2 := hid hV2; clear hV1 hV2)
      have hl := load_mach _ _ HV2.out.c
      refine bodyPost_ret (v := .tuple #[.agg (machL zeroM nilS).toArray, .int .i64 2]) ?_ rfl ⟨rfl, HV1.out⟩
      simp only [results, Try.results8]
      simp
      show (Result.andThen (Sem.run Try.prog (loadVar 41 ⟨w.heap.size, 0, none⟩) V) _) = _
      rw [hl]
      rfl
  · refine wpAnyH_ready (rs := [2, 4]) (by kernel_rfl) (by simp) ?_
    refine consH_make (op := { dst := some 11, op := _, type := _, pos := _, after := _, guard := none }) rfl rfl 22 _ _ rfl (.int .i64 128) (.int .i64 128) _ rfl rfl (mk128 _ (w.heap.size + 1 + 1) (by simp)) trivial ?_ (consH_make (op := { dst := some 13, op := _, type := _, pos := _, after := _, guard := none }) rfl rfl 22 _ _ rfl (.int .i64 256) (.int .i64 256) _ rfl rfl (mkV _ (w.heap.size + 1 + 1) (by simp)) trivial ?_ AllReadyH.nil)
    all_goals simp only [Act.put, List.setIfInBounds_toArray, List.set_cons_zero, List.set_cons_succ]
    · refine wpAnyH_ready (rs := [4]) (by kernel_rfl) (by simp) ?_
      refine consH_make (op := { dst := some 13, op := _, type := _, pos := _, after := _, guard := none }) rfl rfl 22 _ _ rfl (.int .i64 256) (.int .i64 256) _ rfl rfl (mkV _ (w.heap.size + 1 + 1 + 1) (by simp)) trivial ?_ AllReadyH.nil
      simp only [Act.put, List.setIfInBounds_toArray, List.set_cons_zero, List.set_cons_succ]
      refine cutH (NF w l1 l2 ⟨.slice a1 l1.length c1, .slice a2 l2.length c2, .slice (some ⟨_, 0, none⟩) 128 128, .slice (some ⟨_, 0, none⟩) 64 64, .slice (some ⟨_, 0, none⟩) 256 256⟩) (NF.of (b1 := w.heap.size + 1 + 1) (b2 := w.heap.size + 1) (b3 := w.heap.size + 1 + 1 + 1) H1.out H2.out ?_ ?_ ?_ ?_ ?_) ?_
      · repeat' (first | exact st0 _ | refine Below.drew ?_ | refine stA ?_ _)
      · repeat' (first | exact HR.out | refine Bx.drew ?_ | refine Bx.over ?_ _)
      · repeat' (first | exact Bx.new _ (List.replicate 128 (.int .u8 0)) _ (by simp) | refine Bx.drew ?_ | refine Bx.over ?_ _)
      · repeat' (first | exact Bx.new _ (List.replicate 64 (.int .u8 0)) _ (by simp) | refine Bx.drew ?_ | refine Bx.over ?_ _)
      · repeat' (first | exact Bx.new _ (List.replicate 256 (.int .u8 0)) _ (by simp) | refine Bx.drew ?_ | refine Bx.over ?_ _)
      intro Y hY
      have HY := hid hY
      clear hY
      refine wpAnyH_take (i := 5) (oi := { dst := some 14, op := _, type := _, pos := _, after := _, guard := none }) (v := .agg (machL (newM l1 l2) ⟨.slice a1 l1.length c1, .slice a2 l2.length c2, .slice (some ⟨w.heap.size + 1 + 1, 0, none⟩) 128 128, .slice (some ⟨w.heap.size + 1, 0, none⟩) 64 64, .slice (some ⟨w.heap.size + 1 + 1 + 1, 0, none⟩) 256 256⟩).toArray) rfl (by kernel_rfl) (by kernel_rfl) (by kernel_rfl) (fun _ _ _ h => h) (Or.inl ⟨by rfl, fun w' _ => exec_build6 41 2 3 4 5 6 14 _ _ _ _ _ _ rfl _ _ _ _ _ _ _ rfl rfl rfl rfl rfl rfl (run_new a1 a2 l1.length c1 l2.length c2 (w.heap.size + 1 + 1) (w.heap.size + 1) (w.heap.size + 1 + 1 + 1) l1 l2 w')⟩) trivial ?_
      simp only [Act.put, List.setIfInBounds_toArray, List.set_cons_zero, List.set_cons_succ]
      refine wpAnyH_ready (rs := [6]) (by kernel_rfl) (by simp) ?_
      refine AllReadyH.cons (o := { dst := some 15, op := _, type := _, pos := _, after := _, guard := none }) rfl (fun K hK => ?_) AllReadyH.nil
      go_simp
      go_at_call 21
      refine (Bu.open_bad (newM l1 l2) _ _ HY.out.sl.lens HZ.out (by rw [HCK.out]; decide)).mono ?_
      rw [HCK.out]
      rintro e w1 ⟨rfl, hb1⟩
      have HLO := hid (stp HY.out.low hb1)
      have HRE := hid (HY.out.res.kept hb1)
      clear hb1
      try go_wp2_with fail
      refine hK.out _ _ trivial (fun _ => ?_)
      clear hK K HY
      try simp only [Act.put, List.setIfInBounds_toArray, List.set_cons_zero, List.set_cons_succ]
      refine wpAnyH_take (i := 7) (oi := { dst := some 8, op := _, type := _, pos := _, after := _, guard := none }) (v := ?_) rfl (by kernel_rfl) (by kernel_rfl) (by kernel_rfl) (fun _ _ _ h => h) (Or.inl ⟨by rfl, ?_⟩) trivial ?_
      rotate_left 1
      focus (intro w hSw; (try dsimp only at hSw); go_simp; try (with_reducible rfl))
      simp only [Act.put, List.setIfInBounds_toArray, List.set_cons_zero, List.set_cons_succ]
      refine wpAnyH_take (i := 8) (oi := { dst := some 16, op := _, type := _, pos := _, after := _, guard := none }) (v := ?_) rfl (by kernel_rfl) (by kernel_rfl) (by kernel_rfl) (fun _ _ _ h => h) (Or.inl ⟨by rfl, ?_⟩) trivial ?_
      rotate_left 1
      focus (intro w hSw; (try dsimp only at hSw); go_simp; try (with_reducible rfl))
      simp only [Act.put, List.setIfInBounds_toArray, List.set_cons_zero, List.set_cons_succ]
      refine wpAnyH_take (i := 9) (oi := { dst := some 17, op := _, type := _, pos := _, after := _, guard := none }) (v := ?_) rfl (by kernel_rfl) (by kernel_rfl) (by kernel_rfl) (fun _ _ _ h => h) (Or.inl ⟨by rfl, ?_⟩) trivial ?_
      rotate_left 1
      focus (intro w hSw; (try dsimp only at hSw); go_simp; try (with_reducible rfl))
      simp only [Act.put, List.setIfInBounds_toArray, List.set_cons_zero, List.set_cons_succ]
      refine wpAnyH_take (i := 10) (oi := { dst := some 6, op := _, type := _, pos := _, after := _, guard := none }) (v := ?_) rfl (by kernel_rfl) (by kernel_rfl) (by kernel_rfl) (fun _ _ _ h => h) (Or.inl ⟨by rfl, ?_⟩) trivial ?_
      rotate_left 1
      focus (intro w hSw; (try dsimp only at hSw); go_simp; try (with_reducible rfl))
      simp only [Act.put, List.setIfInBounds_toArray, List.set_cons_zero, List.set_cons_succ]
      refine wpAnyH_take (i := 11) (oi := { dst := some 7, op := _, type := _, pos := _, after := _, guard := none }) (v := ?_) rfl (by kernel_rfl) (by kernel_rfl) (by kernel_rfl) (fun _ _ _ h => h) (Or.inl ⟨by rfl, ?_⟩) trivial ?_
      rotate_left 1
      focus (intro w hSw; (try dsimp only at hSw); go_simp; try (with_reducible rfl))
      simp only [Act.put, List.setIfInBounds_toArray, List.set_cons_zero, List.set_cons_succ]
      refine wpAnyH_done (by kernel_rfl) ?_ _
      refine Pl.cutE (fun X => Below w.heap.size w X ∧ Bx X w.heap.size (machL zeroM nilS)) ⟨HLO.out, HRE.out⟩ ?_
      rintro X ⟨hX1, hX2⟩
      have HX1 := hid hX1
      have HX2 := hid hX2
      clear hX1 hX2 HLO HRE
      go_wp2_with (refine wpList_store_mid rfl 41 _ _ rfl w.heap.size 0 (machL zeroM nilS).toArray rfl rfl (HX2.out.there 0 75 (by rw [machL_len]; omega)) info_mach (machL_one _ _ zero_sl) ?_; refine Pl.cutL (fun V => Below w.heap.size w V ∧ Bx V w.heap.size (machL zeroM nilS)) ⟨Bl.puts HX1.out (Nat.le_refl _) _, zero_again HX2.out⟩ ?_; rintro V ⟨hV1, hV2⟩; have HV1 := hid hV1; have HV2 := hid hV2; clear hV1 hV2)
      have hl := load_mach _ _ HV2.out.c
      refine bodyPost_ret (v := .tuple #[.agg (machL zeroM nilS).toArray, .int .i64 2]) ?_ rfl ⟨rfl, HV1.out⟩
      simp only [results, Try.results8]
      simp
      show (Result.andThen (Sem.run Try.prog (loadVar 41 ⟨w.heap.size, 0, none⟩) V) _) = _
      rw [hl]
      rfl
    · refine wpAnyH_ready (rs := [2]) (by kernel_rfl) (by simp) ?_
      refine consH_make (op := { dst := some 11, op := _, type := _, pos := _, after := _, guard := none }) rfl rfl 22 _ _ rfl (.int .i64 128) (.int .i64 128) _ rfl rfl (mk128 _ (w.heap.size + 1 + 1 + 1) (by simp)) trivial ?_ AllReadyH.nil
      simp only [Act.put, List.setIfInBounds_toArray, List.set_cons_zero, List.set_cons_succ]
      refine cutH (NF w l1 l2 ⟨.slice a1 l1.length c1, .slice a2 l2.length c2, .slice (some ⟨_, 0, none⟩) 128 128, .slice (some ⟨_, 0, none⟩) 64 64, .slice (some ⟨_, 0, none⟩) 256 256⟩) (NF.of (b1 := w.heap.size + 1 + 1 + 1) (b2 := w.heap.size + 1) (b3 := w.heap.size + 1 + 1) H1.out H2.out ?_ ?_ ?_ ?_ ?_) ?_
      · repeat' (first | exact st0 _ | refine Below.drew ?_ | refine stA ?_ _)
      · repeat' (first | exact HR.out | refine Bx.drew ?_ | refine Bx.over ?_ _)
      · repeat' (first | exact Bx.new _ (List.replicate 128 (.int .u8 0)) _ (by simp) | refine Bx.drew ?_ | refine Bx.over ?_ _)
      · repeat' (first | exact Bx.new _ (List.replicate 64 (.int .u8 0)) _ (by simp) | refine Bx.drew ?_ | refine Bx.over ?_ _)
      · repeat' (first | exact Bx.new _ (List.replicate 256 (.int .u8 0)) _ (by simp) | refine Bx.drew ?_ | refine Bx.over ?_ _)
      intro Y hY
      have HY := hid hY
      clear hY
      refine wpAnyH_take (i := 5) (oi := { dst := some 14, op := _, type := _, pos := _, after := _, guard := none }) (v := .agg (machL (newM l1 l2) ⟨.slice a1 l1.length c1, .slice a2 l2.length c2, .slice (some ⟨w.heap.size + 1 + 1 + 1, 0, none⟩) 128 128, .slice (some ⟨w.heap.size + 1, 0, none⟩) 64 64, .slice (some ⟨w.heap.size + 1 + 1, 0, none⟩) 256 256⟩).toArray) rfl (by kernel_rfl) (by kernel_rfl) (by kernel_rfl) (fun _ _ _ h => h) (Or.inl ⟨by rfl, fun w' _ => exec_build6 41 2 3 4 5 6 14 _ _ _ _ _ _ rfl _ _ _ _ _ _ _ rfl rfl rfl rfl rfl rfl (run_new a1 a2 l1.length c1 l2.length c2 (w.heap.size + 1 + 1 + 1) (w.heap.size + 1) (w.heap.size + 1 + 1) l1 l2 w')⟩) trivial ?_
      simp only [Act.put, List.setIfInBounds_toArray, List.set_cons_zero, List.set_cons_succ]
      refine wpAnyH_ready (rs := [6]) (by kernel_rfl) (by simp) ?_
      refine AllReadyH.cons (o := { dst := some 15, op := _, type := _, pos := _, after := _, guard := none }) rfl (fun K hK => ?_) AllReadyH.nil
      go_simp
      go_at_call 21
      refine (Bu.open_bad (newM l1 l2) _ _ HY.out.sl.lens HZ.out (by rw [HCK.out]; decide)).mono ?_
      rw [HCK.out]
      rintro e w1 ⟨rfl, hb1⟩
      have HLO := hid (stp HY.out.low hb1)
      have HRE := hid (HY.out.res.kept hb1)
      clear hb1
      try go_wp2_with fail
      refine hK.out _ _ trivial (fun _ => ?_)
      clear hK K HY
      try simp only [Act.put, List.setIfInBounds_toArray, List.set_cons_zero, List.set_cons_succ]
      refine wpAnyH_take (i := 7) (oi := { dst := some 8, op := _, type := _, pos := _, after := _, guard := none }) (v := ?_) rfl (by kernel_rfl) (by kernel_rfl) (by kernel_rfl) (fun _ _ _ h => h) (Or.inl ⟨by rfl, ?_⟩) trivial ?_
      rotate_left 1
      focus (intro w hSw; (try dsimp only at hSw); go_simp; try (with_reducible rfl))
      simp only [Act.put, List.setIfInBounds_toArray, List.set_cons_zero, List.set_cons_succ]
      refine wpAnyH_take (i := 8) (oi := { dst := some 16, op := _, type := _, pos := _, after := _, guard := none }) (v := ?_) rfl (by kernel_rfl) (by kernel_rfl) (by kernel_rfl) (fun _ _ _ h => h) (Or.inl ⟨by rfl, ?_⟩) trivial ?_
      rotate_left 1
      focus (intro w hSw; (try dsimp only at hSw); go_simp; try (with_reducible rfl))
      simp only [Act.put, List.setIfInBounds_toArray, List.set_cons_zero, List.set_cons_succ]
      refine wpAnyH_take (i := 9) (oi := { dst := some 17, op := _, type := _, pos := _, after := _, guard := none }) (v := ?_) rfl (by kernel_rfl) (by kernel_rfl) (by kernel_rfl) (fun _ _ _ h => h) (Or.inl ⟨by rfl, ?_⟩) trivial ?_
      rotate_left 1
      focus (intro w hSw; (try dsimp only at hSw); go_simp; try (with_reducible rfl))
      simp only [Act.put, List.setIfInBounds_toArray, List.set_cons_zero, List.set_cons_succ]
      refine wpAnyH_take (i := 10) (oi := { dst := some 6, op := _, type := _, pos := _, after := _, guard := none }) (v := ?_) rfl (by kernel_rfl) (by kernel_rfl) (by kernel_rfl) (fun _ _ _ h => h) (Or.inl ⟨by rfl, ?_⟩) trivial ?_
      rotate_left 1
      focus (intro w hSw; (try dsimp only at hSw); go_simp; try (with_reducible rfl))
      simp only [Act.put, List.setIfInBounds_toArray, List.set_cons_zero, List.set_cons_succ]
      refine wpAnyH_take (i := 11) (oi := { dst := some 7, op := _, type := _, pos := _, after := _, guard := none }) (v := ?_) rfl (by kernel_rfl) (by kernel_rfl) (by kernel_rfl) (fun _ _ _ h => h) (Or.inl ⟨by rfl, ?_⟩) trivial ?_
      rotate_left 1
      focus (intro w hSw; (try dsimp only at hSw); go_simp; try (with_reducible rfl))
      simp only [Act.put, List.setIfInBounds_toArray, List.set_cons_zero, List.set_cons_succ]
      refine wpAnyH_done (by kernel_rfl) ?_ _
      refine Pl.cutE (fun X => Below w.heap.size w X ∧ Bx X w.heap.size (machL zeroM nilS)) ⟨HLO.out, HRE.out⟩ ?_
      rintro X ⟨hX1, hX2⟩
      have HX1 := hid hX1
      have HX2 := hid hX2
      clear hX1 hX2 HLO HRE
      go_wp2_with (refine wpList_store_mid rfl 41 _ _ rfl w.heap.size 0 (machL zeroM nilS).toArray rfl rfl (HX2.out.there 0 75 (by rw [machL_len]; omega)) info_mach (machL_one _ _ zero_sl) ?_; refine Pl.cutL (fun V => Below w.heap.size w V ∧ Bx V w.heap.size (machL zeroM nilS)) ⟨Bl.puts HX1.out (Nat.le_refl _) _, zero_again HX2.out⟩ ?_; rintro V ⟨hV1, hV2⟩; have HV1 := hid hV1; have HV2 := hid hV2; clear hV1 hV2)
      have hl := load_mach _ _ HV2.out.c
      refine bodyPost_ret (v := .tuple #[.agg (machL zeroM nilS).toArray, .int .i64 2]) ?_ rfl ⟨rfl, HV1.out⟩
      simp only [results, Try.results8]
      simp
      show (Result.andThen (Sem.run Try.prog (loadVar 41 ⟨w.heap.size, 0, none⟩) V) _) = _
      rw [hl]
      rfl
  · refine wpAnyH_ready (rs := [2, 3]) (by kernel_rfl) (by simp) ?_
    refine consH_make (op := { dst := some 11, op := _, type := _, pos := _, after := _, guard := none }) rfl rfl 22 _ _ rfl (.int .i64 128) (.int .i64 128) _ rfl rfl (mk128 _ (w.heap.size + 1 + 1) (by simp)) trivial ?_ (consH_make (op := { dst := some 12, op := _, type := _, pos := _, after := _, guard := none }) rfl rfl 22 _ _ rfl (.int .i64 64) (.int .i64 64) _ rfl rfl (mk64 _ (w.heap.size + 1 + 1) (by simp)) trivial ?_ AllReadyH.nil)
    all_goals simp only [Act.put, List.setIfInBounds_toArray, List.set_cons_zero, List.set_cons_succ]
    · refine wpAnyH_ready (rs := [3]) (by kernel_rfl) (by simp) ?_
      refine consH_make (op := { dst := some 12, op := _, type := _, pos := _, after := _, guard := none }) rfl rfl 22 _ _ rfl (.int .i64 64) (.int .i64 64) _ rfl rfl (mk64 _ (w.heap.size + 1 + 1 + 1) (by simp)) trivial ?_ AllReadyH.nil
      simp only [Act.put, List.setIfInBounds_toArray, List.set_cons_zero, List.set_cons_succ]
      refine cutH (NF w l1 l2 ⟨.slice a1 l1.length c1, .slice a2 l2.length c2, .slice (some ⟨_, 0, none⟩) 128 128, .slice (some ⟨_, 0, none⟩) 64 64, .slice (some ⟨_, 0, none⟩) 256 256⟩) (NF.of (b1 := w.heap.size + 1 + 1) (b2 := w.heap.size + 1 + 1 + 1) (b3 := w.heap.size + 1) H1.out H2.out ?_ ?_ ?_ ?_ ?_) ?_
      · repeat' (first | exact st0 _ | refine Below.drew ?_ | refine stA ?_ _)
      · repeat' (first | exact HR.out | refine Bx.drew ?_ | refine Bx.over ?_ _)
      · repeat' (first | exact Bx.new _ (List.replicate 128 (.int .u8 0)) _ (by simp) | refine Bx.drew ?_ | refine Bx.over ?_ _)
      · repeat' (first | exact Bx.new _ (List.replicate 64 (.int .u8 0)) _ (by simp) | refine Bx.drew ?_ | refine Bx.over ?_ _)
      · repeat' (first | exact Bx.new _ (List.replicate 256 (.int .u8 0)) _ (by simp) | refine Bx.drew ?_ | refine Bx.over ?_ _)
      intro Y hY
      have HY := hid hY
      clear hY
      refine wpAnyH_take (i := 5) (oi := { dst := some 14, op := _, type := _, pos := _, after := _, guard := none }) (v := .agg (machL (newM l1 l2) ⟨.slice a1 l1.length c1, .slice a2 l2.length c2, .slice (some ⟨w.heap.size + 1 + 1, 0, none⟩) 128 128, .slice (some ⟨w.heap.size + 1 + 1 + 1, 0, none⟩) 64 64, .slice (some ⟨w.heap.size + 1, 0, none⟩) 256 256⟩).toArray) rfl (by kernel_rfl) (by kernel_rfl) (by kernel_rfl) (fun _ _ _ h => h) (Or.inl ⟨by rfl, fun w' _ => exec_build6 41 2 3 4 5 6 14 _ _ _ _ _ _ rfl _ _ _ _ _ _ _ rfl rfl rfl rfl rfl rfl (run_new a1 a2 l1.length c1 l2.length c2 (w.heap.size + 1 + 1) (w.heap.size + 1 + 1 + 1) (w.heap.size + 1) l1 l2 w')⟩) trivial ?_
      simp only [Act.put, List.setIfInBounds_toArray, List.set_cons_zero, List.set_cons_succ]
      refine wpAnyH_ready (rs := [6]) (by kernel_rfl) (by simp) ?_
      refine AllReadyH.cons (o := { dst := some 15, op := _, type := _, pos := _, after := _, guard := none }) rfl (fun K hK => ?_) AllReadyH.nil
      go_simp
      go_at_call 21
      refine (Bu.open_bad (newM l1 l2) _ _ HY.out.sl.lens HZ.out (by rw [HCK.out]; decide)).mono ?_
      rw [HCK.out]
      rintro e w1 ⟨rfl, hb1⟩
      have HLO := hid (stp HY.out.low hb1)
      have HRE := hid (HY.out.res.kept hb1)
      clear hb1
      try go_wp2_with fail
      refine hK.out _ _ trivial (fun _ => ?_)
      clear hK K HY
      try simp only [Act.put, List.setIfInBounds_toArray, List.set_cons_zero, List.set_cons_succ]
      refine wpAnyH_take (i := 7) (oi := { dst := some 8, op := _, type := _, pos := _, after := _, guard := none }) (v := ?_) rfl (by kernel_rfl) (by kernel_rfl) (by kernel_rfl) (fun _ _ _ h => h) (Or.inl ⟨by rfl, ?_⟩) trivial ?_
      rotate_left 1
      focus (intro w hSw; (try dsimp only at hSw); go_simp; try (with_reducible rfl))
      simp only [Act.put, List.setIfInBounds_toArray, List.set_cons_zero, List.set_cons_succ]
      refine wpAnyH_take (i := 8) (oi := { dst := some 16, op := _, type := _, pos := _, after := _, guard := none }) (v := ?_) rfl (by kernel_rfl) (by kernel_rfl) (by kernel_rfl) (fun _ _ _ h => h) (Or.inl ⟨by rfl, ?_⟩) trivial ?_
      rotate_left 1
      focus (intro w hSw; (try dsimp only at hSw); go_simp; try (with_reducible rfl))
      simp only [Act.put, List.setIfInBounds_toArray, List.set_cons_zero, List.set_cons_succ]
      refine wpAnyH_take (i := 9) (oi := { dst := some 17, op := _, type := _, pos := _, after := _, guard := none }) (v := ?_) rfl (by kernel_rfl) (by kernel_rfl) (by kernel_rfl) (fun _ _ _ h => h) (Or.inl ⟨by rfl, ?_⟩) trivial ?_
      rotate_left 1
      focus (intro w hSw; (try dsimp only at hSw); go_simp; try (with_reducible rfl))
      simp only [Act.put, List.setIfInBounds_toArray, List.set_cons_zero, List.set_cons_succ]
      refine wpAnyH_take (i := 10) (oi := { dst := some 6, op := _, type := _, pos := _, after := _, guard := none }) (v := ?_) rfl (by kernel_rfl) (by kernel_rfl) (by kernel_rfl) (fun _ _ _ h => h) (Or.inl ⟨by rfl, ?_⟩) trivial ?_
      rotate_left 1
      focus (intro w hSw; (try dsimp only at hSw); go_simp; try (with_reducible rfl))
      simp only [Act.put, List.setIfInBounds_toArray, List.set_cons_zero, List.set_cons_succ]
      refine wpAnyH_take (i := 11) (oi := { dst := some 7, op := _, type := _, pos := _, after := _, guard := none }) (v := ?_) rfl (by kernel_rfl) (by kernel_rfl) (by kernel_rfl) (fun _ _ _ h => h) (Or.inl ⟨by rfl, ?_⟩) trivial ?_
      rotate_left 1
      focus (intro w hSw; (try dsimp only at hSw); go_simp; try (with_reducible rfl))
      simp only [Act.put, List.setIfInBounds_toArray, List.set_cons_zero, List.set_cons_succ]
      refine wpAnyH_done (by kernel_rfl) ?_ _
      refine Pl.cutE (fun X => Below w.heap.size w X ∧ Bx X w.heap.size (machL zeroM nilS)) ⟨HLO.out, HRE.out⟩ ?_
      rintro X ⟨hX1, hX2⟩
      have HX1 := hid hX1
      have HX2 := hid hX2
      clear hX1 hX2 HLO HRE
      go_wp2_with (refine wpList_store_mid rfl 41 _ _ rfl w.heap.size 0 (machL zeroM nilS).toArray rfl rfl (HX2.out.there 0 75 (by rw [machL_len]; omega)) info_mach (machL_one _ _ zero_sl) ?_; refine Pl.cutL (fun V => Below w.heap.size w V ∧ Bx V w.heap.size (machL zeroM nilS)) ⟨Bl.puts HX1.out (Nat.le_refl _) _, zero_again HX2.out⟩ ?_; rintro V ⟨hV1, hV2⟩; have HV1 := hid hV1; have HV2 := hid hV2; clear hV1 hV2)
      have hl := load_mach _ _ HV2.out.c
      refine bodyPost_ret (v := .tuple #[.agg (machL zeroM nilS).toArray, .int .i64 2]) ?_ rfl ⟨rfl, HV1.out⟩
      simp only [results, Try.results8]
      simp
      show (Result.andThen (Sem.run Try.prog (loadVar 41 ⟨w.heap.size, 0, none⟩) V) _) = _
      rw [hl]
      rfl
    · refine wpAnyH_ready (rs := [2]) (by kernel_rfl) (by simp) ?_
      refine consH_make (op := { dst := some 11, op := _, type := _, pos := _, after := _, guard := none }) rfl rfl 22 _ _ rfl (.int .i64 128) (.int .i64 128) _ rfl rfl (mk128 _ (w.heap.size + 1 + 1 + 1) (by simp)) trivial ?_ AllReadyH.nil
      simp only [Act.put, List.setIfInBounds_toArray, List.set_cons_zero, List.set_cons_succ]
      refine cutH (NF w l1 l2 ⟨.slice a1 l1.length c1, .slice a2 l2.length c2, .slice (some ⟨_, 0, none⟩) 128 128, .slice (some ⟨_, 0, none⟩) 64 64, .slice (some ⟨_, 0, none⟩) 256 256⟩) (NF.of (b1 := w.heap.size + 1 + 1 + 1) (b2 := w.heap.size + 1 + 1) (b3 := w.heap.size + 1) H1.out H2.out ?_ ?_ ?_ ?_ ?_) ?_
      · repeat' (first | exact st0 _ | refine Below.drew ?_ | refine stA ?_ _)
      · repeat' (first | exact HR.out | refine Bx.drew ?_ | refine Bx.over ?_ _)
      · repeat' (first | exact Bx.new _ (List.replicate 128 (.int .u8 0)) _ (by simp) | refine Bx.drew ?_ | refine Bx.over ?_ _)
      · repeat' (first | exact Bx.new _ (List.replicate 64 (.int .u8 0)) _ (by simp) | refine Bx.drew ?_ | refine Bx.over ?_ _)
      · repeat' (first | exact Bx.new _ (List.replicate 256 (.int .u8 0)) _ (by simp) | refine Bx.drew ?_ | refine Bx.over ?_ _)
      intro Y hY
      have HY := hid hY
      clear hY
      refine wpAnyH_take (i := 5) (oi := { dst := some 14, op := _, type := _, pos := _, after := _, guard := none }) (v := .agg (machL (newM l1 l2) ⟨.slice a1 l1.length c1, .slice a2 l2.length c2, .slice (some ⟨w.heap.size + 1 + 1 + 1, 0, none⟩) 128 128, .slice (some ⟨w.heap.size + 1 + 1, 0, none⟩) 64 64, .slice (some ⟨w.heap.size + 1, 0, none⟩) 256 256⟩).toArray) rfl (by kernel_rfl) (by kernel_rfl) (by kernel_rfl) (fun _ _ _ h => h) (Or.inl ⟨by rfl, fun w' _ => exec_build6 41 2 3 4 5 6 14 _ _ _ _ _ _ rfl _ _ _ _ _ _ _ rfl rfl rfl rfl rfl rfl (run_new a1 a2 l1.length c1 l2.length c2 (w.heap.size + 1 + 1 + 1) (w.heap.size + 1 + 1) (w.heap.size + 1) l1 l2 w')⟩) trivial ?_
      simp only [Act.put, List.setIfInBounds_toArray, List.set_cons_zero, List.set_cons_succ]
      refine wpAnyH_ready (rs := [6]) (by kernel_rfl) (by simp) ?_
      refine AllReadyH.cons (o := { dst := some 15, op := _, type := _, pos := _, after := _, guard := none }) rfl (fun K hK => ?_) AllReadyH.nil
      go_simp
      go_at_call 21
      refine (Bu.open_bad (newM l1 l2) _ _ HY.out.sl.lens HZ.out (by rw [HCK.out]; decide)).mono ?_
      rw [HCK.out]
      rintro e w1 ⟨rfl, hb1⟩
      have HLO := hid (stp HY.out.low hb1)
      have HRE := hid (HY.out.res.kept hb1)
      clear hb1
      try go_wp2_with fail
      refine hK.out _ _ trivial (fun _ => ?_)
      clear hK K HY
      try simp only [Act.put, List.setIfInBounds_toArray, List.set_cons_zero, List.set_cons_succ]
      refine wpAnyH_take (i := 7) (oi := { dst := some 8, op := _, type := _, pos := _, after := _, guard := none }) (v := ?_) rfl (by kernel_rfl) (by kernel_rfl) (by kernel_rfl) (fun _ _ _ h => h) (Or.inl ⟨by rfl, ?_⟩) trivial ?_
      rotate_left 1
      focus (intro w hSw; (try dsimp only at hSw); go_simp; try (with_reducible rfl))
      simp only [Act.put, List.setIfInBounds_toArray, List.set_cons_zero, List.set_cons_succ]
      refine wpAnyH_take (i := 8) (oi := { dst := some 16, op := _, type := _, pos := _, after := _, guard := none }) (v := ?_) rfl (by kernel_rfl) (by kernel_rfl) (by kernel_rfl) (fun _ _ _ h => h) (Or.inl ⟨by rfl, ?_⟩) trivial ?_
      rotate_left 1
      focus (intro w hSw; (try dsimp only at hSw); go_simp; try (with_reducible rfl))
      simp only [Act.put, List.setIfInBounds_toArray, List.set_cons_zero, List.set_cons_succ]
      refine wpAnyH_take (i := 9) (oi := { dst := some 17, op := _, type := _, pos := _, after := _, guard := none }) (v := ?_) rfl (by kernel_rfl) (by kernel_rfl) (by kernel_rfl) (fun _ _ _ h => h) (Or.inl ⟨by rfl, ?_⟩) trivial ?_
      rotate_left 1
      focus (intro w hSw; (try dsimp only at hSw); go_simp; try (with_reducible rfl))
      simp only [Act.put, List.setIfInBounds_toArray, List.set_cons_zero, List.set_cons_succ]
      refine wpAnyH_take (i := 10) (oi := { dst := some 6, op := _, type := _, pos := _, after := _, guard := none }) (v := ?_) rfl (by kernel_rfl) (by kernel_rfl) (by kernel_rfl) (fun _ _ _ h => h) (Or.inl ⟨by rfl, ?_⟩) trivial ?_
      rotate_left 1
      focus (intro w hSw; (try dsimp only at hSw); go_simp; try (with_reducible rfl))
      simp only [Act.put, List.setIfInBounds_toArray, List.set_cons_zero, List.set_cons_succ]
      refine wpAnyH_take (i := 11) (oi := { dst := some 7, op := _, type := _, pos := _, after := _, guard := none }) (v := ?_) rfl (by kernel_rfl) (by kernel_rfl) (by kernel_rfl) (fun _ _ _ h => h) (Or.inl ⟨by rfl, ?_⟩) trivial ?_
      rotate_left 1
      focus (intro w hSw; (try dsimp only at hSw); go_simp; try (with_reducible rfl))
      simp only [Act.put, List.setIfInBounds_toArray, List.set_cons_zero, List.set_cons_succ]
      refine wpAnyH_done (by kernel_rfl) ?_ _
      refine Pl.cutE (fun X => Below w.heap.size w X ∧ Bx X w.heap.size (machL zeroM nilS)) ⟨HLO.out, HRE.out⟩ ?_
      rintro X ⟨hX1, hX2⟩
      have HX1 := hid hX1
      have HX2 := hid hX2
      clear hX1 hX2 HLO HRE
      go_wp2_with (refine wpList_store_mid rfl 41 _ _ rfl w.heap.size 0 (machL zeroM nilS).toArray rfl rfl (HX2.out.there 0 75 (by rw [machL_len]; omega)) info_mach (machL_one _ _ zero_sl) ?_; refine Pl.cutL (fun V => Below w.heap.size w V ∧ Bx V w.heap.size (machL zeroM nilS)) ⟨Bl.puts HX1.out (Nat.le_refl _) _, zero_again HX2.out⟩ ?_; rintro V ⟨hV1, hV2⟩; have HV1 := hid hV1; have HV2 := hid hV2; clear hV1 hV2)
      have hl := load_mach _ _ HV2.out.c
      refine bodyPost_ret (v := .tuple #[.agg (machL zeroM nilS).toArray, .int .i64 2]) ?_ rfl ⟨rfl, HV1.out⟩
      simp only [results, Try.results8]
      simp
      show (Result.andThen (Sem.run Try.prog (loadVar 41 ⟨w.heap.size, 0, none⟩) V) _) = _
      rw [hl]
      rfl
/-- Where a game and its machine's bytes lie; nothing below B is touched. -/
structure Gx where
  B : Nat
  g : Nat
  mr : Nat
  ar : Nat
  ra : Nat
  ow : Nat
  vi : Nat
  S : Sl
def Gx.T (F : Gx) (x : Nat) : Prop := x = F.g ∨ x = F.ra ∨ x = F.ow ∨ x = F.vi
/-- A game's 77 cells. -/
def Gx.cells (F : Gx) (M : Mach) (tk : Tk) : List Value := machL M F.S ++ [tk.v, .int .i64 tk.n]
theorem Gx.len (F : Gx) (M : Mach) (tk : Tk) : (F.cells M tk).length = 77 := rfl
structure Gx.nd (F : Gx) : Prop where
  lo : F.B ≤ F.g ∧ F.B ≤ F.ra ∧ F.B ≤ F.ow ∧ F.B ≤ F.vi
  d : F.g ≠ F.ra ∧ F.g ≠ F.ow ∧ F.g ≠ F.vi ∧ F.ra ≠ F.ow ∧ F.ra ≠ F.vi ∧ F.ow ≠ F.vi
/-- The programs' bytes, if there are any, lie outside T. -/
def Gx.apart (F : Gx) (M : Mach) (T : Nat → Prop) : Prop := (0 < M.mrom.length → ∀ k, F.S.mr.ownBlock = some k → ¬ T k) ∧ (0 < M.arom.length → ∀ k, F.S.ar.ownBlock = some k → ¬ T k)
theorem Gx.apart_of {F : Gx} {M M' : Mach} {T : Nat → Prop} (h : F.apart M T) (h1 : M'.mrom = M.mrom) (h2 : M'.arom = M.arom) : F.apart M' T := by unfold Gx.apart; rw [h1, h2]; exact h
/-- A game lies in memory. -/
structure Gd (F : Gx) (W : World) (M : Mach) (tk : Tk) : Prop where
  bx : Bx W F.g (F.cells M tk)
  mr : sliceAt W F.S.mr M.mrom
  ar : sliceAt W F.S.ar M.arom
  ra : Rw W F.S.ra F.ra M.ram
  ow : Rw W F.S.ow F.ow M.own
  vi : Rw W F.S.vi F.vi M.video
  nd : F.nd
  fit : M.fit
  big : F.B ≤ W.heap.size
  ws : W.ownsRow F.B 105 3 tk.v tk.l.length (wcs tk.l)
  rd : F.apart M F.T
  wd : ∀ k, tk.v.ownBlock = some k → ¬ F.T k ∧ F.apart M (fun j => j = k)
theorem sliceAt.lt {W : World} {v : Value} {l : List UInt8} (h : sliceAt W v l) (hl : 0 < l.length) : ∀ j, v.ownBlock = some j → j < W.heap.size := fun j e => by
  rcases h with ⟨a, c, h1, h2⟩ | ⟨g, o, cap, h1, h2, h3, h4⟩
  · rw [h2] at hl; simp at hl
  · rw [h1] at e; cases e; exact h3
theorem sliceAt.same {W w1 : World} {v : Value} {l : List UInt8} (h : sliceAt W v l) (hz : W.heap.size ≤ w1.heap.size) (e : 0 < l.length → ∀ k, v.ownBlock = some k → k < W.heap.size → w1.heap[k]? = W.heap[k]?) : sliceAt w1 v l := by
  rcases h with h | ⟨g, o, cap, h1, h2, h3, h4⟩
  · exact Or.inl h
  · exact Or.inr ⟨g, o, cap, h1, h2, Nat.lt_of_lt_of_le h3 hz, fun j c hj => (World.cell?_of_block (w := W) (e (Nat.lt_of_le_of_lt (Nat.zero_le _) (List.getElem?_eq_some_iff.1 hj).1) g (by rw [h1]; rfl) h3)).trans (h4 j c hj)⟩
section
variable {F : Gx} {W w0 w1 : World} {M M' : Mach} {tk tk' : Tk}
theorem Gd.kept (h : Gd F W M tk) (hb : Below W.heap.size W w1) : Gd F w1 M tk :=
  ⟨h.bx.kept hb, h.mr.same hb.size (fun _ k _ hk => hb.block _ hk), h.ar.same hb.size (fun _ k _ hk => hb.block _ hk), h.ra.same hb.size (fun hk => hb.block _ hk), h.ow.same hb.size (fun hk => hb.block _ hk), h.vi.same hb.size (fun hk => hb.block _ hk),
    h.nd, h.fit, Nat.le_trans h.big hb.size, ows_of h.ws (fun k hk => hb.block k (h.ws.lt k hk).2), h.rd, h.wd⟩
theorem Gd.over (h : Gd F W M tk) (o : Obj) : Gd F (W.alloc o) M tk := h.kept (stA (st0 W) o)
theorem Gd.drew (h : Gd F W M tk) : Gd F W.drew M tk := h.kept (st0 W).drew
theorem Gd.at (h : Gd F W M tk) (i : Nat) (v : Value) (e : (F.cells M tk)[i]? = some v) : W.cell? ⟨F.g, i, none⟩ = some v := h.bx.at i v e
/-- A cell of the game is written. -/
theorem Gd.put (h : Gd F W M tk) (i : Nat) (v : Value) (hi : i < 77) (hc : (F.cells M tk).set i v = F.cells M' tk') (hm : M'.mrom = M.mrom ∧ M'.arom = M.arom ∧ M'.ram = M.ram ∧ M'.own = M.own ∧ M'.video = M.video) (hf : M'.fit) (hk : tk'.v = tk.v ∧ tk'.l = tk.l := by exact ⟨rfl, rfl⟩) : Gd F (W.setCell ⟨F.g, i, none⟩ v) M' tk' := by
  obtain ⟨m1, m2, m3, m4, m5⟩ := hm
  obtain ⟨d1, d2, d3, _⟩ := h.nd.d
  have hz : W.heap.size ≤ (W.setCell ⟨F.g, i, none⟩ v).heap.size := by rw [size_set]; exact Nat.le_refl _
  refine ⟨hc ▸ h.bx.set i v (by rw [F.len]; exact hi), ?_, ?_, ?_, ?_, ?_, h.nd, hf, by rw [size_set]; exact h.big, by rw [hk.1, hk.2]; exact ows_of h.ws (fun k hk => heap_set_far (fun e => (h.wd k hk).1 (Or.inl e))), Gx.apart_of h.rd m1 m2, by rw [hk.1]; exact fun k e => ⟨(h.wd k e).1, Gx.apart_of (h.wd k e).2 m1 m2⟩⟩
  · rw [m1]; exact h.mr.same hz (fun hp k hk _ => heap_set_far (fun e => h.rd.1 (by omega) k hk (Or.inl e)))
  · rw [m2]; exact h.ar.same hz (fun hp k hk _ => heap_set_far (fun e => h.rd.2 (by omega) k hk (Or.inl e)))
  · rw [m3]; exact h.ra.same hz (fun _ => heap_set_far (Ne.symm d1))
  · rw [m4]; exact h.ow.same hz (fun _ => heap_set_far (Ne.symm d2))
  · rw [m5]; exact h.vi.same hz (fun _ => heap_set_far (Ne.symm d3))
/-- Cells of the game are written. -/
theorem Gd.puts (h : Gd F W M tk) (i : Nat) (vs : List Value) (hi : i + vs.length ≤ 77) (hc : putL (F.cells M tk) i vs = F.cells M' tk') (hm : M'.mrom = M.mrom ∧ M'.arom = M.arom ∧ M'.ram = M.ram ∧ M'.own = M.own ∧ M'.video = M.video) (hf : M'.fit) (hk : tk'.v = tk.v ∧ tk'.l = tk.l := by exact ⟨rfl, rfl⟩) : Gd F (W.setCells F.g i vs) M' tk' := by
  obtain ⟨m1, m2, m3, m4, m5⟩ := hm
  obtain ⟨d1, d2, d3, _⟩ := h.nd.d
  have hz : W.heap.size ≤ (W.setCells F.g i vs).heap.size := Nat.le_of_eq (size_sets _ _ _ _).symm
  refine ⟨hc ▸ h.bx.puts i vs (by rw [F.len]; exact hi), ?_, ?_, ?_, ?_, ?_, h.nd, hf, Nat.le_trans h.big hz, by rw [hk.1, hk.2]; exact ows_of h.ws (fun k hk => heap_sets_far (fun e => (h.wd k hk).1 (Or.inl e)) _ _ _), Gx.apart_of h.rd m1 m2, by rw [hk.1]; exact fun k e => ⟨(h.wd k e).1, Gx.apart_of (h.wd k e).2 m1 m2⟩⟩
  · rw [m1]; exact h.mr.same hz (fun hp k hk _ => heap_sets_far (fun e => h.rd.1 (by omega) k hk (Or.inl e)) _ _ _)
  · rw [m2]; exact h.ar.same hz (fun hp k hk _ => heap_sets_far (fun e => h.rd.2 (by omega) k hk (Or.inl e)) _ _ _)
  · rw [m3]; exact h.ra.same hz (fun _ => heap_sets_far (Ne.symm d1) _ _ _)
  · rw [m4]; exact h.ow.same hz (fun _ => heap_sets_far (Ne.symm d2) _ _ _)
  · rw [m5]; exact h.vi.same hz (fun _ => heap_sets_far (Ne.symm d3) _ _ _)
theorem Gd.far (h : Gd F W M tk) {b o : Nat} {v : Value} (hg : b ≠ F.g) (hT : F.T b) : Bx (W.setCell ⟨b, o, none⟩ v) F.g (F.cells M tk) ∧ sliceAt (W.setCell ⟨b, o, none⟩ v) F.S.mr M.mrom ∧ sliceAt (W.setCell ⟨b, o, none⟩ v) F.S.ar M.arom ∧
    F.B ≤ (W.setCell ⟨b, o, none⟩ v).heap.size ∧ (W.setCell ⟨b, o, none⟩ v).ownsRow F.B 105 3 tk.v tk.l.length (wcs tk.l) :=
  ⟨h.bx.far hg v, h.mr.same (by rw [size_set]; exact Nat.le_refl _) (fun hp k hk _ => heap_set_far (fun e => h.rd.1 hp k hk (by rw [e]; exact hT))), h.ar.same (by rw [size_set]; exact Nat.le_refl _) (fun hp k hk _ => heap_set_far (fun e => h.rd.2 hp k hk (by rw [e]; exact hT))), by rw [size_set]; exact h.big, ows_of h.ws (fun k hk => heap_set_far (fun e => (h.wd k hk).1 (by rw [e]; exact hT)))⟩
/-- A byte of a memory is written. -/
theorem Gd.putRam (h : Gd F W M tk) (i x : Int) (h0 : 0 ≤ i) (hi : i < 128) (hx : 0 ≤ x ∧ x ≤ 255) : Gd F (W.setCell ⟨F.ra, i.toNat, none⟩ (.int .u8 x)) { M with ram := bput M.ram i x } tk := by
  obtain ⟨d1, d2, d3, d4, d5, d6⟩ := h.nd.d
  obtain ⟨a1, a2, a3, a5, a6⟩ := h.far (b := F.ra) (o := i.toNat) (v := .int .u8 x) (Ne.symm d1) (Or.inr (Or.inl rfl))
  exact ⟨a1, a2, a3, h.ra.put i x h0 (by rw [h.fit.ram]; exact hi) hx, h.ow.same (by rw [size_set]; exact Nat.le_refl _) (fun _ => heap_set_far (Ne.symm d4)), h.vi.same (by rw [size_set]; exact Nat.le_refl _) (fun _ => heap_set_far (Ne.symm d5)), h.nd,
    { h.fit with ram := by rw [bput_len]; exact h.fit.ram, main := h.fit.main, aux := h.fit.aux, p0 := h.fit.p0, p1 := h.fit.p1, tr := h.fit.tr, tc := h.fit.tc, s := h.fit.s, fr := h.fit.fr, «to» := h.fit.to, m0 := h.fit.m0, m1 := h.fit.m1 }, a5, a6, Gx.apart_of h.rd rfl rfl, fun k e => ⟨(h.wd k e).1, Gx.apart_of (h.wd k e).2 rfl rfl⟩⟩
theorem Gd.putOwn (h : Gd F W M tk) (i x : Int) (h0 : 0 ≤ i) (hi : i < 64) (hx : 0 ≤ x ∧ x ≤ 255) : Gd F (W.setCell ⟨F.ow, i.toNat, none⟩ (.int .u8 x)) { M with own := bput M.own i x } tk := by
  obtain ⟨d1, d2, d3, d4, d5, d6⟩ := h.nd.d
  obtain ⟨a1, a2, a3, a5, a6⟩ := h.far (b := F.ow) (o := i.toNat) (v := .int .u8 x) (Ne.symm d2) (Or.inr (Or.inr (Or.inl rfl)))
  exact ⟨a1, a2, a3, h.ra.same (by rw [size_set]; exact Nat.le_refl _) (fun _ => heap_set_far d4), h.ow.put i x h0 (by rw [h.fit.own]; exact hi) hx, h.vi.same (by rw [size_set]; exact Nat.le_refl _) (fun _ => heap_set_far (Ne.symm d6)), h.nd,
    { h.fit with own := by rw [bput_len]; exact h.fit.own, main := h.fit.main, aux := h.fit.aux, p0 := h.fit.p0, p1 := h.fit.p1, tr := h.fit.tr, tc := h.fit.tc, s := h.fit.s, fr := h.fit.fr, «to» := h.fit.to, m0 := h.fit.m0, m1 := h.fit.m1 }, a5, a6, Gx.apart_of h.rd rfl rfl, fun k e => ⟨(h.wd k e).1, Gx.apart_of (h.wd k e).2 rfl rfl⟩⟩
theorem Gd.putVideo (h : Gd F W M tk) (i x : Int) (h0 : 0 ≤ i) (hi : i < 256) (hx : 0 ≤ x ∧ x ≤ 255) : Gd F (W.setCell ⟨F.vi, i.toNat, none⟩ (.int .u8 x)) { M with video := bput M.video i x } tk := by
  obtain ⟨d1, d2, d3, d4, d5, d6⟩ := h.nd.d
  obtain ⟨a1, a2, a3, a5, a6⟩ := h.far (b := F.vi) (o := i.toNat) (v := .int .u8 x) (Ne.symm d3) (Or.inr (Or.inr (Or.inr rfl)))
  exact ⟨a1, a2, a3, h.ra.same (by rw [size_set]; exact Nat.le_refl _) (fun _ => heap_set_far d5), h.ow.same (by rw [size_set]; exact Nat.le_refl _) (fun _ => heap_set_far d6), h.vi.put i x h0 (by rw [h.fit.video]; exact hi) hx, h.nd,
    { h.fit with video := by rw [bput_len]; exact h.fit.video, main := h.fit.main, aux := h.fit.aux, p0 := h.fit.p0, p1 := h.fit.p1, tr := h.fit.tr, tc := h.fit.tc, s := h.fit.s, fr := h.fit.fr, «to» := h.fit.to, m0 := h.fit.m0, m1 := h.fit.m1 }, a5, a6, Gx.apart_of h.rd rfl rfl, fun k e => ⟨(h.wd k e).1, Gx.apart_of (h.wd k e).2 rfl rfl⟩⟩
/-- From W on nothing was touched but the game and its machine's memories. -/
abbrev Gt (F : Gx) (W w1 : World) : Prop := Mv F.B F.T F.T W w1
theorem Gt.kept (h : Gt F W w0) (hz : F.B ≤ w0.heap.size) (hb : Below w0.heap.size w0 w1) : Gt F W w1 := Mv.trans h (Mv.of_below hz hb)
theorem Gt.set (hn : F.nd) (h : Gt F W w0) (i : Nat) (v : Value) : Gt F W (w0.setCell ⟨F.g, i, none⟩ v) := Mv.setCell h hn.lo.1 (Or.inl (Or.inl rfl)) v
theorem Gt.setR (hn : F.nd) (h : Gt F W w0) (i : Nat) (v : Value) : Gt F W (w0.setCell ⟨F.ra, i, none⟩ v) := Mv.setCell h hn.lo.2.1 (Or.inl (Or.inr (Or.inl rfl))) v
theorem Gt.setO (hn : F.nd) (h : Gt F W w0) (i : Nat) (v : Value) : Gt F W (w0.setCell ⟨F.ow, i, none⟩ v) := Mv.setCell h hn.lo.2.2.1 (Or.inl (Or.inr (Or.inr (Or.inl rfl)))) v
theorem Gt.setV (hn : F.nd) (h : Gt F W w0) (i : Nat) (v : Value) : Gt F W (w0.setCell ⟨F.vi, i, none⟩ v) := Mv.setCell h hn.lo.2.2.2 (Or.inl (Or.inr (Or.inr (Or.inr rfl)))) v
theorem Gt.sets (hn : F.nd) : ∀ (vs : List Value) (i : Nat) (w0 : World), Gt F W w0 → Gt F W (w0.setCells F.g i vs)
  | [], i, w0, h => h
  | v :: vs, i, w0, h => Gt.sets hn vs (i + 1) _ (Gt.set hn h i v)
theorem Gt.refl (F : Gx) (W : World) : Gt F W W := Mv.refl _ _ _
theorem Gt.under (h : Gd F W M tk) {w0 : World} (hb : Below W.heap.size W w0) : Gt F W w0 := Mv.of_below h.big hb
/-- The game, its machine's memories, and what was written to the sound. -/
def Gx.Tw (F : Gx) (W : World) (k : Nat) : Prop := F.T k ∨ ∃ cs fr, W.heap[k]? = some (.cells cs 105 fr)
theorem GTw_same {k : Nat} (e : w1.heap[k]? = W.heap[k]?) (h : F.Tw w1 k) : F.Tw W k := h.imp id (fun ⟨cs, fr, x⟩ => ⟨cs, fr, e ▸ x⟩)
/-- From W on nothing was touched but these. -/
def Gw (F : Gx) (W w1 : World) : Prop := Mv F.B (F.Tw W) (F.Tw w1) W w1
theorem Gt.w (h : Gt F W w1) : Gw F W w1 := ⟨h.below, fun k hk ht => h.block k hk (fun x => ht (Or.inl x)), fun k ht => by
  rcases Nat.lt_or_ge k W.heap.size with hk | hk
  · by_cases hT : F.T k
    · exact Or.inl (Or.inl hT)
    · exact Or.inl (GTw_same (h.block k hk hT) ht)
  · exact Or.inr hk⟩
theorem Gw.trans {w2 : World} (h : Gw F W w1) (k : Gw F w1 w2) : Gw F W w2 := Mv.trans h k
theorem Gw.of_below (hB : F.B ≤ W.heap.size) (hb : Below W.heap.size W w1) : Gw F W w1 := Gt.w (Mv.of_below hB hb)
theorem Gw.grown (h : Gd F W M tk) (hg : W.grownBy w1 tk.v.ownBlock) : Gw F W w1 :=
  have hne : ∀ k, k < W.heap.size → ¬ F.Tw W k → some k ≠ tk.v.ownBlock := fun k hk ht e => ht (Or.inr (by
    rcases h.ws.2 with ⟨e0, _⟩ | ⟨g, cap, cur, e0, _, hx, _⟩
    · rw [e0] at e; cases e
    · rw [e0] at e; cases e; exact ⟨_, _, hx⟩))
  ⟨(Below.refl F.B W).grown hg h.big (fun k hk => (h.ws.lt k hk).1), fun k hk ht => hg.block k hk (hne k hk ht), fun k ht => by
    rcases Nat.lt_or_ge k W.heap.size with hk | hk
    · by_cases hT : F.Tw W k
      · exact Or.inl hT
      · exact Or.inl (GTw_same (hg.block k hk (hne k hk hT)) ht)
    · exact Or.inr hk⟩
theorem Gd.ramV (h : Gd F W M tk) : ∃ cap, F.S.ra = .slice (some ⟨F.ra, 0, none⟩) 128 cap ∧ 128 ≤ cap ∧ Bx W F.ra (bcs M.ram) := by
  obtain ⟨cap, h1, h2, h3⟩ := h.ra.some (by rw [h.fit.ram]; omega)
  rw [h.fit.ram] at h1 h2
  exact ⟨cap, h1, h2, h3⟩
theorem Gd.ownV (h : Gd F W M tk) : ∃ cap, F.S.ow = .slice (some ⟨F.ow, 0, none⟩) 64 cap ∧ 64 ≤ cap ∧ Bx W F.ow (bcs M.own) := by
  obtain ⟨cap, h1, h2, h3⟩ := h.ow.some (by rw [h.fit.own]; omega)
  rw [h.fit.own] at h1 h2
  exact ⟨cap, h1, h2, h3⟩
theorem Gd.viV (h : Gd F W M tk) : ∃ cap, F.S.vi = .slice (some ⟨F.vi, 0, none⟩) 256 cap ∧ 256 ≤ cap ∧ Bx W F.vi (bcs M.video) := by
  obtain ⟨cap, h1, h2, h3⟩ := h.vi.some (by rw [h.fit.video]; omega)
  rw [h.fit.video] at h1 h2
  exact ⟨cap, h1, h2, h3⟩
theorem Gd.ramAt (h : Gd F W M tk) (i : Int) (h0 : 0 ≤ i) (hi : i < 128) : W.cell? ⟨F.ra, i.toNat, none⟩ = some (.int .u8 (bget M.ram i)) ∧ F.ra < W.heap.size ∧ W.frozen? ⟨F.ra, i.toNat, none⟩ = false := by
  obtain ⟨_, _, _, hx⟩ := h.ramV
  exact ⟨hx.at _ _ (bcs_at _ _ h0 (by rw [h.fit.ram]; exact hi)), hx.z, hx.f _⟩
theorem Gd.ownAt (h : Gd F W M tk) (i : Int) (h0 : 0 ≤ i) (hi : i < 64) : W.cell? ⟨F.ow, i.toNat, none⟩ = some (.int .u8 (bget M.own i)) ∧ F.ow < W.heap.size ∧ W.frozen? ⟨F.ow, i.toNat, none⟩ = false := by
  obtain ⟨_, _, _, hx⟩ := h.ownV
  exact ⟨hx.at _ _ (bcs_at _ _ h0 (by rw [h.fit.own]; exact hi)), hx.z, hx.f _⟩
theorem Gd.viAt (h : Gd F W M tk) (i : Int) (h0 : 0 ≤ i) (hi : i < 256) : W.cell? ⟨F.vi, i.toNat, none⟩ = some (.int .u8 (bget M.video i)) ∧ F.vi < W.heap.size ∧ W.frozen? ⟨F.vi, i.toNat, none⟩ = false := by
  obtain ⟨_, _, _, hx⟩ := h.viV
  exact ⟨hx.at _ _ (bcs_at _ _ h0 (by rw [h.fit.video]; exact hi)), hx.z, hx.f _⟩
theorem gendA {l : List Wt} (h : Gd F w1 M tk) (hl : l = []) (ht : Gt F W w1) : (∃ v, Gd F w1 M (tk.app l v)) ∧ Gw F W w1 := ⟨⟨tk.v, by rw [hl, Tk.app_nil]; exact h⟩, ht.w⟩
end
abbrev sRom : Value := .string { data := #[114, 111, 109] }
abbrev sRam : Value := .string { data := #[114, 97, 109] }
abbrev sWin : Value := .string { data := #[119, 105, 110, 100, 111, 119] }
abbrev sPort : Value := .string { data := #[112, 111, 114, 116, 115] }
abbrev sNone : Value := .string { data := #[] }
theorem Gm.reg0 (a : Int) (w : World) (h0 : 0 ≤ a) (h : a < 32768) : Calls Try.prog 32 #[.int .u16 a] w fun e w' => e = .returned sRom ∧ w = w' := by
  have hq : Int.tdiv a 4096 = a / 4096 := Int.tdiv_eq_ediv_of_nonneg h0
  have h1 : a / 4096 < 8 := by omega
  have h2 : 0 ≤ a / 4096 := by omega
  go_enter Try.func32, Try.ntmps32
  go_wp2
  go_ret
  exact ⟨rfl, rfl⟩
theorem Gm.reg1 (a : Int) (w : World) (h0 : 32768 ≤ a) (h : a < 49152) : Calls Try.prog 32 #[.int .u16 a] w fun e w' => e = .returned sRam ∧ w = w' := by
  have hq : Int.tdiv a 4096 = a / 4096 := Int.tdiv_eq_ediv_of_nonneg (by omega)
  have h1 : a / 4096 < 12 := by omega
  have h2 : 8 ≤ a / 4096 := by omega
  go_enter Try.func32, Try.ntmps32
  go_wp2
  go_ret
  exact ⟨rfl, rfl⟩
theorem Gm.reg2 (a : Int) (w : World) (h0 : 49152 ≤ a) (h : a < 53248) : Calls Try.prog 32 #[.int .u16 a] w fun e w' => e = .returned sWin ∧ w = w' := by
  have hq : Int.tdiv a 4096 = 12 := by rw [Int.tdiv_eq_ediv_of_nonneg (by omega)]; omega
  go_enter Try.func32, Try.ntmps32
  go_wp2
  go_ret
  exact ⟨rfl, rfl⟩
theorem Gm.reg3 (a : Int) (w : World) (h0 : 53248 ≤ a) (h : a ≤ 57343) : Calls Try.prog 32 #[.int .u16 a] w fun e w' => e = .returned sPort ∧ w = w' := by
  have hq : Int.tdiv a 4096 = 13 := by rw [Int.tdiv_eq_ediv_of_nonneg (by omega)]; omega
  go_enter Try.func32, Try.ntmps32
  go_wp2
  go_ret
  exact ⟨rfl, rfl⟩
theorem Gm.reg4 (a : Int) (w : World) (h0 : 57344 ≤ a) (h : a ≤ 65535) : Calls Try.prog 32 #[.int .u16 a] w fun e w' => e = .returned sNone ∧ w = w' := by
  obtain ⟨q, hq, h1, h15⟩ : ∃ q, Int.tdiv a 4096 = q ∧ 14 ≤ q ∧ q ≤ 15 := ⟨_, rfl, by rw [Int.tdiv_eq_ediv_of_nonneg (by omega)]; omega⟩
  have h2 : (q == 12) = false := by simp; omega
  have h3 : (q == 13) = false := by simp; omega
  have h4 : 8 ≤ q := by omega
  have h5 : 12 ≤ q := by omega
  go_enter Try.func32, Try.ntmps32
  go_wp2
  go_ret
  exact ⟨rfl, rfl⟩
theorem romAt_some {l : List UInt8} {a : Int} (h0 : 0 ≤ a) (h : a < l.length) : ∃ c, l[a.toNat]? = some c ∧ romAt l a = (c.toNat : Int) := by
  have hn : a.toNat < l.length := by omega
  refine ⟨l[a.toNat], List.getElem?_eq_getElem hn, ?_⟩
  unfold romAt bget
  rw [if_pos h, List.getD_eq_getElem?_getD, List.getElem?_eq_getElem hn]
  rfl
theorem Gm.rom_any (v : Value) (l : List UInt8) (a : Int) (w : World) (hs : sliceAt w v l) (h0 : 0 ≤ a) (h1 : a ≤ 65535) : Calls Try.prog 41 #[v, .int .u16 a] w fun e w' => e = .returned (.int .u8 (romAt l a)) ∧ w = w' := by
  by_cases hlt : a < l.length
  · obtain ⟨c, hc, ev⟩ := romAt_some h0 hlt
    rw [ev]
    rcases hs with ⟨u, cap, _, rfl⟩ | ⟨g, o, cap, rfl, h2, h3, h4⟩
    · simp at hlt; omega
    · have hx := h4 _ _ hc
      clear h4 ev hc
      go_enter Try.func41, Try.ntmps41
      go_wp2
      go_ret
      exact ⟨rfl, rfl⟩
  · have ev : romAt l a = 255 := by unfold romAt; rw [if_neg hlt]
    rw [ev]
    obtain ⟨u, cap, e⟩ : ∃ u cap, v = .slice u l.length cap := by
      rcases hs with ⟨u, cap, e1, e2⟩ | ⟨g, o, cap, e1, _⟩
      · exact ⟨u, cap, by rw [e1, e2]; rfl⟩
      · exact ⟨_, _, e1⟩
    subst e
    clear hs
    go_enter Try.func41, Try.ntmps41
    go_wp2
    go_ret
    exact ⟨rfl, rfl⟩
section
variable {F : Gx} {W : World} {M : Mach} {tk : Tk}
theorem Gm.bare_any (h : Gd F W M tk) (a : Int) (ha : 0 ≤ a ∧ a ≤ 65535) : Calls Try.prog 33 #[pt F.g 0, .int .u16 a] W fun e w' => e = .returned (.int .u8 (if isPort a then 255 else M.lookM a)) ∧ W = w' := by
  have hg := h.bx.z
  unfold Mach.lookM isPort
  by_cases h1 : a < 32768
  · rw [if_neg (by simp; omega), if_pos h1]
    have c30 := h.at 30 F.S.mr rfl
    have HS := hid h.mr
    clear h
    go_enter Try.func33, Try.ntmps33
    go_wp2_with (first
      | (go_at_call 32; refine (Gm.reg0 a _ ha.1 h1).mono ?_; rintro e w1 ⟨rfl, rfl⟩)
      | (go_at_call 41; refine (Gm.rom_any _ _ a _ HS.out ha.1 ha.2).mono ?_; rintro e w1 ⟨rfl, rfl⟩))
    go_ret
    exact ⟨rfl, rfl⟩
  · by_cases h2 : a < 49152
    · rw [if_neg (by simp; omega), if_neg h1, if_pos h2]
      obtain ⟨cap, e, _, _⟩ := h.ramV
      have c32 : W.cell? ⟨F.g, 32, none⟩ = some (.slice (some ⟨F.ra, 0, none⟩) 128 cap) := (h.at 32 F.S.ra rfl).trans (by rw [e])
      obtain ⟨ec, ez, ef⟩ := h.ramAt ((a - 32768) % 128) (by omega) (by omega)
      have hm : Int.tmod (a - 32768) 128 = (a - 32768) % 128 := Int.tmod_eq_emod_of_nonneg (by omega)
      clear h e
      go_enter Try.func33, Try.ntmps33
      go_wp2_with (go_at_call 32; refine (Gm.reg1 a _ (by omega) h2).mono ?_; rintro e w1 ⟨rfl, rfl⟩)
      go_ret
      exact ⟨rfl, rfl⟩
    · by_cases h3 : a < 53248
      · rw [if_neg (by simp; omega), if_neg h1, if_neg h2, if_pos h3]
        obtain ⟨cap, e, _, _⟩ := h.viV
        have c34 : W.cell? ⟨F.g, 34, none⟩ = some (.slice (some ⟨F.vi, 0, none⟩) 256 cap) := (h.at 34 F.S.vi rfl).trans (by rw [e])
        obtain ⟨ec, ez, ef⟩ := h.viAt ((a - 49152) % 256) (by omega) (by omega)
        have hm : Int.tmod a 256 = (a - 49152) % 256 := by rw [Int.tmod_eq_emod_of_nonneg (by omega)]; omega
        clear h e
        go_enter Try.func33, Try.ntmps33
        go_wp2_with (go_at_call 32; refine (Gm.reg2 a _ (by omega) h3).mono ?_; rintro e w1 ⟨rfl, rfl⟩)
        go_ret
        exact ⟨rfl, rfl⟩
      · rw [if_neg h1, if_neg h2, if_neg h3]
        simp only [ite_self]
        by_cases h4 : a ≤ 57343
        · go_enter Try.func33, Try.ntmps33
          go_wp2_with (go_at_call 32; refine (Gm.reg3 a _ (by omega) h4).mono ?_; rintro e w1 ⟨rfl, rfl⟩)
          go_ret
          exact ⟨rfl, rfl⟩
        · go_enter Try.func33, Try.ntmps33
          go_wp2_with (go_at_call 32; refine (Gm.reg4 a _ (by omega) ha.2).mono ?_; rintro e w1 ⟨rfl, rfl⟩)
          go_ret
          exact ⟨rfl, rfl⟩
end
/-- Block b of w is a map that holds just these keys, in this order, with these elements. -/
def mapAt (w : World) (b : Nat) (l : List (Int × Value)) : Prop :=
  ∃ es clock, w.heap[b]? = some (.map es clock) ∧ es.toList.map (fun e => (e.key, e.val)) = l.map (fun p => (Value.int .i64 p.1, p.2))

theorem find_at (op : Int) : ∀ (es : List MapEntry) (l : List (Int × Value)), es.map (fun e => (e.key, e.val)) = l.map (fun p => (Value.int .i64 p.1, p.2)) → ∀ i : Nat,
    ∃ r, Instr.findNow (.int .i64) (.int .i64 op) es i = some r ∧ r.map (·.2) = (l.find? (fun p => p.1 == op)).map (·.2)
  | [], [], _, i => ⟨none, rfl, rfl⟩
  | [], _ :: _, h, _ => by cases h
  | _ :: _, [], h, _ => by cases h
  | e :: es, p :: l, h, i => by
    simp only [List.map_cons, List.cons.injEq, Prod.mk.injEq] at h
    obtain ⟨⟨hk, hv⟩, h⟩ := h
    by_cases c : p.1 = op
    · refine ⟨some (i, e.val), ?_, ?_⟩
      · simp [Instr.findNow, hk, Instr.sameNow, c]
      · simp [c, hv]
    · obtain ⟨r, h1, h2⟩ := find_at op es l h (i + 1)
      refine ⟨r, ?_, ?_⟩
      · have c' : (op == p.1) = false := by simp; omega
        simp [Instr.findNow, hk, Instr.sameNow, c', h1]
      · have c' : (p.1 == op) = false := by simp; omega
        rw [h2, List.find?_cons, c']

theorem mapAt_made (w : World) : mapAt (w.alloc (.map #[] 0)) w.heap.size [] := ⟨#[], 0, (MapKept.heap_alloc w _).1, rfl⟩
theorem mapAt.lt {w : World} {b : Nat} {l : List (Int × Value)} (h : mapAt w b l) : b < w.heap.size := by
  obtain ⟨es, c, hb, _⟩ := h
  exact (Array.getElem?_eq_some_iff.1 hb).1
theorem mapAt.alloc {w : World} {b : Nat} {l : List (Int × Value)} (h : mapAt w b l) (o : Obj) : mapAt (w.alloc o) b l := by
  have hlt := h.lt
  obtain ⟨es, c, hb, hm⟩ := h
  exact ⟨es, c, by rw [(MapKept.heap_alloc w o).2 b hlt]; exact hb, hm⟩

/-- What a store of a new key leaves as it was. -/
structure Stored (w w' : World) (b : Nat) : Prop where
  size : w'.heap.size = w.heap.size
  cell : ∀ p v, w.cell? p = some v → w'.cell? p = some v
  grown : ∀ W, Below W.heap.size W w → W.heap.size ≤ b → Below W.heap.size W w'

theorem stored_setBlock {w : World} {b : Nat} {es : Array MapEntry} {clock : Nat} (hb : w.heap[b]? = some (.map es clock)) (es' : Array MapEntry) (clock' : Nat) :
    Stored w { w with heap := w.heap.setIfInBounds b (.map es' clock') } b := by
  have hs := MapKept.heap_set (o' := .map es' clock') hb
  refine ⟨by simp, fun p v hp => ?_, fun W hg hW => hg.trans ⟨rfl, rfl, rfl, by simp, fun k hk => hs.2 k (by omega)⟩⟩
  · have hne : p.block ≠ b := by
      intro e
      simp [World.cell?, e, hb] at hp
    simp only [World.cell?] at hp ⊢
    rw [hs.2 _ hne]
    exact hp

theorem insert_run {P : Program} {t k e : TypeId} (ht : P.underlying t = some (.map k e)) (hk : P.underlying k = some (.int .i64)) {w : World} {b : Nat} {l : List (Int × Value)} (h : mapAt w b l) (x : Int) (v : Value)
    (hf : l.find? (fun p => p.1 == x) = none) : ∃ w', (Instr.mapUpdate t (.map (some b)) (.int .i64 x) v).run P w = .ok () w' ∧ mapAt w' b (l ++ [(x, v)]) ∧ Stored w w' b := by
  obtain ⟨es, c, hb, hm⟩ := h
  obtain ⟨r, h1, h2⟩ := find_at x es.toList l hm 0
  have hr : r = none := by
    cases r with
    | none => rfl
    | some q => simp [hf] at h2
  subst hr
  have hc : (Instr.checkKey false 10000 k (.int .i64 x)).run P w = .ok () w := MapKept.run_checkKey (k := .int .i64 x) hk (by simp [MapKept.IsKey]) false 9999
  refine ⟨{ w with heap := w.heap.setIfInBounds b (.map (es.push { key := .int .i64 x, val := v, born := c }) (c + 1)) }, ?_, ?_, stored_setBlock hb _ _⟩
  · simp [Instr.mapUpdate, run_underlying ht, MapKept.run_getObj_map hb, hc, MapKept.run_findKey hk h1, MapKept.run_setObj_map _ hb, Result.andThen]
  · exact ⟨_, _, (MapKept.heap_set hb).1, by simp [hm]⟩

theorem wpList_insert {P : Program} (w : World) {ops : Array Oper} {rest : List Oper} {o : Oper} {a : Act} {Q : Exit → Act → World → Prop}
    (hg : o.guard = none) (m x v : Operand) (t : TypeId) (hop : o.op = Op.insert t m x v) (k e : TypeId) (ht : P.underlying t = some (.map k e)) (hk : P.underlying k = some (.int .i64))
    (b : Nat) (l : List (Int × Value)) (hm : a.eval m = .map (some b)) (h : mapAt w b l) (key : Int) (val : Value) (hx : a.eval x = .int .i64 key) (hv : a.eval v = val) (hf : l.find? (fun p => p.1 == key) = none)
    (hK : ∀ w', mapAt w' b (l ++ [(key, val)]) → Stored w w' b → wpList P ops Q rest (a.put o.dst undef) w') : wpList P ops Q (o :: rest) a w := by
  refine wpList_plain hg fun K' hK' => ?_
  obtain ⟨w', hrun, r1, r2⟩ := insert_run ht hk h key val hf
  unfold Oper.wp
  simp [execOp, hop, hm, hx, hv, hrun, Result.andThen]
  exact hK' _ _ (hK w' r1 r2)

theorem lookup_run {P : Program} {t k e : TypeId} (ht : P.underlying t = some (.map k e)) (hk : P.underlying k = some (.int .i64)) {w : World} {b : Nat} {l : List (Int × Value)} (h : mapAt w b l) (x : Int) (z : Value)
    (hz : (zeroValue e).run P w = .ok z w) : (Instr.lookup t (.map (some b)) (.int .i64 x) true).run P w =
      .ok (.tuple #[((l.find? (fun p => p.1 == x)).map (·.2)).getD z, .bool (l.find? (fun p => p.1 == x)).isSome]) w := by
  obtain ⟨es, c, hb, hm⟩ := h
  obtain ⟨r, h1, h2⟩ := find_at x es.toList l hm 0
  have hc : ∀ em, (Instr.checkKey em 10000 k (.int .i64 x)).run P w = .ok () w := fun em => MapKept.run_checkKey (k := .int .i64 x) hk (by simp [MapKept.IsKey]) em 9999
  cases r with
  | none =>
    have hn : l.find? (fun p => p.1 == x) = none := by simpa using h2.symm
    rw [hn]
    simp [Instr.lookup, run_underlying ht, MapKept.run_getObj_map hb, hc, MapKept.run_findKey hk h1, hz, Result.andThen]
  | some q =>
    obtain ⟨i, v⟩ := q
    cases hq : l.find? (fun p => p.1 == x) with
    | none => simp [hq] at h2
    | some y =>
      simp [hq] at h2
      simp [Instr.lookup, run_underlying ht, MapKept.run_getObj_map hb, hc, MapKept.run_findKey hk h1, Result.andThen, h2]
/-- Block b of w is a map that holds true alone, with this element. -/
def bmapAt (w : World) (b : Nat) (v : Value) : Prop := ∃ n c, w.heap[b]? = some (.map #[{ key := .bool true, val := v, born := n }] c)
theorem bmapAt.lt {w : World} {b : Nat} {v : Value} (h : bmapAt w b v) : b < w.heap.size := by
  obtain ⟨n, c, hb⟩ := h
  exact (Array.getElem?_eq_some_iff.1 hb).1
theorem binsert_run {P : Program} {t k e : TypeId} (ht : P.underlying t = some (.map k e)) (hk : P.underlying k = some .bool) {w : World} {b c : Nat} (hb : w.heap[b]? = some (.map #[] c)) (v : Value) :
    ∃ w', (Instr.mapUpdate t (.map (some b)) (.bool true) v).run P w = .ok () w' ∧ bmapAt w' b v ∧ Stored w w' b := by
  have hc : (Instr.checkKey false 10000 k (.bool true)).run P w = .ok () w := MapKept.run_checkKey (k := .bool true) hk (by simp [MapKept.IsKey]) false 9999
  have h1 : Instr.findNow .bool (.bool true) (#[] : Array MapEntry).toList 0 = some none := rfl
  refine ⟨{ w with heap := w.heap.setIfInBounds b (.map ((#[] : Array MapEntry).push { key := .bool true, val := v, born := c }) (c + 1)) }, ?_, ?_, stored_setBlock hb _ _⟩
  · simp [Instr.mapUpdate, run_underlying ht, MapKept.run_getObj_map hb, hc, MapKept.run_findKey hk h1, MapKept.run_setObj_map _ hb, Result.andThen]
  · exact ⟨_, _, (MapKept.heap_set hb).1⟩
theorem wpList_binsert {P : Program} (w : World) {ops : Array Oper} {rest : List Oper} {o : Oper} {a : Act} {Q : Exit → Act → World → Prop}
    (hg : o.guard = none) (m x v : Operand) (t : TypeId) (hop : o.op = Op.insert t m x v) (k e : TypeId) (ht : P.underlying t = some (.map k e)) (hk : P.underlying k = some .bool)
    (b c : Nat) (hm : a.eval m = .map (some b)) (hb : w.heap[b]? = some (.map #[] c)) (val : Value) (hx : a.eval x = .bool true) (hv : a.eval v = val)
    (hK : ∀ w', bmapAt w' b val → Stored w w' b → wpList P ops Q rest (a.put o.dst undef) w') : wpList P ops Q (o :: rest) a w := by
  refine wpList_plain hg fun K' hK' => ?_
  obtain ⟨w', hrun, r1, r2⟩ := binsert_run ht hk hb val
  unfold Oper.wp
  simp [execOp, hop, hm, hx, hv, hrun, Result.andThen]
  exact hK' _ _ (hK w' r1 r2)
/-- One of two values. -/
def bsel (x : Bool) (v z : Value) : Value := if x then v else z
theorem blookup_run {P : Program} {t k e : TypeId} (ht : P.underlying t = some (.map k e)) (hk : P.underlying k = some .bool) {w : World} {b : Nat} {v : Value} (h : bmapAt w b v) (x : Bool) (z : Value)
    (hz : (zeroValue e).run P w = .ok z w) : (Instr.lookup t (.map (some b)) (.bool x) false).run P w = .ok (bsel x v z) w := by
  obtain ⟨n, c, hb⟩ := h
  have hc : ∀ em, (Instr.checkKey em 10000 k (.bool x)).run P w = .ok () w := fun em => MapKept.run_checkKey (k := .bool x) hk (by simp [MapKept.IsKey]) em 9999
  cases x
  · have h1 : Instr.findNow .bool (.bool false) (#[{ key := .bool true, val := v, born := n }] : Array MapEntry).toList 0 = some none := rfl
    simp [Instr.lookup, run_underlying ht, MapKept.run_getObj_map hb, hc, MapKept.run_findKey hk h1, hz, Result.andThen, bsel]
  · have h1 : Instr.findNow .bool (.bool true) (#[{ key := .bool true, val := v, born := n }] : Array MapEntry).toList 0 = some (some (0, v)) := rfl
    simp [Instr.lookup, run_underlying ht, MapKept.run_getObj_map hb, hc, MapKept.run_findKey hk h1, Result.andThen, bsel]
theorem under_bm8 : Try.prog.underlying 108 = some (.map 4 5) := by kernel_rfl
theorem zero_u8 (w : World) : (zeroValue 5).run Try.prog w = .ok (.int .u8 0) w := by kernel_rfl
theorem Gm.both_any (x y : Bool) (w : World) : Calls Try.prog 35 #[.bool x, .bool y] w fun e w' => e = .returned (.int .u8 (two x y)) ∧ Below w.heap.size w w' := by
  have hmm := @run_makeMap Try.prog
  cases x <;> cases y
  all_goals
    go_enter Try.func35, Try.ntmps35
    go_wp2_with (first
      | (refine wpList_binsert _ rfl _ _ _ 108 rfl 4 5 under_bm8 Try.underlying4 w2.heap.size 0 rfl ?_ _ rfl rfl ?_; (exact heap_alloc_new _ _); intro w3 hm3 hs3; have lk1 := blookup_run under_bm8 Try.underlying4 hm3 false _ (zero_u8 w3); have lk2 := blookup_run under_bm8 Try.underlying4 hm3 true _ (zero_u8 w3); simp only [bsel, Bool.false_eq_true, if_false, if_true] at lk1 lk2; have B3 := hid (stp B2.out (hs3.grown _ (stA (st0 _) _) (Nat.le_refl _))); clear hm3 hs3)
      | (refine wpList_binsert _ rfl _ _ _ 108 rfl 4 5 under_bm8 Try.underlying4 w.heap.size 0 rfl ?_ _ rfl rfl ?_; (exact heap_alloc_new _ _); intro w2 hm2 hs2; have lk1 := blookup_run under_bm8 Try.underlying4 hm2 false _ (zero_u8 w2); have lk2 := blookup_run under_bm8 Try.underlying4 hm2 true _ (zero_u8 w2); simp only [bsel, Bool.false_eq_true, if_false, if_true] at lk1 lk2; have B2 := hid (hs2.grown _ (stA (st0 w) _) (Nat.le_refl _)); clear hm2 hs2))

    go_ret
    exact ⟨rfl, B3.out⟩
/-- Box b keeps the game's place. -/
def Pb (F : Gx) (W : World) (b : Nat) : Prop := b < W.heap.size ∧ W.cell? ⟨b, 0, none⟩ = some (pt F.g 0) ∧ ¬ F.T b
section
variable {F : Gx} {W : World} {M : Mach} {tk : Tk} {gb mb : Nat}
theorem Pb.kept {w1 : World} {b : Nat} (h : Pb F W b) (hb : Below W.heap.size W w1) : Pb F w1 b := ⟨Nat.lt_of_lt_of_le h.1 hb.size, (hb.cell (p := ⟨b, 0, none⟩) h.1).trans h.2.1, h.2.2⟩
theorem Pb.moved {w1 : World} {b : Nat} (h : Pb F W b) (hb : Gt F W w1) : Pb F w1 b := ⟨Nat.lt_of_lt_of_le h.1 (Mv.size hb), (Mv.cell hb h.1 h.2.2 0).trans h.2.1, h.2.2⟩
structure GdC (F : Gx) (W : World) (M : Mach) (tk : Tk) (b : Nat) (p : Pd) (wx : World) : Prop where
  bd : Gd F wx M tk
  bt : Gt F W wx
  bx : Bx wx b [.int .u8 p.d, .bool p.l, .int .u8 p.s]
  ne : b ≠ F.g
theorem GdC.mkA {w1 : World} {p : Pd} (h : Gd F W M tk) (hB : Below W.heap.size W w1) : GdC F W M tk w1.heap.size p (w1.alloc (.cells #[.int .u8 p.d, .bool p.l, .int .u8 p.s] 28)) := by
  have hz := Nat.lt_of_lt_of_le h.bx.z hB.size
  exact ⟨(h.kept hB).over _, Gt.kept (Gt.refl F W) h.big (stA hB _), Bx.new w1 [.int .u8 p.d, .bool p.l, .int .u8 p.s] _ rfl, by omega⟩
theorem GdC.all {wx : World} {b : Nat} {p : Pd} (h : GdC F W M tk b p wx) : wx.cell? ⟨b, 0, none⟩ = some (.int .u8 p.d) ∧ wx.cell? ⟨b, 1, none⟩ = some (.bool p.l) ∧ wx.cell? ⟨b, 2, none⟩ = some (.int .u8 p.s) := ⟨h.bx.at 0 _ rfl, h.bx.at 1 _ rfl, h.bx.at 2 _ rfl⟩
theorem Gm.getN0 (h : Gd F W M tk) (hg : Pb F W gb) (a : Int) (h1 : 0 ≤ a) (h2 : a < 32768) : Calls Try.prog 31 #[.int .u16 a, pt gb 0, pt mb 0] W fun e w' => e = .returned (.int .u8 (M.lookM a)) ∧ Gd F w' M tk ∧ Gt F W w' := by
  obtain ⟨y1, e1, _⟩ := hg
  have hp : isPort a = false := by unfold isPort; exact decide_eq_false (by omega)
  have hbr := hid (Gm.bare_any h a (by omega))
  rw [hp] at hbr
  have H := hid h
  clear h hp
  simp only [Bool.false_eq_true, if_false] at hbr
  go_enter Try.func31, Try.ntmps31
  go_wp2_with (first
    | (go_at_call 32; refine (Gm.reg0 a _ h1 h2).mono ?_; rintro e w1 ⟨rfl, rfl⟩)
    | (go_at_call 33; refine hbr.out.mono ?_; rintro e w1 ⟨rfl, rfl⟩))
  go_ret
  exact ⟨rfl, H.out, Gt.refl _ _⟩
theorem Gm.getN1 (h : Gd F W M tk) (hg : Pb F W gb) (a : Int) (h1 : 32768 ≤ a) (h2 : a < 49152) : Calls Try.prog 31 #[.int .u16 a, pt gb 0, pt mb 0] W fun e w' => e = .returned (.int .u8 (M.lookM a)) ∧ Gd F w' M tk ∧ Gt F W w' := by
  obtain ⟨y1, e1, _⟩ := hg
  have hp : isPort a = false := by unfold isPort; exact decide_eq_false (by omega)
  have hbr := hid (Gm.bare_any h a (by omega))
  rw [hp] at hbr
  have H := hid h
  clear h hp
  simp only [Bool.false_eq_true, if_false] at hbr
  go_enter Try.func31, Try.ntmps31
  go_wp2_with (first
    | (go_at_call 32; refine (Gm.reg1 a _ h1 h2).mono ?_; rintro e w1 ⟨rfl, rfl⟩)
    | (go_at_call 33; refine hbr.out.mono ?_; rintro e w1 ⟨rfl, rfl⟩))
  go_ret
  exact ⟨rfl, H.out, Gt.refl _ _⟩
theorem Gm.getN2 (h : Gd F W M tk) (hg : Pb F W gb) (a : Int) (h1 : 49152 ≤ a) (h2 : a < 53248) : Calls Try.prog 31 #[.int .u16 a, pt gb 0, pt mb 0] W fun e w' => e = .returned (.int .u8 (M.lookM a)) ∧ Gd F w' M tk ∧ Gt F W w' := by
  obtain ⟨y1, e1, _⟩ := hg
  have hp : isPort a = false := by unfold isPort; exact decide_eq_false (by omega)
  have hbr := hid (Gm.bare_any h a (by omega))
  rw [hp] at hbr
  have H := hid h
  clear h hp
  simp only [Bool.false_eq_true, if_false] at hbr
  go_enter Try.func31, Try.ntmps31
  go_wp2_with (first
    | (go_at_call 32; refine (Gm.reg2 a _ h1 h2).mono ?_; rintro e w1 ⟨rfl, rfl⟩)
    | (go_at_call 33; refine hbr.out.mono ?_; rintro e w1 ⟨rfl, rfl⟩))
  go_ret
  exact ⟨rfl, H.out, Gt.refl _ _⟩
theorem Gm.getN4 (h : Gd F W M tk) (hg : Pb F W gb) (a : Int) (h1 : 57344 ≤ a) (h2 : a ≤ 65535) : Calls Try.prog 31 #[.int .u16 a, pt gb 0, pt mb 0] W fun e w' => e = .returned (.int .u8 (M.lookM a)) ∧ Gd F w' M tk ∧ Gt F W w' := by
  obtain ⟨y1, e1, _⟩ := hg
  have hp : isPort a = false := by unfold isPort; exact decide_eq_false (by omega)
  have hbr := hid (Gm.bare_any h a (by omega))
  rw [hp] at hbr
  have H := hid h
  clear h hp
  simp only [Bool.false_eq_true, if_false] at hbr
  go_enter Try.func31, Try.ntmps31
  go_wp2_with (first
    | (go_at_call 32; refine (Gm.reg4 a _ h1 h2).mono ?_; rintro e w1 ⟨rfl, rfl⟩)
    | (go_at_call 33; refine hbr.out.mono ?_; rintro e w1 ⟨rfl, rfl⟩))
  go_ret
  exact ⟨rfl, H.out, Gt.refl _ _⟩
theorem Gm.getP6 (h : Gd F W M tk) (hm : Pb F W mb) (a : Int) (h1 : 53248 ≤ a) (h2 : a ≤ 57343) (hk : Int.tmod a 32 = 6) : Calls Try.prog 31 #[.int .u16 a, pt gb 0, pt mb 0] W fun e w' => e = .returned (.int .u8 (M.portM 6).1) ∧ Gd F w' (M.portM 6).2 tk ∧ Gt F W w' := by
  obtain ⟨y2, e2, _⟩ := hm
  have c1 := h.at 61 (.int .i64 M.b.l) rfl
  have b0 := h.fit.b.l0
  have b1 := h.fit.b.l1
  have hg := h.bx.z
  have H := hid h
  clear h
  go_enter Try.func31, Try.ntmps31
  go_wp2_with (go_at_call 32; refine (Gm.reg3 a _ h1 h2).mono ?_; rintro e w1 ⟨rfl, rfl⟩)
  go_ret
  exact ⟨rfl, H.out, Gt.refl _ _⟩
theorem Gm.getP7 (h : Gd F W M tk) (hm : Pb F W mb) (a : Int) (h1 : 53248 ≤ a) (h2 : a ≤ 57343) (hk : Int.tmod a 32 = 7) : Calls Try.prog 31 #[.int .u16 a, pt gb 0, pt mb 0] W fun e w' => e = .returned (.int .u8 (M.portM 7).1) ∧ Gd F w' (M.portM 7).2 tk ∧ Gt F W w' := by
  obtain ⟨y2, e2, _⟩ := hm
  have c1 := h.at 62 (.int .i64 M.b.a) rfl
  have b0 := h.fit.b.a0
  have b1 := h.fit.b.a1
  have hg := h.bx.z
  have H := hid h
  clear h
  go_enter Try.func31, Try.ntmps31
  go_wp2_with (go_at_call 32; refine (Gm.reg3 a _ h1 h2).mono ?_; rintro e w1 ⟨rfl, rfl⟩)
  go_ret
  exact ⟨rfl, H.out, Gt.refl _ _⟩
theorem Gm.getP17 (h : Gd F W M tk) (hm : Pb F W mb) (a : Int) (h1 : 53248 ≤ a) (h2 : a ≤ 57343) (hk : Int.tmod a 32 = 17) : Calls Try.prog 31 #[.int .u16 a, pt gb 0, pt mb 0] W fun e w' => e = .returned (.int .u8 (M.portM 17).1) ∧ Gd F w' (M.portM 17).2 tk ∧ Gt F W w' := by
  obtain ⟨y2, e2, _⟩ := hm
  have c1 := h.at 70 (.int .u8 M.m1) rfl
  have hg := h.bx.z
  have H := hid h
  clear h
  go_enter Try.func31, Try.ntmps31
  go_wp2_with (go_at_call 32; refine (Gm.reg3 a _ h1 h2).mono ?_; rintro e w1 ⟨rfl, rfl⟩)
  go_ret
  exact ⟨rfl, H.out, Gt.refl _ _⟩
theorem Gm.getP8 (h : Gd F W M tk) (hm : Pb F W mb) (a : Int) (h1 : 53248 ≤ a) (h2 : a ≤ 57343) (hk : Int.tmod a 32 = 8) : Calls Try.prog 31 #[.int .u16 a, pt gb 0, pt mb 0] W fun e w' => e = .returned (.int .u8 (M.portM 8).1) ∧ Gd F w' (M.portM 8).2 tk ∧ Gt F W w' := by
  obtain ⟨y2, e2, _⟩ := hm
  have c1 := h.at 63 (.bool M.b.g) rfl
  have hg := h.bx.z
  have H := hid h
  clear h
  go_enter Try.func31, Try.ntmps31
  go_wp2_with (first | (go_at_call 32; refine (Gm.reg3 a _ h1 h2).mono ?_; rintro e w1 ⟨rfl, rfl⟩) | (go_at_call 35; refine (Gm.both_any _ _ _).mono ?_; rintro e w2 ⟨rfl, hb2⟩))
  go_ret
  exact ⟨rfl, H.out.kept hb2, Gt.kept (Gt.refl F W) H.out.big hb2⟩
set_option maxHeartbeats 3200000 in
theorem Gm.getP4 (h : Gd F W M tk) (hm : Pb F W mb) (a : Int) (h1 : 53248 ≤ a) (h2 : a ≤ 57343) (hk : Int.tmod a 32 = 4) : Calls Try.prog 31 #[.int .u16 a, pt gb 0, pt mb 0] W fun e w' => e = .returned (.int .u8 (M.portM 4).1) ∧ Gd F w' (M.portM 4).2 tk ∧ Gt F W w' := by
  obtain ⟨y2, e2, _⟩ := hm
  have c1 := h.at 43 (.bool M.t.on) rfl
  have c2 := h.at 44 (.bool M.t.g) rfl
  have hg := h.bx.z
  have H := hid h
  clear h
  go_enter Try.func31, Try.ntmps31
  go_wp2_with (go_at_call 32; refine (Gm.reg3 a _ h1 h2).mono ?_; rintro e w1 ⟨rfl, rfl⟩)
  go_region_with (go_at_call 35; refine (Gm.both_any _ _ _).mono ?_; rintro e w2 ⟨rfl, hb2⟩)
  all_goals
    go_wp2
    go_ret
    exact ⟨rfl, H.out.kept (stp (st0 W).drew hb2), Gt.kept (Gt.refl F W) H.out.big (stp (st0 W).drew hb2)⟩
set_option maxHeartbeats 3200000 in
theorem Gm.getP16 (h : Gd F W M tk) (hm : Pb F W mb) (a : Int) (h1 : 53248 ≤ a) (h2 : a ≤ 57343) (hk : Int.tmod a 32 = 16) : Calls Try.prog 31 #[.int .u16 a, pt gb 0, pt mb 0] W fun e w' => e = .returned (.int .u8 (M.portM 16).1) ∧ Gd F w' (M.portM 16).2 tk ∧ Gt F W w' := by
  obtain ⟨y2, e2, _⟩ := hm
  have c1 := h.at 67 (.bool M.granted) rfl
  have c2 := h.at 68 (.bool M.held) rfl
  have hg := h.bx.z
  have H := hid h
  clear h
  go_enter Try.func31, Try.ntmps31
  go_wp2_with (go_at_call 32; refine (Gm.reg3 a _ h1 h2).mono ?_; rintro e w1 ⟨rfl, rfl⟩)
  go_region_with (go_at_call 35; refine (Gm.both_any _ _ _).mono ?_; rintro e w2 ⟨rfl, hb2⟩)
  all_goals
    go_wp2
    go_ret
    exact ⟨rfl, H.out.kept (stp (st0 W).drew hb2), Gt.kept (Gt.refl F W) H.out.big (stp (st0 W).drew hb2)⟩
set_option maxHeartbeats 1600000 in
theorem Gm.getP0 (h : Gd F W M tk) (hm : Pb F W mb) (a : Int) (h1 : 53248 ≤ a) (h2 : a ≤ 57343) (hk : Int.tmod a 32 = 0) : Calls Try.prog 31 #[.int .u16 a, pt gb 0, pt mb 0] W fun e w' => e = .returned (.int .u8 (M.portM 0).1) ∧ Gd F w' (M.portM 0).2 tk ∧ Gt F W w' := by
  obtain ⟨y2, e2, _⟩ := hm
  have c0 := h.at 35 (.int .u8 M.p0.d) rfl
  have c1 := h.at 36 (.bool M.p0.l) rfl
  have c2 := h.at 37 (.int .u8 M.p0.s) rfl
  have hp := h.fit.p0
  have HMB : Hid (Pb F W mb) := hid ⟨y2, e2, by assumption⟩
  have hg := h.bx.z
  have H := hid h
  clear h
  go_enter Try.func31, Try.ntmps31
  go_upto_region 5 with (go_at_call 32; refine (Gm.reg3 a _ h1 h2).mono ?_; rintro e w1 ⟨rfl, rfl⟩)
  go_cut [5, 6] (fun v3 v4 wx => v3 = .int .u8 M.p0.rd ∧ ∃ b, v4 = pt b 0 ∧ GdC F W M tk b M.p0.next wx)
  case first =>
    go_wp2_with (go_at_call 34; refine (pr_read _ _ _ _ hp.d hp.s).mono ?_; rintro e w2 ⟨rfl, hb2⟩)
    go_meet
    exact ⟨rfl, _, rfl, GdC.mkA H.out hb2⟩
  case rest =>
    obtain ⟨rfl, b, rfl, hC⟩ := hcut
    obtain ⟨d0, d1, d2⟩ := hC.all
    have c0 := hC.bd.at 35 (.int .u8 M.p0.d) rfl
    have c1 := hC.bd.at 36 (.bool M.p0.l) rfl
    have c2 := hC.bd.at 37 (.int .u8 M.p0.s) rfl
    have f0 := hC.bd.bx.f
    have hg := hC.bd.bx.z
    have hbz := hC.bx.z
    obtain ⟨y2, e2, _⟩ := HMB.out.moved hC.bt
    have HC := hid hC
    clear hC
    go_wp2
    go_region_with fail
    all_goals go_wp2
    all_goals go_ret
    all_goals
      refine ⟨rfl, ?_, ?_⟩
      · exact HC.out.bd.drew.puts (M' := { M with p0 := M.p0.next }) (tk' := tk) 35 [.int .u8 M.p0.next.d, .bool M.p0.next.l, .int .u8 M.p0.next.s] (by simp) rfl ⟨rfl, rfl, rfl, rfl, rfl⟩ { HC.out.bd.fit with main := HC.out.bd.fit.main, p0 := Pd.next_ok HC.out.bd.fit.p0 }
      · exact Gt.sets HC.out.bd.nd [.int .u8 M.p0.next.d, .bool M.p0.next.l, .int .u8 M.p0.next.s] 35 _ HC.out.bt.drew
set_option maxHeartbeats 1600000 in
theorem Gm.getP1 (h : Gd F W M tk) (hm : Pb F W mb) (a : Int) (h1 : 53248 ≤ a) (h2 : a ≤ 57343) (hk : Int.tmod a 32 = 1) : Calls Try.prog 31 #[.int .u16 a, pt gb 0, pt mb 0] W fun e w' => e = .returned (.int .u8 (M.portM 1).1) ∧ Gd F w' (M.portM 1).2 tk ∧ Gt F W w' := by
  obtain ⟨y2, e2, _⟩ := hm
  have c0 := h.at 38 (.int .u8 M.p1.d) rfl
  have c1 := h.at 39 (.bool M.p1.l) rfl
  have c2 := h.at 40 (.int .u8 M.p1.s) rfl
  have hp := h.fit.p1
  have HMB : Hid (Pb F W mb) := hid ⟨y2, e2, by assumption⟩
  have hg := h.bx.z
  have H := hid h
  clear h
  go_enter Try.func31, Try.ntmps31
  go_upto_region 9 with (go_at_call 32; refine (Gm.reg3 a _ h1 h2).mono ?_; rintro e w1 ⟨rfl, rfl⟩)
  go_cut [7, 8] (fun v3 v4 wx => v3 = .int .u8 M.p1.rd ∧ ∃ b, v4 = pt b 0 ∧ GdC F W M tk b M.p1.next wx)
  case first =>
    go_wp2_with (go_at_call 34; refine (pr_read _ _ _ _ hp.d hp.s).mono ?_; rintro e w2 ⟨rfl, hb2⟩)
    go_meet
    exact ⟨rfl, _, rfl, GdC.mkA H.out hb2⟩
  case rest =>
    obtain ⟨rfl, b, rfl, hC⟩ := hcut
    obtain ⟨d0, d1, d2⟩ := hC.all
    have c0 := hC.bd.at 38 (.int .u8 M.p1.d) rfl
    have c1 := hC.bd.at 39 (.bool M.p1.l) rfl
    have c2 := hC.bd.at 40 (.int .u8 M.p1.s) rfl
    have f0 := hC.bd.bx.f
    have hg := hC.bd.bx.z
    have hbz := hC.bx.z
    obtain ⟨y2, e2, _⟩ := HMB.out.moved hC.bt
    have HC := hid hC
    clear hC
    go_wp2
    go_region_with fail
    all_goals go_wp2
    all_goals go_ret
    all_goals
      refine ⟨rfl, ?_, ?_⟩
      · exact HC.out.bd.drew.puts (M' := { M with p1 := M.p1.next }) (tk' := tk) 38 [.int .u8 M.p1.next.d, .bool M.p1.next.l, .int .u8 M.p1.next.s] (by simp) rfl ⟨rfl, rfl, rfl, rfl, rfl⟩ { HC.out.bd.fit with main := HC.out.bd.fit.main, p1 := Pd.next_ok HC.out.bd.fit.p1 }
      · exact Gt.sets HC.out.bd.nd [.int .u8 M.p1.next.d, .bool M.p1.next.l, .int .u8 M.p1.next.s] 38 _ HC.out.bt.drew
theorem Gm.getPd (h : Gd F W M tk) (hm : Pb F W mb) (a : Int) (h1 : 53248 ≤ a) (h2 : a ≤ 57343) (k : Int) (hk : Int.tmod a 32 = k) (k0 : 0 ≤ k) (k1 : k ≤ 31) (n0 : (k == 0) = false) (n1 : (k == 1) = false) (n4 : (k == 4) = false) (n6 : (k == 6) = false) (n7 : (k == 7) = false) (n8 : (k == 8) = false) (n16 : (k == 16) = false) (n17 : (k == 17) = false) : Calls Try.prog 31 #[.int .u16 a, pt gb 0, pt mb 0] W fun e w' => e = .returned (.int .u8 255) ∧ Gd F w' M tk ∧ Gt F W w' := by
  have H := hid h
  clear h
  go_enter Try.func31, Try.ntmps31
  go_wp2_with (go_at_call 32; refine (Gm.reg3 a _ h1 h2).mono ?_; rintro e w1 ⟨rfl, rfl⟩)
  go_ret
  exact ⟨rfl, H.out, Gt.refl _ _⟩
theorem Gm.getM (h : Gd F W M tk) (hg : Pb F W gb) (hm : Pb F W mb) (a : Int) (ha : 0 ≤ a ∧ a ≤ 65535) : Calls Try.prog 31 #[.int .u16 a, pt gb 0, pt mb 0] W fun e w' => e = .returned (.int .u8 (M.rdM a).1) ∧ Gd F w' (M.rdM a).2 tk ∧ Gt F W w' := by
  unfold Mach.rdM
  by_cases hp : isPort a = true
  · rw [if_pos hp]
    have hr : 53248 ≤ a ∧ a ≤ 57343 := by unfold isPort at hp; simpa using hp
    have ht : Int.tmod a 32 = a % 32 := Int.tmod_eq_emod_of_nonneg (by omega)
    have hb : portNo a < 32 := by unfold portNo; omega
    have hk : Int.tmod a 32 = ((portNo a : Nat) : Int) := by rw [ht]; unfold portNo; omega
    generalize portNo a = k at *
    by_cases e0 : k = 0
    · subst e0; exact Gm.getP0 h hm a hr.1 hr.2 hk
    by_cases e1 : k = 1
    · subst e1; exact Gm.getP1 h hm a hr.1 hr.2 hk
    by_cases e4 : k = 4
    · subst e4; exact Gm.getP4 h hm a hr.1 hr.2 hk
    by_cases e6 : k = 6
    · subst e6; exact Gm.getP6 h hm a hr.1 hr.2 hk
    by_cases e7 : k = 7
    · subst e7; exact Gm.getP7 h hm a hr.1 hr.2 hk
    by_cases e8 : k = 8
    · subst e8; exact Gm.getP8 h hm a hr.1 hr.2 hk
    by_cases e16 : k = 16
    · subst e16; exact Gm.getP16 h hm a hr.1 hr.2 hk
    by_cases e17 : k = 17
    · subst e17; exact Gm.getP17 h hm a hr.1 hr.2 hk
    have hd : M.portM k = (255, M) := by
      unfold Mach.portM
      split <;> first | rfl | (exfalso; omega)
    rw [hd]
    exact Gm.getPd h hm a hr.1 hr.2 k hk (by omega) (by omega) (by simp; omega) (by simp; omega) (by simp; omega) (by simp; omega) (by simp; omega) (by simp; omega) (by simp; omega) (by simp; omega)
  · rw [if_neg hp]
    have hr : ¬ (53248 ≤ a ∧ a ≤ 57343) := by unfold isPort at hp; simpa using hp
    by_cases h1 : a < 32768
    · exact Gm.getN0 h hg a ha.1 h1
    by_cases h2 : a < 49152
    · exact Gm.getN1 h hg a (by omega) h2
    by_cases h3 : a < 53248
    · exact Gm.getN2 h hg a (by omega) h3
    exact Gm.getN4 h hg a (by omega) ha.2
end
section
variable {F : Gx} {W : World} {M : Mach} {tk : Tk} {gb mb : Nat}
theorem Gm.getA0 (h : Gd F W M tk) (hm : Pb F W mb) (a : Int) (h1 : 0 ≤ a) (h2 : a < 32768) : Calls Try.prog 40 #[.int .u16 a, pt mb 0] W fun e w' => e = .returned (.int .u8 (M.lookA a)) ∧ W = w' := by
  obtain ⟨y1, e1, _⟩ := hm
  have c31 := h.at 31 F.S.ar rfl
  have HS := hid h.ar
  have hg := h.bx.z
  have hl : M.lookA a = romAt M.arom a := by unfold Mach.lookA; rw [if_pos h2]
  rw [hl]
  clear h hl
  go_enter Try.func40, Try.ntmps40
  go_wp2_with (first
    | (go_at_call 32; refine (Gm.reg0 a _ h1 h2).mono ?_; rintro e w1 ⟨rfl, rfl⟩)
    | (go_at_call 41; refine (Gm.rom_any _ _ a _ HS.out h1 (by omega)).mono ?_; rintro e w1 ⟨rfl, rfl⟩))
  go_ret
  exact ⟨rfl, rfl⟩
theorem Gm.getA1 (h : Gd F W M tk) (hm : Pb F W mb) (a : Int) (h1 : 32768 ≤ a) (h2 : a < 49152) : Calls Try.prog 40 #[.int .u16 a, pt mb 0] W fun e w' => e = .returned (.int .u8 (M.lookA a)) ∧ W = w' := by
  obtain ⟨y1, e1, _⟩ := hm
  obtain ⟨cap, e, _, _⟩ := h.ownV
  have c33 : W.cell? ⟨F.g, 33, none⟩ = some (.slice (some ⟨F.ow, 0, none⟩) 64 cap) := (h.at 33 F.S.ow rfl).trans (by rw [e])
  obtain ⟨ec, ez, ef⟩ := h.ownAt ((a - 32768) % 64) (by omega) (by omega)
  have hmd : Int.tmod (a - 32768) 64 = (a - 32768) % 64 := Int.tmod_eq_emod_of_nonneg (by omega)
  have hg := h.bx.z
  have hl : M.lookA a = bget M.own ((a - 32768) % 64) := by unfold Mach.lookA; rw [if_neg (by omega), if_pos h2]
  rw [hl]
  clear h e hl
  go_enter Try.func40, Try.ntmps40
  go_wp2_with (go_at_call 32; refine (Gm.reg1 a _ h1 h2).mono ?_; rintro e w1 ⟨rfl, rfl⟩)
  go_ret
  exact ⟨rfl, rfl⟩
theorem Gm.getA2 (h : Gd F W M tk) (hm : Pb F W mb) (a : Int) (h1 : 49152 ≤ a) (h2 : a < 53248) : Calls Try.prog 40 #[.int .u16 a, pt mb 0] W fun e w' => e = .returned (.int .u8 (M.lookA a)) ∧ W = w' := by
  obtain ⟨y1, e1, _⟩ := hm
  obtain ⟨cap, e, _, _⟩ := h.ramV
  have c32 : W.cell? ⟨F.g, 32, none⟩ = some (.slice (some ⟨F.ra, 0, none⟩) 128 cap) := (h.at 32 F.S.ra rfl).trans (by rw [e])
  obtain ⟨ec, ez, ef⟩ := h.ramAt ((a - 49152) % 128) (by omega) (by omega)
  have hmd : Int.tmod a 128 = (a - 49152) % 128 := by rw [Int.tmod_eq_emod_of_nonneg (by omega)]; omega
  have hg := h.bx.z
  have c67 := h.at 67 (.bool M.granted) rfl
  have hl : M.lookA a = if M.granted then bget M.ram ((a - 49152) % 128) else 255 := by unfold Mach.lookA; rw [if_neg (by omega), if_neg (by omega), if_pos h2]
  rw [hl]
  clear h e hl
  cases hgr : M.granted
  · rw [hgr] at c67
    simp only [Bool.false_eq_true, if_false]
    go_enter Try.func40, Try.ntmps40
    go_wp2_with (go_at_call 32; refine (Gm.reg2 a _ h1 h2).mono ?_; rintro e w1 ⟨rfl, rfl⟩)
    go_ret
    exact ⟨rfl, rfl⟩
  · rw [hgr] at c67
    simp only [if_true]
    go_enter Try.func40, Try.ntmps40
    go_wp2_with (go_at_call 32; refine (Gm.reg2 a _ h1 h2).mono ?_; rintro e w1 ⟨rfl, rfl⟩)
    go_ret
    exact ⟨rfl, rfl⟩
theorem Gm.getA4 (a : Int) (h1 : 57344 ≤ a) (h2 : a ≤ 65535) : Calls Try.prog 40 #[.int .u16 a, pt mb 0] W fun e w' => e = .returned (.int .u8 (M.lookA a)) ∧ W = w' := by
  have hl : M.lookA a = 255 := by unfold Mach.lookA; rw [if_neg (by omega), if_neg (by omega), if_neg (by omega)]
  rw [hl]
  go_enter Try.func40, Try.ntmps40
  go_wp2_with (go_at_call 32; refine (Gm.reg4 a _ h1 h2).mono ?_; rintro e w1 ⟨rfl, rfl⟩)
  go_ret
  exact ⟨rfl, rfl⟩
theorem Gm.getA24 (h : Gd F W M tk) (hm : Pb F W mb) (a : Int) (h1 : 53248 ≤ a) (h2 : a ≤ 57343) (hk : Int.tmod a 32 = 24) : Calls Try.prog 40 #[.int .u16 a, pt mb 0] W fun e w' => e = .returned (.int .u8 M.m0) ∧ Gd F w' { M with rung := false } tk ∧ Gt F W w' := by
  have hne := hm.2.2
  obtain ⟨y1, e1, _⟩ := hm
  have hne2 : mb ≠ F.g := fun e => hne (Or.inl e)
  have c1 := h.at 69 (.int .u8 M.m0) rfl
  have c2 := h.at 71 (.bool M.rung) rfl
  have c3 := h.bx.f 71
  have hg := h.bx.z
  have H := hid h
  clear h
  go_enter Try.func40, Try.ntmps40
  go_wp2_with (go_at_call 32; refine (Gm.reg3 a _ h1 h2).mono ?_; rintro e w1 ⟨rfl, rfl⟩)
  go_ret
  exact ⟨rfl, H.out.put 71 _ (by omega) rfl ⟨rfl, rfl, rfl, rfl, rfl⟩ { H.out.fit with main := H.out.fit.main }, Gt.set H.out.nd (Gt.refl _ _) _ _⟩
theorem Gm.getAp (a : Int) (h1 : 53248 ≤ a) (h2 : a ≤ 57343) (k : Int) (hk : Int.tmod a 32 = k) (k0 : 0 ≤ k) (k1 : k ≤ 31) (n24 : (k == 24) = false) : Calls Try.prog 40 #[.int .u16 a, pt mb 0] W fun e w' => e = .returned (.int .u8 255) ∧ W = w' := by
  go_enter Try.func40, Try.ntmps40
  go_wp2_with (go_at_call 32; refine (Gm.reg3 a _ h1 h2).mono ?_; rintro e w1 ⟨rfl, rfl⟩)
  go_ret
  exact ⟨rfl, rfl⟩
theorem gendR {e : Ending} {w' : World} {x : Value} (h : Gd F W M tk) (hx : e = .returned x ∧ W = w') : e = .returned x ∧ Gd F w' M tk ∧ Gt F W w' := by
  obtain ⟨h1, rfl⟩ := hx
  exact ⟨h1, h, Gt.refl _ _⟩
theorem Gm.getA (h : Gd F W M tk) (hm : Pb F W mb) (a : Int) (ha : 0 ≤ a ∧ a ≤ 65535) : Calls Try.prog 40 #[.int .u16 a, pt mb 0] W fun e w' => e = .returned (.int .u8 (M.rdA a).1) ∧ Gd F w' (M.rdA a).2 tk ∧ Gt F W w' := by
  unfold Mach.rdA
  by_cases hp : isPort a = true
  · rw [if_pos hp]
    have hr : 53248 ≤ a ∧ a ≤ 57343 := by unfold isPort at hp; simpa using hp
    have ht : Int.tmod a 32 = a % 32 := Int.tmod_eq_emod_of_nonneg (by omega)
    unfold Mach.portA
    have hpn : (portNo a = 24) ↔ a % 32 = 24 := by unfold portNo; omega
    by_cases e : portNo a = 24
    · rw [if_pos e]
      exact Gm.getA24 h hm a hr.1 hr.2 (by omega)
    · rw [if_neg e]
      exact (Gm.getAp a hr.1 hr.2 (a % 32) ht (by omega) (by omega) (by simp; omega)).mono (fun _ _ hx => gendR h hx)
  · rw [if_neg hp]
    have hr : ¬ (53248 ≤ a ∧ a ≤ 57343) := by unfold isPort at hp; simpa using hp
    by_cases h1 : a < 32768
    · exact (Gm.getA0 h hm a ha.1 h1).mono (fun _ _ hx => gendR h hx)
    by_cases h2 : a < 49152
    · exact (Gm.getA1 h hm a (by omega) h2).mono (fun _ _ hx => gendR h hx)
    by_cases h3 : a < 53248
    · exact (Gm.getA2 h hm a (by omega) h3).mono (fun _ _ hx => gendR h hx)
    exact (Gm.getA4 (M := M) a (by omega) ha.2).mono (fun _ _ hx => gendR h hx)
theorem Gm.getN0s (h : Gd F W M tk) (hg : Pb F W gb) (a : Int) (h1 : 0 ≤ a) (h2 : a < 32768) : Calls Try.prog 31 #[.int .u16 a, pt gb 0, pt mb 0] W fun e w' => e = .returned (.int .u8 (M.lookM a)) ∧ W = w' := by
  obtain ⟨y1, e1, _⟩ := hg
  have hp : isPort a = false := by unfold isPort; exact decide_eq_false (by omega)
  have hbr := hid (Gm.bare_any h a (by omega))
  rw [hp] at hbr
  clear h hp
  simp only [Bool.false_eq_true, if_false] at hbr
  go_enter Try.func31, Try.ntmps31
  go_wp2_with (first
    | (go_at_call 32; refine (Gm.reg0 a _ h1 h2).mono ?_; rintro e w1 ⟨rfl, rfl⟩)
    | (go_at_call 33; refine hbr.out.mono ?_; rintro e w1 ⟨rfl, rfl⟩))
  go_ret
  exact ⟨rfl, rfl⟩
/-- What the other processor comes to, as a value. -/
abbrev memA (mb gb : Nat) : Value := .agg #[fval 40 #[pt mb 0], fval 42 #[pt mb 0, pt gb 0]]
abbrev memM (mb hb lb gb : Nat) : Value := .agg #[fval 31 #[pt gb 0, pt mb 0], fval 38 #[pt mb 0, pt hb 0, pt lb 0, pt gb 0]]
theorem Gm.wordA (h : Gd F W M tk) (hm : Pb F W mb) : Calls Try.prog 53 #[memA mb gb, .int .u16 0] W fun e w' => e = .returned (.int .u16 (M.lookA 0 * 256 + M.lookA 1)) ∧ Below W.heap.size W w' := by
  have h0 := lookA_bd M 0
  have h1 := lookA_bd M 1
  have q0 := hid (fun o : Obj => Gm.getA0 (h.over o) (hm.kept (stA (st0 W) o)) 0 (by omega) (by omega))
  have q1 := hid (fun o : Obj => Gm.getA0 (h.over o) (hm.kept (stA (st0 W) o)) 1 (by omega) (by omega))
  generalize M.lookA 0 = x0 at *
  generalize M.lookA 1 = x1 at *
  clear h hm
  go_enter Try.func53, Try.ntmps53
  go_wp2_with (first
    | (go_at_call 40; refine (HQ1.out _).mono ?_; rintro e w2 ⟨rfl, rfl⟩)
    | (go_at_call 40; refine (q0.out _).mono ?_; rintro e w1 ⟨rfl, rfl⟩; have HQ1 := q1))
  go_ret
  exact ⟨rfl, stA (st0 W) _⟩
theorem Gm.wordM (h : Gd F W M tk) (hg : Pb F W gb) {hb lb : Nat} : Calls Try.prog 53 #[memM mb hb lb gb, .int .u16 0] W fun e w' => e = .returned (.int .u16 (M.lookM 0 * 256 + M.lookM 1)) ∧ Below W.heap.size W w' := by
  have h0 := lookM_bd M 0
  have h1 := lookM_bd M 1
  have q0 := hid (fun o : Obj => Gm.getN0s (mb := mb) (h.over o) (hg.kept (stA (st0 W) o)) 0 (by omega) (by omega))
  have q1 := hid (fun o : Obj => Gm.getN0s (mb := mb) (h.over o) (hg.kept (stA (st0 W) o)) 1 (by omega) (by omega))
  generalize M.lookM 0 = x0 at *
  generalize M.lookM 1 = x1 at *
  clear h hg
  go_enter Try.func53, Try.ntmps53
  go_wp2_with (first
    | (go_at_call 31; refine (HQ1.out _).mono ?_; rintro e w2 ⟨rfl, rfl⟩)
    | (go_at_call 31; refine (q0.out _).mono ?_; rintro e w1 ⟨rfl, rfl⟩; have HQ1 := q1))
  go_ret
  exact ⟨rfl, stA (st0 W) _⟩
end
/-- What the closure keeps: the game's place twice, two functions. -/
structure Pu (F : Gx) (W : World) (mb hb lb gb : Nat) : Prop where
  m : Pb F W mb
  g : Pb F W gb
  h : hb < W.heap.size ∧ W.cell? ⟨hb, 0, none⟩ = some (fval 36 #[]) ∧ ¬ F.T hb
  l : lb < W.heap.size ∧ W.cell? ⟨lb, 0, none⟩ = some (fval 37 #[]) ∧ ¬ F.T lb
section
variable {F : Gx} {W : World} {M : Mach} {tk : Tk} {mb hb lb gb : Nat}
theorem Pu.moved {w1 : World} (h : Pu F W mb hb lb gb) (ht : Gt F W w1) : Pu F w1 mb hb lb gb :=
  ⟨h.m.moved ht, h.g.moved ht, ⟨Nat.lt_of_lt_of_le h.h.1 (Mv.size ht), (Mv.cell ht h.h.1 h.h.2.2 0).trans h.h.2.1, h.h.2.2⟩, ⟨Nat.lt_of_lt_of_le h.l.1 (Mv.size ht), (Mv.cell ht h.l.1 h.l.2.2 0).trans h.l.2.1, h.l.2.2⟩⟩
theorem Pb.ne {b : Nat} (h : Pb F W b) : b ≠ F.g := fun e => h.2.2 (Or.inl e)
theorem Gm.high (x n : Int) (w : World) (hx : bd16 x) (hn : 0 ≤ n ∧ n ≤ 255) : Calls Try.prog 36 #[.int .u16 x, .int .u8 n] w fun e w' => e = .returned (.int .u16 (hiB x n)) ∧ w = w' := by
  obtain ⟨h0, h1⟩ := hx
  have hm : Int.tmod x 256 = x % 256 := Int.tmod_eq_emod_of_nonneg h0
  have hh : hiB x n = x % 256 + n * 256 := by unfold hiB; omega
  rw [hh]
  go_enter Try.func36, Try.ntmps36
  go_wp2
  go_ret
  exact ⟨rfl, rfl⟩
theorem Gm.low (x n : Int) (w : World) (hx : bd16 x) (hn : 0 ≤ n ∧ n ≤ 255) : Calls Try.prog 37 #[.int .u16 x, .int .u8 n] w fun e w' => e = .returned (.int .u16 (loB x n)) ∧ w = w' := by
  obtain ⟨h0, h1⟩ := hx
  have hm : Int.tdiv x 256 = x / 256 := Int.tdiv_eq_ediv_of_nonneg h0
  have hh : loB x n = x / 256 * 256 + n := rfl
  rw [hh]
  go_enter Try.func37, Try.ntmps37
  go_wp2
  go_ret
  exact ⟨rfl, rfl⟩
end
/-- What was made for the other processor lies at n. -/
structure AuxV (g n : Nat) (w : World) : Prop where
  z : n + 2 < w.heap.size
  a : w.cell? ⟨n, 0, none⟩ = some (pt g 0)
  b : w.cell? ⟨n + 2, 0, none⟩ = some (pt g 0)
structure MainV (g n : Nat) (w : World) : Prop where
  z : n + 4 < w.heap.size
  a : w.cell? ⟨n, 0, none⟩ = some (pt g 0)
  b : w.cell? ⟨n + 2, 0, none⟩ = some (pt g 0)
  c : w.cell? ⟨n + 3, 0, none⟩ = some (fval 36 #[])
  d : w.cell? ⟨n + 4, 0, none⟩ = some (fval 37 #[])
theorem Gm.aux_val (g : Nat) (w : World) : Calls Try.prog 19 #[pt g 0] w fun e w' => e = .returned (memA (w.heap.size + 2) w.heap.size) ∧ Below w.heap.size w w' ∧ AuxV g w.heap.size w' := by
  go_enter Try.func19, Try.ntmps19
  go_wp2
  refine bodyPost_ret (v := .agg _) (by simp [results, Try.results19, go_sem]) rfl ⟨rfl, ?_, ?_⟩
  · repeat (first | exact st0 _ | refine stA ?_ _ | refine Below.setCell ?_ (by simp) _)
  · exact ⟨by simp, by simp [go_sem], by simp [go_sem]⟩
theorem Gm.main_val (g : Nat) (w : World) : Calls Try.prog 18 #[pt g 0] w fun e w' => e = .returned (memM (w.heap.size + 2) (w.heap.size + 3) (w.heap.size + 4) w.heap.size) ∧ Below w.heap.size w w' ∧ MainV g w.heap.size w' := by
  go_enter Try.func18, Try.ntmps18
  go_wp2
  refine bodyPost_ret (v := .agg _) (by simp [results, Try.results18, go_sem]) rfl ⟨rfl, ?_, ?_⟩
  · repeat (first | exact st0 _ | refine stA ?_ _ | refine Below.setCell ?_ (by simp) _)
  · exact ⟨by simp, by simp [go_sem], by simp [go_sem], by simp [go_sem], by simp [go_sem]⟩
section
variable {F : Gx} {W : World} {M : Mach} {tk : Tk} {gb mb : Nat}
theorem Gd.fresh (h : Gd F W M tk) {n : Nat} (hn : W.heap.size ≤ n) : ¬ F.T n := fun ht => by
  have h1 := h.bx.z
  obtain ⟨_, _, _, h2⟩ := h.ramV
  obtain ⟨_, _, _, h3⟩ := h.ownV
  obtain ⟨_, _, _, h4⟩ := h.viV
  have h2 := h2.z
  have h3 := h3.z
  have h4 := h4.z
  rcases ht with e | e | e | e <;> omega
theorem AuxV.pb {w1 : World} (h : Gd F W M tk) (hv : AuxV F.g W.heap.size w1) : Pb F w1 W.heap.size ∧ Pb F w1 (W.heap.size + 2) :=
  ⟨⟨by have := hv.z; omega, hv.a, h.fresh (Nat.le_refl _)⟩, ⟨hv.z, hv.b, h.fresh (by omega)⟩⟩
theorem MainV.pu {w1 : World} (h : Gd F W M tk) (hv : MainV F.g W.heap.size w1) : Pu F w1 (W.heap.size + 2) (W.heap.size + 3) (W.heap.size + 4) W.heap.size :=
  have hz := hv.z
  ⟨⟨by omega, hv.b, h.fresh (by omega)⟩, ⟨by omega, hv.a, h.fresh (Nat.le_refl _)⟩, ⟨by omega, hv.c, h.fresh (by omega)⟩, ⟨hv.z, hv.d, h.fresh (by omega)⟩⟩
set_option maxHeartbeats 800000 in
theorem Gm.begin_A (h : Gd F W M tk) (hm : Pb F W mb) : Calls Try.prog 28 #[memA mb gb] W fun e w' => e = .returned (.agg (begL (M.lookA 0 * 256 + M.lookA 1)).toArray) ∧ Below W.heap.size W w' := by
  have HW := hid (fun (o o' : Obj) => Gm.wordA (gb := gb) ((h.over o).over o') (hm.kept (stA (stA (st0 W) o) o')))
  generalize M.lookA 0 * 256 + M.lookA 1 = x at *
  clear h hm
  go_enter Try.func28, Try.ntmps28
  go_wp2_with (first
    | (go_at_call 53; refine (HW.out _ _).mono ?_; rintro e w1 ⟨rfl, hb1⟩; have HX := hid ((Bx.new (W.alloc _) (begL 0) 26 (b := W.heap.size + 1) (by simp)).kept hb1); have HB1 := hid (stp (stA (stA (st0 W) _) _) hb1); clear hb1)
    | (refine wpList_store_mid rfl 26 _ _ rfl (W.heap.size + 1) 0 _ rfl rfl (Bx.there HX.out 0 15 (by simp [begL])) info_cpu (beg_one _) ?_
       refine Pl.cutL (fun Y => Below W.heap.size W Y ∧ Bx Y (W.heap.size + 1) (begL x)) ⟨Bl.puts HB1.out (by omega) _, HX.out.puts 0 (begL x) (by simp [begL])⟩ ?_
       rintro Y ⟨hY1, hY2⟩
       have HY1 := hid hY1
       have HY2 := hid hY2
       clear hY1 hY2))
  exact bodyPost_ret (v := .agg _) (by simp only [results, Try.results28]; simp; exact Pl.res (load_beg HY2.out)) rfl ⟨rfl, HY1.out⟩
set_option maxHeartbeats 800000 in
theorem Gm.begin_M (h : Gd F W M tk) (hg : Pb F W gb) {hb lb : Nat} : Calls Try.prog 28 #[memM mb hb lb gb] W fun e w' => e = .returned (.agg (begL (M.lookM 0 * 256 + M.lookM 1)).toArray) ∧ Below W.heap.size W w' := by
  have HW := hid (fun (o o' : Obj) => Gm.wordM (mb := mb) (hb := hb) (lb := lb) ((h.over o).over o') (hg.kept (stA (stA (st0 W) o) o')))
  generalize M.lookM 0 * 256 + M.lookM 1 = x at *
  clear h hg
  go_enter Try.func28, Try.ntmps28
  go_wp2_with (first
    | (go_at_call 53; refine (HW.out _ _).mono ?_; rintro e w1 ⟨rfl, hb1⟩; have HX := hid ((Bx.new (W.alloc _) (begL 0) 26 (b := W.heap.size + 1) (by simp)).kept hb1); have HB1 := hid (stp (stA (stA (st0 W) _) _) hb1); clear hb1)
    | (refine wpList_store_mid rfl 26 _ _ rfl (W.heap.size + 1) 0 _ rfl rfl (Bx.there HX.out 0 15 (by simp [begL])) info_cpu (beg_one _) ?_
       refine Pl.cutL (fun Y => Below W.heap.size W Y ∧ Bx Y (W.heap.size + 1) (begL x)) ⟨Bl.puts HB1.out (by omega) _, HX.out.puts 0 (begL x) (by simp [begL])⟩ ?_
       rintro Y ⟨hY1, hY2⟩
       have HY1 := hid hY1
       have HY2 := hid hY2
       clear hY1 hY2))
  exact bodyPost_ret (v := .agg _) (by simp only [results, Try.results28]; simp; exact Pl.res (load_beg HY2.out)) rfl ⟨rfl, HY1.out⟩
end
section
variable {F : Gx} {W : World} {M : Mach} {tk : Tk} {mb hb lb gb : Nat}
theorem Gx.putAux (F : Gx) (M : Mach) (tk : Tk) (c : C.Cpu) : putL (F.cells M tk) 15 (cpuL c) = F.cells { M with aux := c } tk := by
  unfold Gx.cells machL
  simp only [List.append_assoc]
  exact putL_mid _ (cpuL c) (cpuL M.aux) (cpuL M.main) rfl
theorem Gx.putMain (F : Gx) (M : Mach) (tk : Tk) (c : C.Cpu) : putL (F.cells M tk) 0 (cpuL c) = F.cells { M with main := c } tk := by
  unfold Gx.cells machL
  rw [List.append_assoc]
  exact putL_mid _ (cpuL c) (cpuL M.main) [] rfl
set_option maxHeartbeats 3200000 in
theorem Gm.putP16f (h : Gd F W M tk) (hm : Pu F W mb hb lb gb) (a n : Int) (h1 : 53248 ≤ a) (h2 : a ≤ 57343) (hn : 0 ≤ n ∧ n ≤ 255) (hk : Int.tmod a 32 = 16) (hh : M.held = false) : Calls Try.prog 38 #[.int .u16 a, .int .u8 n, pt mb 0, pt hb 0, pt lb 0, pt gb 0] W fun e w' => e = .returned (.tuple #[]) ∧ Gd F w' (M.putM 16 n) tk ∧ Gt F W w' := by
  obtain ⟨y1, e1, x1⟩ := hm.m
  have HNE : Hid (mb ≠ F.g ∧ gb ≠ F.g) := hid ⟨hm.m.ne, hm.g.ne⟩
  have HPU := hid hm
  have c67 := h.at 67 (.bool M.granted) rfl
  have c68 := h.at 68 (.bool M.held) rfl
  rw [hh] at c68
  have ff := h.bx.f
  have hg := h.bx.z
  obtain ⟨r, q1, r0, r1⟩ : ∃ r, Int.tmod n 2 = r ∧ 0 ≤ r ∧ r ≤ 1 := ⟨_, rfl, by rw [Int.tmod_eq_emod_of_nonneg hn.1]; omega⟩
  have E1 : Hid (odd n = (r == 1)) := hid (by rw [← q1, Int.tmod_eq_emod_of_nonneg hn.1]; rfl)
  obtain ⟨m, hmq, hm0, hm1⟩ : ∃ m, Int.tdiv n 2 = m ∧ 0 ≤ m ∧ m ≤ 127 := ⟨_, rfl, by rw [Int.tdiv_eq_ediv_of_nonneg hn.1]; omega⟩
  have hwm : IntKind.u8.wrap m = m := by simp [IntKind.wrap, IntKind.bits, IntKind.signed] <;> omega
  have hmn : m = n / 2 := by rw [← hmq, Int.tdiv_eq_ediv_of_nonneg hn.1]
  obtain ⟨z, q2, z0, z1⟩ : ∃ z, Int.tmod m 2 = z ∧ 0 ≤ z ∧ z ≤ 1 := ⟨_, rfl, by rw [Int.tmod_eq_emod_of_nonneg hm0]; omega⟩
  have E2 : Hid (odd (n / 2) = (z == 1)) := hid (by rw [← q2, Int.tmod_eq_emod_of_nonneg hm0, hmn]; rfl)
  have EL : Hid (M.putM 16 n = M.grant n) := hid (by show M.letGo n = _; unfold Mach.letGo; rw [hh]; rfl)
  have H := hid h
  have HH := hid hh
  clear h hm hh hmn
  go_enter Try.func38, Try.ntmps38
  go_wp2_with (go_at_call 32; refine (Gm.reg3 a _ h1 h2).mono ?_; rintro e w1 ⟨rfl, rfl⟩)
  refine wp_region_held_drew (S := fun w' => w'.cell? ⟨mb, 0, none⟩ = some (pt F.g 0) ∧ w'.cell? ⟨gb, 0, none⟩ = some (pt F.g 0)) (by kernel_rfl) (⟨e1, HPU.out.g.2.1⟩) ?_
  intro hS
  refine wpAnyH_take (i := 0) (oi := { dst := some 230, op := _, type := _, pos := _, after := _, guard := none }) (v := ?_) rfl (by kernel_rfl) (by kernel_rfl) (by kernel_rfl) (fun _ _ _ h => h) (Or.inl ⟨by rfl, ?_⟩) hS ?_
  rotate_left 1
  focus (intro w hSw; (try dsimp only at hSw); go_simp; try (with_reducible rfl))
  simp only [Act.put, List.setIfInBounds_toArray, List.set_cons_zero, List.set_cons_succ]
  refine wpAnyH_take (i := 1) (oi := { dst := some 231, op := _, type := _, pos := _, after := _, guard := none }) (v := ?_) rfl (by kernel_rfl) (by kernel_rfl) (by kernel_rfl) (fun _ _ _ h => h) (Or.inl ⟨by rfl, ?_⟩) hS ?_
  rotate_left 1
  focus (intro w hSw; (try dsimp only at hSw); go_simp; try (with_reducible rfl))
  simp only [Act.put, List.setIfInBounds_toArray, List.set_cons_zero, List.set_cons_succ]
  refine wpAnyH_take (i := 2) (oi := { dst := some 232, op := _, type := _, pos := _, after := _, guard := none }) (v := ?_) rfl (by kernel_rfl) (by kernel_rfl) (by kernel_rfl) (fun _ _ _ h => h) (Or.inl ⟨by rfl, ?_⟩) hS ?_
  rotate_left 1
  focus (intro w hSw; (try dsimp only at hSw); go_simp; try (with_reducible rfl))
  simp only [Act.put, List.setIfInBounds_toArray, List.set_cons_zero, List.set_cons_succ]
  refine wpAnyH_take (i := 3) (oi := { dst := some 233, op := _, type := _, pos := _, after := _, guard := none }) (v := ?_) rfl (by kernel_rfl) (by kernel_rfl) (by kernel_rfl) (fun _ _ _ h => h) (Or.inl ⟨by rfl, ?_⟩) hS ?_
  rotate_left 1
  focus (intro w hSw; (try dsimp only at hSw); go_simp; try (with_reducible rfl))
  simp only [Act.put, List.setIfInBounds_toArray, List.set_cons_zero, List.set_cons_succ]
  refine wpAnyH_take (i := 4) (oi := { dst := some 234, op := _, type := _, pos := _, after := _, guard := none }) (v := ?_) rfl (by kernel_rfl) (by kernel_rfl) (by kernel_rfl) (fun _ _ _ h => h) (Or.inl ⟨by rfl, ?_⟩) hS ?_
  rotate_left 1
  focus (intro w hSw; (try dsimp only at hSw); go_simp; try (with_reducible rfl))
  simp only [Act.put, List.setIfInBounds_toArray, List.set_cons_zero, List.set_cons_succ]
  refine wpAnyH_take (i := 5) (oi := { dst := some 235, op := _, type := _, pos := _, after := _, guard := none }) (v := ?_) rfl (by kernel_rfl) (by kernel_rfl) (by kernel_rfl) (fun _ _ _ h => h) (Or.inl ⟨by rfl, ?_⟩) hS ?_
  rotate_left 1
  focus (intro w hSw; (try dsimp only at hSw); go_simp; try (with_reducible rfl))
  simp only [Act.put, List.setIfInBounds_toArray, List.set_cons_zero, List.set_cons_succ]
  refine wpAnyH_take (i := 6) (oi := { dst := some 236, op := _, type := _, pos := _, after := _, guard := none }) (v := ?_) rfl (by kernel_rfl) (by kernel_rfl) (by kernel_rfl) (fun _ _ _ h => h) (Or.inl ⟨by rfl, ?_⟩) hS ?_
  rotate_left 1
  focus (intro w hSw; (try dsimp only at hSw); go_simp; try (with_reducible rfl))
  simp only [Act.put, List.setIfInBounds_toArray, List.set_cons_zero, List.set_cons_succ]
  refine wpAnyH_take (i := 7) (oi := { dst := some 237, op := _, type := _, pos := _, after := _, guard := none }) (v := ?_) rfl (by kernel_rfl) (by kernel_rfl) (by kernel_rfl) (fun _ _ _ h => h) (Or.inl ⟨by rfl, ?_⟩) hS ?_
  rotate_left 1
  focus (intro w hSw; (try dsimp only at hSw); go_simp; try (with_reducible rfl))
  simp only [Act.put, List.setIfInBounds_toArray, List.set_cons_zero, List.set_cons_succ]
  refine wpAnyH_take (i := 8) (oi := { dst := some 238, op := _, type := _, pos := _, after := _, guard := none }) (v := ?_) rfl (by kernel_rfl) (by kernel_rfl) (by kernel_rfl) (fun _ _ _ h => h) (Or.inl ⟨by rfl, ?_⟩) hS ?_
  rotate_left 1
  focus (intro w hSw; (try dsimp only at hSw); go_simp; try (with_reducible rfl))
  simp only [Act.put, List.setIfInBounds_toArray, List.set_cons_zero, List.set_cons_succ]
  refine wpAnyH_take (i := 9) (oi := { dst := some 239, op := _, type := _, pos := _, after := _, guard := none }) (v := ?_) rfl (by kernel_rfl) (by kernel_rfl) (by kernel_rfl) (fun _ _ _ h => h) (Or.inl ⟨by rfl, ?_⟩) hS ?_
  rotate_left 1
  focus (intro w hSw; (try dsimp only at hSw); go_simp; try (with_reducible rfl))
  simp only [Act.put, List.setIfInBounds_toArray, List.set_cons_zero, List.set_cons_succ]
  refine wpAnyH_take (i := 10) (oi := { dst := some 240, op := _, type := _, pos := _, after := _, guard := none }) (v := ?_) rfl (by kernel_rfl) (by kernel_rfl) (by kernel_rfl) (fun _ _ _ h => h) (Or.inl ⟨by rfl, ?_⟩) hS ?_
  rotate_left 1
  focus (intro w hSw; (try dsimp only at hSw); go_simp; try (with_reducible rfl))
  simp only [Act.put, List.setIfInBounds_toArray, List.set_cons_zero, List.set_cons_succ]
  refine wpAnyH_ready (rs := [11]) (by kernel_rfl) (by simp) ?_
  refine AllReadyH.cons (o := { dst := none, op := _, type := _, pos := _, after := _, guard := none }) rfl (fun K hK => ?_) AllReadyH.nil
  go_simp
  refine hK.out _ _ (⟨(World.cell?_of_block (heap_set_far HNE.out.1)).trans hS.1, (World.cell?_of_block (heap_set_far HNE.out.2)).trans hS.2⟩) (fun _ => ?_)
  clear hK K
  try simp only [Act.put, List.setIfInBounds_toArray, List.set_cons_zero, List.set_cons_succ]
  have hS1 : (W.drew.setCell ⟨F.g, 67, none⟩ (.bool (r == 1))).cell? ⟨mb, 0, none⟩ = some (pt F.g 0) ∧ (W.drew.setCell ⟨F.g, 67, none⟩ (.bool (r == 1))).cell? ⟨gb, 0, none⟩ = some (pt F.g 0) := ⟨(World.cell?_of_block (heap_set_far HNE.out.1)).trans hS.1, (World.cell?_of_block (heap_set_far HNE.out.2)).trans hS.2⟩
  clear hS
  have hS := hS1
  clear hS1
  refine wpAnyH_take (i := 12) (oi := { dst := some 241, op := _, type := _, pos := _, after := _, guard := none }) (v := ?_) rfl (by kernel_rfl) (by kernel_rfl) (by kernel_rfl) (fun _ _ _ h => h) (Or.inl ⟨by rfl, ?_⟩) hS ?_
  rotate_left 1
  focus (intro w hSw; (try dsimp only at hSw); go_simp; try (with_reducible rfl))
  simp only [Act.put, List.setIfInBounds_toArray, List.set_cons_zero, List.set_cons_succ]
  refine wpAnyH_take (i := 13) (oi := { dst := some 242, op := _, type := _, pos := _, after := _, guard := none }) (v := ?_) rfl (by kernel_rfl) (by kernel_rfl) (by kernel_rfl) (fun _ _ _ h => h) (Or.inl ⟨by rfl, ?_⟩) hS ?_
  rotate_left 1
  focus (intro w hSw; (try dsimp only at hSw); go_simp; try (with_reducible rfl))
  simp only [Act.put, List.setIfInBounds_toArray, List.set_cons_zero, List.set_cons_succ]
  refine wpAnyH_ready (rs := [14]) (by kernel_rfl) (by simp) ?_
  refine AllReadyH.cons (o := { dst := none, op := _, type := _, pos := _, after := _, guard := none }) rfl (fun K hK => ?_) AllReadyH.nil
  go_simp
  refine hK.out _ _ (⟨(World.cell?_of_block (heap_set_far HNE.out.1)).trans hS.1, (World.cell?_of_block (heap_set_far HNE.out.2)).trans hS.2⟩) (fun _ => ?_)
  clear hK K
  try simp only [Act.put, List.setIfInBounds_toArray, List.set_cons_zero, List.set_cons_succ]
  refine wpAnyH_done (by kernel_rfl) ?_ _
  have hp : Gd F ((W.drew.setCell ⟨F.g, 67, none⟩ (.bool (r == 1))).setCell ⟨F.g, 68, none⟩ (.bool (z == 1))) (M.grant n) tk := by
    have hx := (H.out.drew.put (M' := { M with granted := odd n }) (tk' := tk) 67 (.bool (odd n)) (by omega) rfl ⟨rfl, rfl, rfl, rfl, rfl⟩ { H.out.fit with main := H.out.fit.main }).put (M' := M.grant n) (tk' := tk) 68 (.bool (odd (n / 2))) (by omega) rfl ⟨rfl, rfl, rfl, rfl, rfl⟩ (show Mach.fit { M with granted := odd n, held := odd (n / 2) } from { H.out.fit with main := H.out.fit.main })
    rw [E1.out, E2.out] at hx
    exact hx
  have ht := Gt.set H.out.nd (Gt.set H.out.nd (Mv.drew (Gt.refl F W)) 67 (.bool (r == 1))) 68 (.bool (z == 1))
  refine Pl.cutE (fun Y => Gd F Y (M.grant n) tk ∧ Gt F W Y ∧ Pu F Y mb hb lb gb) ⟨hp, ht, HPU.out.moved ht⟩ ?_
  rintro Y ⟨hY1, hY2, hY3⟩
  have HY1 := hid hY1
  have HY2 := hid hY2
  have HY3 := hid hY3
  clear hY1 hY2 hY3 hp ht hS c67 c68 ff hg e1 y1
  go_wp2
  go_end0
  rw [EL.out]
  exact ⟨rfl, HY1.out, HY2.out⟩
set_option maxHeartbeats 3200000 in
theorem Gm.putP16t (h : Gd F W M tk) (hm : Pu F W mb hb lb gb) (a n : Int) (h1 : 53248 ≤ a) (h2 : a ≤ 57343) (hn : 0 ≤ n ∧ n ≤ 255) (hk : Int.tmod a 32 = 16) (hh : M.held = true) (hs : n / 2 % 2 = 1) : Calls Try.prog 38 #[.int .u16 a, .int .u8 n, pt mb 0, pt hb 0, pt lb 0, pt gb 0] W fun e w' => e = .returned (.tuple #[]) ∧ Gd F w' (M.putM 16 n) tk ∧ Gt F W w' := by
  obtain ⟨y1, e1, x1⟩ := hm.m
  have HNE : Hid (mb ≠ F.g ∧ gb ≠ F.g) := hid ⟨hm.m.ne, hm.g.ne⟩
  have HPU := hid hm
  have c67 := h.at 67 (.bool M.granted) rfl
  have c68 := h.at 68 (.bool M.held) rfl
  rw [hh] at c68
  have ff := h.bx.f
  have hg := h.bx.z
  obtain ⟨r, q1, r0, r1⟩ : ∃ r, Int.tmod n 2 = r ∧ 0 ≤ r ∧ r ≤ 1 := ⟨_, rfl, by rw [Int.tmod_eq_emod_of_nonneg hn.1]; omega⟩
  have E1 : Hid (odd n = (r == 1)) := hid (by rw [← q1, Int.tmod_eq_emod_of_nonneg hn.1]; rfl)
  obtain ⟨m, hmq, hm0, hm1⟩ : ∃ m, Int.tdiv n 2 = m ∧ 0 ≤ m ∧ m ≤ 127 := ⟨_, rfl, by rw [Int.tdiv_eq_ediv_of_nonneg hn.1]; omega⟩
  have hwm : IntKind.u8.wrap m = m := by simp [IntKind.wrap, IntKind.bits, IntKind.signed] <;> omega
  have hmn : m = n / 2 := by rw [← hmq, Int.tdiv_eq_ediv_of_nonneg hn.1]
  have q2 : Int.tmod m 2 = 1 := by rw [Int.tmod_eq_emod_of_nonneg hm0, hmn]; exact hs
  have E2 : Hid (odd (n / 2) = true) := hid (by unfold odd; rw [hs]; rfl)
  have EL : Hid (M.putM 16 n = M.grant n) := hid (by show M.letGo n = _; unfold Mach.letGo; rw [hh, E2.out]; rfl)
  have H := hid h
  have HH := hid hh
  clear h hm hh hmn hs
  go_enter Try.func38, Try.ntmps38
  go_wp2_with (go_at_call 32; refine (Gm.reg3 a _ h1 h2).mono ?_; rintro e w1 ⟨rfl, rfl⟩)
  refine wp_region_held_drew (S := fun w' => w'.cell? ⟨mb, 0, none⟩ = some (pt F.g 0) ∧ w'.cell? ⟨gb, 0, none⟩ = some (pt F.g 0)) (by kernel_rfl) (⟨e1, HPU.out.g.2.1⟩) ?_
  intro hS
  refine wpAnyH_take (i := 0) (oi := { dst := some 230, op := _, type := _, pos := _, after := _, guard := none }) (v := ?_) rfl (by kernel_rfl) (by kernel_rfl) (by kernel_rfl) (fun _ _ _ h => h) (Or.inl ⟨by rfl, ?_⟩) hS ?_
  rotate_left 1
  focus (intro w hSw; (try dsimp only at hSw); go_simp; try (with_reducible rfl))
  simp only [Act.put, List.setIfInBounds_toArray, List.set_cons_zero, List.set_cons_succ]
  refine wpAnyH_take (i := 1) (oi := { dst := some 231, op := _, type := _, pos := _, after := _, guard := none }) (v := ?_) rfl (by kernel_rfl) (by kernel_rfl) (by kernel_rfl) (fun _ _ _ h => h) (Or.inl ⟨by rfl, ?_⟩) hS ?_
  rotate_left 1
  focus (intro w hSw; (try dsimp only at hSw); go_simp; try (with_reducible rfl))
  simp only [Act.put, List.setIfInBounds_toArray, List.set_cons_zero, List.set_cons_succ]
  refine wpAnyH_take (i := 2) (oi := { dst := some 232, op := _, type := _, pos := _, after := _, guard := none }) (v := ?_) rfl (by kernel_rfl) (by kernel_rfl) (by kernel_rfl) (fun _ _ _ h => h) (Or.inl ⟨by rfl, ?_⟩) hS ?_
  rotate_left 1
  focus (intro w hSw; (try dsimp only at hSw); go_simp; try (with_reducible rfl))
  simp only [Act.put, List.setIfInBounds_toArray, List.set_cons_zero, List.set_cons_succ]
  refine wpAnyH_take (i := 3) (oi := { dst := some 233, op := _, type := _, pos := _, after := _, guard := none }) (v := ?_) rfl (by kernel_rfl) (by kernel_rfl) (by kernel_rfl) (fun _ _ _ h => h) (Or.inl ⟨by rfl, ?_⟩) hS ?_
  rotate_left 1
  focus (intro w hSw; (try dsimp only at hSw); go_simp; try (with_reducible rfl))
  simp only [Act.put, List.setIfInBounds_toArray, List.set_cons_zero, List.set_cons_succ]
  refine wpAnyH_take (i := 4) (oi := { dst := some 234, op := _, type := _, pos := _, after := _, guard := none }) (v := ?_) rfl (by kernel_rfl) (by kernel_rfl) (by kernel_rfl) (fun _ _ _ h => h) (Or.inl ⟨by rfl, ?_⟩) hS ?_
  rotate_left 1
  focus (intro w hSw; (try dsimp only at hSw); go_simp; try (with_reducible rfl))
  simp only [Act.put, List.setIfInBounds_toArray, List.set_cons_zero, List.set_cons_succ]
  refine wpAnyH_take (i := 5) (oi := { dst := some 235, op := _, type := _, pos := _, after := _, guard := none }) (v := ?_) rfl (by kernel_rfl) (by kernel_rfl) (by kernel_rfl) (fun _ _ _ h => h) (Or.inl ⟨by rfl, ?_⟩) hS ?_
  rotate_left 1
  focus (intro w hSw; (try dsimp only at hSw); go_simp; try (with_reducible rfl))
  simp only [Act.put, List.setIfInBounds_toArray, List.set_cons_zero, List.set_cons_succ]
  refine wpAnyH_take (i := 6) (oi := { dst := some 236, op := _, type := _, pos := _, after := _, guard := none }) (v := ?_) rfl (by kernel_rfl) (by kernel_rfl) (by kernel_rfl) (fun _ _ _ h => h) (Or.inl ⟨by rfl, ?_⟩) hS ?_
  rotate_left 1
  focus (intro w hSw; (try dsimp only at hSw); go_simp; try (with_reducible rfl))
  simp only [Act.put, List.setIfInBounds_toArray, List.set_cons_zero, List.set_cons_succ]
  refine wpAnyH_take (i := 7) (oi := { dst := some 237, op := _, type := _, pos := _, after := _, guard := none }) (v := ?_) rfl (by kernel_rfl) (by kernel_rfl) (by kernel_rfl) (fun _ _ _ h => h) (Or.inl ⟨by rfl, ?_⟩) hS ?_
  rotate_left 1
  focus (intro w hSw; (try dsimp only at hSw); go_simp; try (with_reducible rfl))
  simp only [Act.put, List.setIfInBounds_toArray, List.set_cons_zero, List.set_cons_succ]
  refine wpAnyH_take (i := 8) (oi := { dst := some 238, op := _, type := _, pos := _, after := _, guard := none }) (v := ?_) rfl (by kernel_rfl) (by kernel_rfl) (by kernel_rfl) (fun _ _ _ h => h) (Or.inl ⟨by rfl, ?_⟩) hS ?_
  rotate_left 1
  focus (intro w hSw; (try dsimp only at hSw); go_simp; try (with_reducible rfl))
  simp only [Act.put, List.setIfInBounds_toArray, List.set_cons_zero, List.set_cons_succ]
  refine wpAnyH_take (i := 9) (oi := { dst := some 239, op := _, type := _, pos := _, after := _, guard := none }) (v := ?_) rfl (by kernel_rfl) (by kernel_rfl) (by kernel_rfl) (fun _ _ _ h => h) (Or.inl ⟨by rfl, ?_⟩) hS ?_
  rotate_left 1
  focus (intro w hSw; (try dsimp only at hSw); go_simp; try (with_reducible rfl))
  simp only [Act.put, List.setIfInBounds_toArray, List.set_cons_zero, List.set_cons_succ]
  refine wpAnyH_take (i := 10) (oi := { dst := some 240, op := _, type := _, pos := _, after := _, guard := none }) (v := ?_) rfl (by kernel_rfl) (by kernel_rfl) (by kernel_rfl) (fun _ _ _ h => h) (Or.inl ⟨by rfl, ?_⟩) hS ?_
  rotate_left 1
  focus (intro w hSw; (try dsimp only at hSw); go_simp; try (with_reducible rfl))
  simp only [Act.put, List.setIfInBounds_toArray, List.set_cons_zero, List.set_cons_succ]
  refine wpAnyH_ready (rs := [11]) (by kernel_rfl) (by simp) ?_
  refine AllReadyH.cons (o := { dst := none, op := _, type := _, pos := _, after := _, guard := none }) rfl (fun K hK => ?_) AllReadyH.nil
  go_simp
  refine hK.out _ _ (⟨(World.cell?_of_block (heap_set_far HNE.out.1)).trans hS.1, (World.cell?_of_block (heap_set_far HNE.out.2)).trans hS.2⟩) (fun _ => ?_)
  clear hK K
  try simp only [Act.put, List.setIfInBounds_toArray, List.set_cons_zero, List.set_cons_succ]
  have hS1 : (W.drew.setCell ⟨F.g, 67, none⟩ (.bool (r == 1))).cell? ⟨mb, 0, none⟩ = some (pt F.g 0) ∧ (W.drew.setCell ⟨F.g, 67, none⟩ (.bool (r == 1))).cell? ⟨gb, 0, none⟩ = some (pt F.g 0) := ⟨(World.cell?_of_block (heap_set_far HNE.out.1)).trans hS.1, (World.cell?_of_block (heap_set_far HNE.out.2)).trans hS.2⟩
  clear hS
  have hS := hS1
  clear hS1
  refine wpAnyH_take (i := 12) (oi := { dst := some 241, op := _, type := _, pos := _, after := _, guard := none }) (v := ?_) rfl (by kernel_rfl) (by kernel_rfl) (by kernel_rfl) (fun _ _ _ h => h) (Or.inl ⟨by rfl, ?_⟩) hS ?_
  rotate_left 1
  focus (intro w hSw; (try dsimp only at hSw); go_simp; try (with_reducible rfl))
  simp only [Act.put, List.setIfInBounds_toArray, List.set_cons_zero, List.set_cons_succ]
  refine wpAnyH_take (i := 13) (oi := { dst := some 242, op := _, type := _, pos := _, after := _, guard := none }) (v := ?_) rfl (by kernel_rfl) (by kernel_rfl) (by kernel_rfl) (fun _ _ _ h => h) (Or.inl ⟨by rfl, ?_⟩) hS ?_
  rotate_left 1
  focus (intro w hSw; (try dsimp only at hSw); go_simp; try (with_reducible rfl))
  simp only [Act.put, List.setIfInBounds_toArray, List.set_cons_zero, List.set_cons_succ]
  refine wpAnyH_ready (rs := [14]) (by kernel_rfl) (by simp) ?_
  refine AllReadyH.cons (o := { dst := none, op := _, type := _, pos := _, after := _, guard := none }) rfl (fun K hK => ?_) AllReadyH.nil
  go_simp
  refine hK.out _ _ (⟨(World.cell?_of_block (heap_set_far HNE.out.1)).trans hS.1, (World.cell?_of_block (heap_set_far HNE.out.2)).trans hS.2⟩) (fun _ => ?_)
  clear hK K
  try simp only [Act.put, List.setIfInBounds_toArray, List.set_cons_zero, List.set_cons_succ]
  refine wpAnyH_done (by kernel_rfl) ?_ _
  have hp : Gd F ((W.drew.setCell ⟨F.g, 67, none⟩ (.bool (r == 1))).setCell ⟨F.g, 68, none⟩ (.bool true)) (M.grant n) tk := by
    have hx := (H.out.drew.put (M' := { M with granted := odd n }) (tk' := tk) 67 (.bool (odd n)) (by omega) rfl ⟨rfl, rfl, rfl, rfl, rfl⟩ { H.out.fit with main := H.out.fit.main }).put (M' := M.grant n) (tk' := tk) 68 (.bool (odd (n / 2))) (by omega) rfl ⟨rfl, rfl, rfl, rfl, rfl⟩ (show Mach.fit { M with granted := odd n, held := odd (n / 2) } from { H.out.fit with main := H.out.fit.main })
    rw [E1.out, E2.out] at hx
    exact hx
  have ht := Gt.set H.out.nd (Gt.set H.out.nd (Mv.drew (Gt.refl F W)) 67 (.bool (r == 1))) 68 (.bool true)
  refine Pl.cutE (fun Y => Gd F Y (M.grant n) tk ∧ Gt F W Y ∧ Pu F Y mb hb lb gb) ⟨hp, ht, HPU.out.moved ht⟩ ?_
  rintro Y ⟨hY1, hY2, hY3⟩
  have HY1 := hid hY1
  have HY2 := hid hY2
  have HY3 := hid hY3
  clear hY1 hY2 hY3 hp ht hS c67 c68 ff hg e1 y1
  go_wp2
  go_end0
  rw [EL.out]
  exact ⟨rfl, HY1.out, HY2.out⟩
set_option maxHeartbeats 3200000 in
theorem Gm.putP16g (h : Gd F W M tk) (hm : Pu F W mb hb lb gb) (a n : Int) (h1 : 53248 ≤ a) (h2 : a ≤ 57343) (hn : 0 ≤ n ∧ n ≤ 255) (hk : Int.tmod a 32 = 16) (hh : M.held = true) (hs : n / 2 % 2 = 0) : Calls Try.prog 38 #[.int .u16 a, .int .u8 n, pt mb 0, pt hb 0, pt lb 0, pt gb 0] W fun e w' => e = .returned (.tuple #[]) ∧ Gd F w' (M.putM 16 n) tk ∧ Gt F W w' := by
  obtain ⟨y1, e1, x1⟩ := hm.m
  have HNE : Hid (mb ≠ F.g ∧ gb ≠ F.g) := hid ⟨hm.m.ne, hm.g.ne⟩
  have HPU := hid hm
  have c67 := h.at 67 (.bool M.granted) rfl
  have c68 := h.at 68 (.bool M.held) rfl
  rw [hh] at c68
  have ff := h.bx.f
  have hg := h.bx.z
  obtain ⟨r, q1, r0, r1⟩ : ∃ r, Int.tmod n 2 = r ∧ 0 ≤ r ∧ r ≤ 1 := ⟨_, rfl, by rw [Int.tmod_eq_emod_of_nonneg hn.1]; omega⟩
  have E1 : Hid (odd n = (r == 1)) := hid (by rw [← q1, Int.tmod_eq_emod_of_nonneg hn.1]; rfl)
  obtain ⟨m, hmq, hm0, hm1⟩ : ∃ m, Int.tdiv n 2 = m ∧ 0 ≤ m ∧ m ≤ 127 := ⟨_, rfl, by rw [Int.tdiv_eq_ediv_of_nonneg hn.1]; omega⟩
  have hwm : IntKind.u8.wrap m = m := by simp [IntKind.wrap, IntKind.bits, IntKind.signed] <;> omega
  have hmn : m = n / 2 := by rw [← hmq, Int.tdiv_eq_ediv_of_nonneg hn.1]
  have q2 : Int.tmod m 2 = 0 := by rw [Int.tmod_eq_emod_of_nonneg hm0, hmn]; exact hs
  have E2 : Hid (odd (n / 2) = false) := hid (by unfold odd; rw [hs]; rfl)
  have EL : Hid (M.putM 16 n = { M.grant n with aux := beginC ((M.grant n).lookA 0) ((M.grant n).lookA 1), aready := M.clock }) := hid (by show M.letGo n = _; unfold Mach.letGo; rw [hh, E2.out]; rfl)
  have H := hid h
  have HH := hid hh
  clear h hm hh hmn hs
  go_enter Try.func38, Try.ntmps38
  go_wp2_with (go_at_call 32; refine (Gm.reg3 a _ h1 h2).mono ?_; rintro e w1 ⟨rfl, rfl⟩)
  refine wp_region_held_drew (S := fun w' => w'.cell? ⟨mb, 0, none⟩ = some (pt F.g 0) ∧ w'.cell? ⟨gb, 0, none⟩ = some (pt F.g 0)) (by kernel_rfl) (⟨e1, HPU.out.g.2.1⟩) ?_
  intro hS
  refine wpAnyH_take (i := 0) (oi := { dst := some 230, op := _, type := _, pos := _, after := _, guard := none }) (v := ?_) rfl (by kernel_rfl) (by kernel_rfl) (by kernel_rfl) (fun _ _ _ h => h) (Or.inl ⟨by rfl, ?_⟩) hS ?_
  rotate_left 1
  focus (intro w hSw; (try dsimp only at hSw); go_simp; try (with_reducible rfl))
  simp only [Act.put, List.setIfInBounds_toArray, List.set_cons_zero, List.set_cons_succ]
  refine wpAnyH_take (i := 1) (oi := { dst := some 231, op := _, type := _, pos := _, after := _, guard := none }) (v := ?_) rfl (by kernel_rfl) (by kernel_rfl) (by kernel_rfl) (fun _ _ _ h => h) (Or.inl ⟨by rfl, ?_⟩) hS ?_
  rotate_left 1
  focus (intro w hSw; (try dsimp only at hSw); go_simp; try (with_reducible rfl))
  simp only [Act.put, List.setIfInBounds_toArray, List.set_cons_zero, List.set_cons_succ]
  refine wpAnyH_take (i := 2) (oi := { dst := some 232, op := _, type := _, pos := _, after := _, guard := none }) (v := ?_) rfl (by kernel_rfl) (by kernel_rfl) (by kernel_rfl) (fun _ _ _ h => h) (Or.inl ⟨by rfl, ?_⟩) hS ?_
  rotate_left 1
  focus (intro w hSw; (try dsimp only at hSw); go_simp; try (with_reducible rfl))
  simp only [Act.put, List.setIfInBounds_toArray, List.set_cons_zero, List.set_cons_succ]
  refine wpAnyH_take (i := 3) (oi := { dst := some 233, op := _, type := _, pos := _, after := _, guard := none }) (v := ?_) rfl (by kernel_rfl) (by kernel_rfl) (by kernel_rfl) (fun _ _ _ h => h) (Or.inl ⟨by rfl, ?_⟩) hS ?_
  rotate_left 1
  focus (intro w hSw; (try dsimp only at hSw); go_simp; try (with_reducible rfl))
  simp only [Act.put, List.setIfInBounds_toArray, List.set_cons_zero, List.set_cons_succ]
  refine wpAnyH_take (i := 4) (oi := { dst := some 234, op := _, type := _, pos := _, after := _, guard := none }) (v := ?_) rfl (by kernel_rfl) (by kernel_rfl) (by kernel_rfl) (fun _ _ _ h => h) (Or.inl ⟨by rfl, ?_⟩) hS ?_
  rotate_left 1
  focus (intro w hSw; (try dsimp only at hSw); go_simp; try (with_reducible rfl))
  simp only [Act.put, List.setIfInBounds_toArray, List.set_cons_zero, List.set_cons_succ]
  refine wpAnyH_take (i := 5) (oi := { dst := some 235, op := _, type := _, pos := _, after := _, guard := none }) (v := ?_) rfl (by kernel_rfl) (by kernel_rfl) (by kernel_rfl) (fun _ _ _ h => h) (Or.inl ⟨by rfl, ?_⟩) hS ?_
  rotate_left 1
  focus (intro w hSw; (try dsimp only at hSw); go_simp; try (with_reducible rfl))
  simp only [Act.put, List.setIfInBounds_toArray, List.set_cons_zero, List.set_cons_succ]
  refine wpAnyH_take (i := 6) (oi := { dst := some 236, op := _, type := _, pos := _, after := _, guard := none }) (v := ?_) rfl (by kernel_rfl) (by kernel_rfl) (by kernel_rfl) (fun _ _ _ h => h) (Or.inl ⟨by rfl, ?_⟩) hS ?_
  rotate_left 1
  focus (intro w hSw; (try dsimp only at hSw); go_simp; try (with_reducible rfl))
  simp only [Act.put, List.setIfInBounds_toArray, List.set_cons_zero, List.set_cons_succ]
  refine wpAnyH_take (i := 7) (oi := { dst := some 237, op := _, type := _, pos := _, after := _, guard := none }) (v := ?_) rfl (by kernel_rfl) (by kernel_rfl) (by kernel_rfl) (fun _ _ _ h => h) (Or.inl ⟨by rfl, ?_⟩) hS ?_
  rotate_left 1
  focus (intro w hSw; (try dsimp only at hSw); go_simp; try (with_reducible rfl))
  simp only [Act.put, List.setIfInBounds_toArray, List.set_cons_zero, List.set_cons_succ]
  refine wpAnyH_take (i := 8) (oi := { dst := some 238, op := _, type := _, pos := _, after := _, guard := none }) (v := ?_) rfl (by kernel_rfl) (by kernel_rfl) (by kernel_rfl) (fun _ _ _ h => h) (Or.inl ⟨by rfl, ?_⟩) hS ?_
  rotate_left 1
  focus (intro w hSw; (try dsimp only at hSw); go_simp; try (with_reducible rfl))
  simp only [Act.put, List.setIfInBounds_toArray, List.set_cons_zero, List.set_cons_succ]
  refine wpAnyH_take (i := 9) (oi := { dst := some 239, op := _, type := _, pos := _, after := _, guard := none }) (v := ?_) rfl (by kernel_rfl) (by kernel_rfl) (by kernel_rfl) (fun _ _ _ h => h) (Or.inl ⟨by rfl, ?_⟩) hS ?_
  rotate_left 1
  focus (intro w hSw; (try dsimp only at hSw); go_simp; try (with_reducible rfl))
  simp only [Act.put, List.setIfInBounds_toArray, List.set_cons_zero, List.set_cons_succ]
  refine wpAnyH_take (i := 10) (oi := { dst := some 240, op := _, type := _, pos := _, after := _, guard := none }) (v := ?_) rfl (by kernel_rfl) (by kernel_rfl) (by kernel_rfl) (fun _ _ _ h => h) (Or.inl ⟨by rfl, ?_⟩) hS ?_
  rotate_left 1
  focus (intro w hSw; (try dsimp only at hSw); go_simp; try (with_reducible rfl))
  simp only [Act.put, List.setIfInBounds_toArray, List.set_cons_zero, List.set_cons_succ]
  refine wpAnyH_ready (rs := [11]) (by kernel_rfl) (by simp) ?_
  refine AllReadyH.cons (o := { dst := none, op := _, type := _, pos := _, after := _, guard := none }) rfl (fun K hK => ?_) AllReadyH.nil
  go_simp
  refine hK.out _ _ (⟨(World.cell?_of_block (heap_set_far HNE.out.1)).trans hS.1, (World.cell?_of_block (heap_set_far HNE.out.2)).trans hS.2⟩) (fun _ => ?_)
  clear hK K
  try simp only [Act.put, List.setIfInBounds_toArray, List.set_cons_zero, List.set_cons_succ]
  have hS1 : (W.drew.setCell ⟨F.g, 67, none⟩ (.bool (r == 1))).cell? ⟨mb, 0, none⟩ = some (pt F.g 0) ∧ (W.drew.setCell ⟨F.g, 67, none⟩ (.bool (r == 1))).cell? ⟨gb, 0, none⟩ = some (pt F.g 0) := ⟨(World.cell?_of_block (heap_set_far HNE.out.1)).trans hS.1, (World.cell?_of_block (heap_set_far HNE.out.2)).trans hS.2⟩
  clear hS
  have hS := hS1
  clear hS1
  refine wpAnyH_take (i := 12) (oi := { dst := some 241, op := _, type := _, pos := _, after := _, guard := none }) (v := ?_) rfl (by kernel_rfl) (by kernel_rfl) (by kernel_rfl) (fun _ _ _ h => h) (Or.inl ⟨by rfl, ?_⟩) hS ?_
  rotate_left 1
  focus (intro w hSw; (try dsimp only at hSw); go_simp; try (with_reducible rfl))
  simp only [Act.put, List.setIfInBounds_toArray, List.set_cons_zero, List.set_cons_succ]
  refine wpAnyH_take (i := 13) (oi := { dst := some 242, op := _, type := _, pos := _, after := _, guard := none }) (v := ?_) rfl (by kernel_rfl) (by kernel_rfl) (by kernel_rfl) (fun _ _ _ h => h) (Or.inl ⟨by rfl, ?_⟩) hS ?_
  rotate_left 1
  focus (intro w hSw; (try dsimp only at hSw); go_simp; try (with_reducible rfl))
  simp only [Act.put, List.setIfInBounds_toArray, List.set_cons_zero, List.set_cons_succ]
  refine wpAnyH_ready (rs := [14]) (by kernel_rfl) (by simp) ?_
  refine AllReadyH.cons (o := { dst := none, op := _, type := _, pos := _, after := _, guard := none }) rfl (fun K hK => ?_) AllReadyH.nil
  go_simp
  refine hK.out _ _ (⟨(World.cell?_of_block (heap_set_far HNE.out.1)).trans hS.1, (World.cell?_of_block (heap_set_far HNE.out.2)).trans hS.2⟩) (fun _ => ?_)
  clear hK K
  try simp only [Act.put, List.setIfInBounds_toArray, List.set_cons_zero, List.set_cons_succ]
  refine wpAnyH_done (by kernel_rfl) ?_ _
  have hp : Gd F ((W.drew.setCell ⟨F.g, 67, none⟩ (.bool (r == 1))).setCell ⟨F.g, 68, none⟩ (.bool false)) (M.grant n) tk := by
    have hx := (H.out.drew.put (M' := { M with granted := odd n }) (tk' := tk) 67 (.bool (odd n)) (by omega) rfl ⟨rfl, rfl, rfl, rfl, rfl⟩ { H.out.fit with main := H.out.fit.main }).put (M' := M.grant n) (tk' := tk) 68 (.bool (odd (n / 2))) (by omega) rfl ⟨rfl, rfl, rfl, rfl, rfl⟩ (show Mach.fit { M with granted := odd n, held := odd (n / 2) } from { H.out.fit with main := H.out.fit.main })
    rw [E1.out, E2.out] at hx
    exact hx
  have ht := Gt.set H.out.nd (Gt.set H.out.nd (Mv.drew (Gt.refl F W)) 67 (.bool (r == 1))) 68 (.bool false)
  refine Pl.cutE (fun Y => Gd F Y (M.grant n) tk ∧ Gt F W Y ∧ Pu F Y mb hb lb gb) ⟨hp, ht, HPU.out.moved ht⟩ ?_
  rintro Y ⟨hY1, hY2, hY3⟩
  have HY1 := hid hY1
  have HY2 := hid hY2
  have HY3 := hid hY3
  clear hY1 hY2 hY3 hp ht hS c67 c68 ff hg e1 y1
  generalize hG : M.grant n = G at *
  have HCL : Hid (M.clock = G.clock) := hid (by rw [← hG]; rfl)
  have e1 := HY3.out.m.2.1
  have e2 := HY3.out.g.2.1
  have y1 := HY3.out.m.1
  have y2 := HY3.out.g.1
  have yg := HY1.out.bx.z
  clear hG E1 E2 H HH
  go_wp2
  refine wp_region_held_drew (S := fun w' => w'.cell? ⟨mb, 0, none⟩ = some (pt F.g 0) ∧ w'.cell? ⟨gb, 0, none⟩ = some (pt F.g 0)) (by kernel_rfl) (⟨e1, e2⟩) ?_
  intro hS
  refine wpAnyH_take (i := 0) (oi := { dst := some 244, op := _, type := _, pos := _, after := _, guard := none }) (v := ?_) rfl (by kernel_rfl) (by kernel_rfl) (by kernel_rfl) (fun _ _ _ h => h) (Or.inl ⟨by rfl, ?_⟩) hS ?_
  rotate_left 1
  focus (intro w hSw; (try dsimp only at hSw); go_simp; try (with_reducible rfl))
  simp only [Act.put, List.setIfInBounds_toArray, List.set_cons_zero, List.set_cons_succ]
  refine wpAnyH_take (i := 1) (oi := { dst := some 245, op := _, type := _, pos := _, after := _, guard := none }) (v := ?_) rfl (by kernel_rfl) (by kernel_rfl) (by kernel_rfl) (fun _ _ _ h => h) (Or.inl ⟨by rfl, ?_⟩) hS ?_
  rotate_left 1
  focus (intro w hSw; (try dsimp only at hSw); go_simp; try (with_reducible rfl))
  simp only [Act.put, List.setIfInBounds_toArray, List.set_cons_zero, List.set_cons_succ]
  refine wpAnyH_ready (rs := [2]) (by kernel_rfl) (by simp) ?_
  refine AllReadyH.cons (o := { dst := some 246, op := _, type := _, pos := _, after := _, guard := none }) rfl (fun K hK => ?_) AllReadyH.nil
  go_simp
  go_at_call 19
  refine (Gm.aux_val F.g _).mono ?_
  rintro e w2 ⟨rfl, hb2, hv2⟩
  have HG2 := hid (HY1.out.drew.kept hb2)
  have HB2 := hid (stp (st0 Y).drew hb2)
  have HP2 := hid (AuxV.pb HY1.out.drew hv2)
  clear hv2
  try go_wp2_with fail
  have hS2 : w2.cell? ⟨mb, 0, none⟩ = some (pt F.g 0) ∧ w2.cell? ⟨gb, 0, none⟩ = some (pt F.g 0) := ⟨(hb2.cell (p := ⟨mb, 0, none⟩) y1).trans hS.1, (hb2.cell (p := ⟨gb, 0, none⟩) y2).trans hS.2⟩
  refine hK.out _ _ (hS2) (fun _ => ?_)
  clear hK K
  try simp only [Act.put, List.setIfInBounds_toArray, List.set_cons_zero, List.set_cons_succ]
  clear hS
  have hS := hS2
  clear hS2
  refine wpAnyH_ready (rs := [3]) (by kernel_rfl) (by simp) ?_
  refine AllReadyH.cons (o := { dst := some 247, op := _, type := _, pos := _, after := _, guard := none }) rfl (fun K hK => ?_) AllReadyH.nil
  go_simp
  go_at_call 28
  refine (Gm.begin_A HG2.out HP2.out.2).mono ?_
  rintro e w3 ⟨rfl, hb3⟩
  have HG3 := hid (HG2.out.kept hb3)
  have HB3 := hid (stp HB2.out hb3)
  try go_wp2_with fail
  have hS3 : w3.cell? ⟨mb, 0, none⟩ = some (pt F.g 0) ∧ w3.cell? ⟨gb, 0, none⟩ = some (pt F.g 0) := ⟨(hb3.cell (p := ⟨mb, 0, none⟩) (Nat.lt_of_lt_of_le y1 HB2.out.size)).trans hS.1, (hb3.cell (p := ⟨gb, 0, none⟩) (Nat.lt_of_lt_of_le y2 HB2.out.size)).trans hS.2⟩
  refine hK.out _ _ (hS3) (fun _ => ?_)
  clear hK K
  try simp only [Act.put, List.setIfInBounds_toArray, List.set_cons_zero, List.set_cons_succ]
  clear hS
  have hS := hS3
  clear hS3
  refine wpAnyH_take (i := 4) (oi := { dst := some 248, op := _, type := _, pos := _, after := _, guard := none }) (v := ?_) rfl (by kernel_rfl) (by kernel_rfl) (by kernel_rfl) (fun _ _ _ h => h) (Or.inl ⟨by rfl, ?_⟩) hS ?_
  rotate_left 1
  focus (intro w hSw; (try dsimp only at hSw); go_simp; try (with_reducible rfl))
  simp only [Act.put, List.setIfInBounds_toArray, List.set_cons_zero, List.set_cons_succ]
  refine wpAnyH_take (i := 5) (oi := { dst := some 249, op := _, type := _, pos := _, after := _, guard := none }) (v := ?_) rfl (by kernel_rfl) (by kernel_rfl) (by kernel_rfl) (fun _ _ _ h => h) (Or.inl ⟨by rfl, ?_⟩) hS ?_
  rotate_left 1
  focus (intro w hSw; (try dsimp only at hSw); go_simp; try (with_reducible rfl))
  simp only [Act.put, List.setIfInBounds_toArray, List.set_cons_zero, List.set_cons_succ]
  refine readyH_store (i := 6) (op := { dst := none, op := _, type := _, pos := _, after := _, guard := none }) (by kernel_rfl) rfl rfl 26 _ _ rfl F.g 15 (begL (G.lookA 0 * 256 + G.lookA 1)).toArray rfl rfl (HG3.out.bx.there 15 15 (by rw [F.len]; omega)) info_cpu (beg_one _) ⟨(World.cell?_of_block (heap_sets_far HNE.out.1 _ _ _)).trans hS.1, (World.cell?_of_block (heap_sets_far HNE.out.2 _ _ _)).trans hS.2⟩ ?_
  refine wpAnyH_done (by kernel_rfl) ?_ _
  have hp := HG3.out.puts (M' := { G with aux := beginC (G.lookA 0) (G.lookA 1) }) (tk' := tk) 15 (cpuL (beginC (G.lookA 0) (G.lookA 1))) (by simp [cpuL]) (F.putAux G tk _) ⟨rfl, rfl, rfl, rfl, rfl⟩ (Mach.fit.of HG3.out.fit { HG3.out.fit with main := HG3.out.fit.main, aux := beg_ok _ _ (lookA_bd _ _) (lookA_bd _ _) } ⟨rfl, rfl, rfl, rfl, rfl⟩ rfl ⟨rfl, rfl, rfl⟩ ⟨rfl, rfl⟩ (Or.inl rfl))
  have ht := Gt.sets HY1.out.nd (cpuL (beginC (G.lookA 0) (G.lookA 1))) 15 _ (Mv.trans HY2.out (Gt.under HY1.out HB3.out))
  refine Pl.cutE (fun V => Gd F V { G with aux := beginC (G.lookA 0) (G.lookA 1) } tk ∧ Gt F W V) ⟨hp, ht⟩ ?_
  rintro V ⟨hV1, hV2⟩
  have HV1 := hid hV1
  have HV2 := hid hV2
  have e3 := (HPU.out.moved hV2).m.2.1
  have y3 := (HPU.out.moved hV2).m.1
  have c72 : V.cell? ⟨F.g, 72, none⟩ = some (.int .i64 M.clock) := by rw [HCL.out]; exact hV1.at 72 _ rfl
  have c74 := hV1.at 74 (.int .i64 G.aready) rfl
  have vf := hV1.bx.f
  have vg := hV1.bx.z
  clear hV1 hV2 hp ht hS e1 e2 y1 y2 yg HG2 HG3 HB2 HB3 HP2
  go_wp2
  refine wp_region_held_drew (S := fun w' => w'.cell? ⟨mb, 0, none⟩ = some (pt F.g 0) ∧ w'.cell? ⟨F.g, 72, none⟩ = some (.int .i64 M.clock)) (by kernel_rfl) (⟨e3, c72⟩) ?_
  intro hS
  refine wpAnyH_take (i := 0) (oi := { dst := some 250, op := _, type := _, pos := _, after := _, guard := none }) (v := ?_) rfl (by kernel_rfl) (by kernel_rfl) (by kernel_rfl) (fun _ _ _ h => h) (Or.inl ⟨by rfl, ?_⟩) hS ?_
  rotate_left 1
  focus (intro w hSw; (try dsimp only at hSw); go_simp; try (with_reducible rfl))
  simp only [Act.put, List.setIfInBounds_toArray, List.set_cons_zero, List.set_cons_succ]
  refine wpAnyH_take (i := 1) (oi := { dst := some 251, op := _, type := _, pos := _, after := _, guard := none }) (v := ?_) rfl (by kernel_rfl) (by kernel_rfl) (by kernel_rfl) (fun _ _ _ h => h) (Or.inl ⟨by rfl, ?_⟩) hS ?_
  rotate_left 1
  focus (intro w hSw; (try dsimp only at hSw); go_simp; try (with_reducible rfl))
  simp only [Act.put, List.setIfInBounds_toArray, List.set_cons_zero, List.set_cons_succ]
  refine wpAnyH_take (i := 2) (oi := { dst := some 252, op := _, type := _, pos := _, after := _, guard := none }) (v := ?_) rfl (by kernel_rfl) (by kernel_rfl) (by kernel_rfl) (fun _ _ _ h => h) (Or.inl ⟨by rfl, ?_⟩) hS ?_
  rotate_left 1
  focus (intro w hSw; (try dsimp only at hSw); go_simp; try (with_reducible rfl))
  simp only [Act.put, List.setIfInBounds_toArray, List.set_cons_zero, List.set_cons_succ]
  refine wpAnyH_take (i := 3) (oi := { dst := some 253, op := _, type := _, pos := _, after := _, guard := none }) (v := ?_) rfl (by kernel_rfl) (by kernel_rfl) (by kernel_rfl) (fun _ _ _ h => h) (Or.inl ⟨by rfl, ?_⟩) hS ?_
  rotate_left 1
  focus (intro w hSw; (try dsimp only at hSw); go_simp; try (with_reducible rfl))
  simp only [Act.put, List.setIfInBounds_toArray, List.set_cons_zero, List.set_cons_succ]
  refine wpAnyH_take (i := 4) (oi := { dst := some 254, op := _, type := _, pos := _, after := _, guard := none }) (v := ?_) rfl (by kernel_rfl) (by kernel_rfl) (by kernel_rfl) (fun _ _ _ h => h) (Or.inl ⟨by rfl, ?_⟩) hS ?_
  rotate_left 1
  focus (intro w hSw; (try dsimp only at hSw); go_simp; try (with_reducible rfl))
  simp only [Act.put, List.setIfInBounds_toArray, List.set_cons_zero, List.set_cons_succ]
  refine wpAnyH_take (i := 5) (oi := { dst := some 255, op := _, type := _, pos := _, after := _, guard := none }) (v := ?_) rfl (by kernel_rfl) (by kernel_rfl) (by kernel_rfl) (fun _ _ _ h => h) (Or.inl ⟨by rfl, ?_⟩) hS ?_
  rotate_left 1
  focus (intro w hSw; (try dsimp only at hSw); go_simp; try (with_reducible rfl))
  simp only [Act.put, List.setIfInBounds_toArray, List.set_cons_zero, List.set_cons_succ]
  refine wpAnyH_take (i := 6) (oi := { dst := some 256, op := _, type := _, pos := _, after := _, guard := none }) (v := ?_) rfl (by kernel_rfl) (by kernel_rfl) (by kernel_rfl) (fun _ _ _ h => h) (Or.inl ⟨by rfl, ?_⟩) hS ?_
  rotate_left 1
  focus (intro w hSw; (try dsimp only at hSw); go_simp; try (with_reducible rfl))
  simp only [Act.put, List.setIfInBounds_toArray, List.set_cons_zero, List.set_cons_succ]
  refine wpAnyH_ready (rs := [7]) (by kernel_rfl) (by simp) ?_
  refine AllReadyH.cons (o := { dst := none, op := _, type := _, pos := _, after := _, guard := none }) rfl (fun K hK => ?_) AllReadyH.nil
  go_simp
  refine hK.out _ _ (⟨(World.cell?_of_block (heap_set_far HNE.out.1)).trans hS.1, (World.cell?_setCell_other _ _ _ _ (by simp)).trans hS.2⟩) (fun _ => ?_)
  clear hK K
  try simp only [Act.put, List.setIfInBounds_toArray, List.set_cons_zero, List.set_cons_succ]
  refine wpAnyH_done (by kernel_rfl) ?_ _
  go_simp
  go_wp2
  go_end0
  rw [EL.out]
  exact ⟨rfl, HV1.out.drew.put (M' := { G with aux := beginC (G.lookA 0) (G.lookA 1), aready := M.clock }) (tk' := tk) 74 _ (by omega) rfl ⟨rfl, rfl, rfl, rfl, rfl⟩ (Mach.fit.of HV1.out.fit { HV1.out.fit with main := HV1.out.fit.main } ⟨rfl, rfl, rfl, rfl, rfl⟩ rfl ⟨rfl, rfl, rfl⟩ ⟨rfl, rfl⟩ (Or.inr HCL.out)), Gt.set HY1.out.nd (Mv.drew HV2.out) 74 _⟩
theorem Gm.putP16 (h : Gd F W M tk) (hm : Pu F W mb hb lb gb) (a n : Int) (h1 : 53248 ≤ a) (h2 : a ≤ 57343) (hn : 0 ≤ n ∧ n ≤ 255) (hk : Int.tmod a 32 = 16) : Calls Try.prog 38 #[.int .u16 a, .int .u8 n, pt mb 0, pt hb 0, pt lb 0, pt gb 0] W fun e w' => e = .returned (.tuple #[]) ∧ Gd F w' (M.putM 16 n) tk ∧ Gt F W w' := by
  cases hh : M.held
  · exact Gm.putP16f h hm a n h1 h2 hn hk hh
  · have hc : n / 2 % 2 = 0 ∨ n / 2 % 2 = 1 := by omega
    rcases hc with hs | hs
    · exact Gm.putP16g h hm a n h1 h2 hn hk hh hs
    · exact Gm.putP16t h hm a n h1 h2 hn hk hh hs
end
abbrev gtl : List Value := [.slice none 0 0, .int .i64 0]
theorem run_game (M : Mach) (S : Sl) (w : World) : (Instr.build 59 #[(0, .agg (machL M S).toArray)]).run Try.prog w = .ok (.agg (machL M S ++ gtl).toArray) w := by kernel_rfl
theorem exec_build1 {P : Program} {a : Act} {o : Oper} {w : World} (t : TypeId) (i : Nat) (x : Operand) (ho : o.op = .build t #[(i, x)]) (xv v : Value) (hx : a.eval x = xv)
    (hrun : (Instr.build t #[(i, xv)]).run P w = .ok v w) : (execOp a.eval o).run P w = .ok (.value v) w :=
  exec_build t _ ho v (by simp only [List.map_toArray, List.map_cons, List.map_nil, hx]; exact hrun)
/-- The game of a new machine. -/
structure NG (w : World) (l1 l2 : List UInt8) (F : Gx) (M : Mach) (Y : World) : Prop where
  gd : Gd F Y M Tk.zero
  low : Below w.heap.size w Y
  res : Bx Y w.heap.size (machL zeroM nilS)
  B : w.heap.size < F.B
  ro : F.apart M (fun j => j = w.heap.size)
theorem NG.kept {w Y Y' : World} {l1 l2 : List UInt8} {F : Gx} {M : Mach} (h : NG w l1 l2 F M Y) (hb : Below Y.heap.size Y Y') : NG w l1 l2 F M Y' := ⟨h.gd.kept hb, stp h.low hb, h.res.kept hb, h.B, h.ro⟩
theorem zeros_rw {W : World} {n b : Nat} (h : Bx W b (List.replicate n (.int .u8 0))) : Rw W (.slice (some ⟨b, 0, none⟩) n n) b (List.replicate n 0) := by
  refine Or.inr ⟨n, by simp, by simp, ?_⟩
  have e : bcs (List.replicate n 0) = List.replicate n (.int .u8 0) := by unfold bcs; rw [List.map_replicate]; rfl
  rw [e]; exact h
theorem NG.of {w Y : World} {l1 l2 : List UInt8} {a1 a2 : Option Addr} {c1 c2 b1 b2 b3 : Nat} (hl1 : l1.length ≤ 1024) (hl2 : l2.length ≤ 1024) (H1 : sliceAt w (.slice a1 l1.length c1) l1) (H2 : sliceAt w (.slice a2 l2.length c2) l2) (hl : Below w.heap.size w Y) (hr : Bx Y w.heap.size (machL zeroM nilS))
    (x1 : Bx Y b1 (List.replicate 128 (.int .u8 0))) (x2 : Bx Y b2 (List.replicate 64 (.int .u8 0))) (x3 : Bx Y b3 (List.replicate 256 (.int .u8 0))) (d : w.heap.size < b1 ∧ w.heap.size < b2 ∧ w.heap.size < b3 ∧ b1 ≠ b2 ∧ b1 ≠ b3 ∧ b2 ≠ b3) (t : TypeId) :
    NG w l1 l2 ⟨w.heap.size + 1, Y.heap.size, 0, 0, b1, b2, b3, ⟨.slice a1 l1.length c1, .slice a2 l2.length c2, .slice (some ⟨b1, 0, none⟩) 128 128, .slice (some ⟨b2, 0, none⟩) 64 64, .slice (some ⟨b3, 0, none⟩) 256 256⟩⟩ (newM l1 l2)
      (Y.alloc (.cells (machL (newM l1 l2) ⟨.slice a1 l1.length c1, .slice a2 l2.length c2, .slice (some ⟨b1, 0, none⟩) 128 128, .slice (some ⟨b2, 0, none⟩) 64 64, .slice (some ⟨b3, 0, none⟩) 256 256⟩ ++ gtl).toArray t)) := by
  have hz := hl.size
  have z1 := x1.z
  have z2 := x2.z
  have z3 := x3.z
  have zr := hr.z
  have hT : ∀ k, k < w.heap.size → ¬ (k = Y.heap.size ∨ k = b1 ∨ k = b2 ∨ k = b3) := fun k hk h => by omega
  refine ⟨⟨Bx.new Y _ t rfl, (H1.kept hl).kept (stA (st0 Y) _), (H2.kept hl).kept (stA (st0 Y) _), zeros_rw (x1.over _), zeros_rw (x2.over _), zeros_rw (x3.over _), ⟨⟨by show w.heap.size + 1 ≤ Y.heap.size; omega, by show w.heap.size + 1 ≤ b1; omega, by show w.heap.size + 1 ≤ b2; omega, by show w.heap.size + 1 ≤ b3; omega⟩, ⟨by show Y.heap.size ≠ b1; omega, by show Y.heap.size ≠ b2; omega, by show Y.heap.size ≠ b3; omega, d.2.2.2.1, d.2.2.2.2.1, d.2.2.2.2.2⟩⟩, newM_fit l1 l2 hl1 hl2, by show w.heap.size + 1 ≤ (Y.alloc _).heap.size; simp; omega, World.ownsRow_nil _ _ _ _, ⟨fun hp k hk => hT k (H1.lt hp k hk), fun hp k hk => hT k (H2.lt hp k hk)⟩, fun k hk => by cases hk⟩, stA hl _, hr.over _, by show w.heap.size < w.heap.size + 1; omega, ⟨fun hp k hk e => by have := H1.lt hp k hk; omega, fun hp k hk e => by have := H2.lt hp k hk; omega⟩⟩
theorem nf_all {w Y : World} {l1 l2 : List UInt8} {a1 a2 : Option Addr} {c1 c2 b1 b2 b3 : Nat} (H1 : sliceAt w (.slice a1 l1.length c1) l1) (H2 : sliceAt w (.slice a2 l2.length c2) l2) (hl : Below w.heap.size w Y) (hr : Bx Y w.heap.size (machL zeroM nilS))
    (x1 : Bx Y b1 (List.replicate 128 (.int .u8 0))) (x2 : Bx Y b2 (List.replicate 64 (.int .u8 0))) (x3 : Bx Y b3 (List.replicate 256 (.int .u8 0))) : NF w l1 l2 ⟨.slice a1 l1.length c1, .slice a2 l2.length c2, .slice (some ⟨b1, 0, none⟩) 128 128, .slice (some ⟨b2, 0, none⟩) 64 64, .slice (some ⟨b3, 0, none⟩) 256 256⟩ Y ∧ Bx Y b1 (List.replicate 128 (.int .u8 0)) ∧ Bx Y b2 (List.replicate 64 (.int .u8 0)) ∧ Bx Y b3 (List.replicate 256 (.int .u8 0)) := ⟨NF.of H1 H2 hl hr x1 x2 x3, x1, x2, x3⟩
theorem Gd.row {F : Gx} {W : World} {M : Mach} {tk : Tk} (h : Gd F W M tk) : W.rangeAt F.g 0 (machL M F.S) := fun i v hi => h.bx.at (0 + i) v (by
  rw [Nat.zero_add]
  unfold Gx.cells
  rw [List.getElem?_append_left (List.getElem?_eq_some_iff.1 hi).1]
  exact hi)
theorem Gd.slAt {F : Gx} {W : World} {M : Mach} {tk : Tk} (h : Gd F W M tk) : SlAt W F.S M := fun j hj => by
  rcases five hj with rfl | rfl | rfl | rfl | rfl
  · exact h.mr
  · exact h.ar
  · exact h.ra.slice
  · exact h.ow.slice
  · exact h.vi.slice
theorem Gd.isSl {F : Gx} {W : World} {M : Mach} {tk : Tk} (h : Gd F W M tk) : F.S.isSl := fun j hj => by
  obtain ⟨a, c, e⟩ := h.slAt.lens j hj
  exact ⟨_, _, _, e⟩
theorem NG.main {w Y : World} {l1 l2 : List UInt8} {F : Gx} (h : NG w l1 l2 F (newM l1 l2) Y) : NG w l1 l2 F (newD l1 l2) (Y.setCells F.g 0 (begL ((newM l1 l2).lookM 0 * 256 + (newM l1 l2).lookM 1))) := by
  have hok := beg_ok _ _ (lookM_bd (newM l1 l2) 0) (lookM_bd (newM l1 l2) 1)
  have hf : (newD l1 l2).fit := Mach.fit.of h.gd.fit { h.gd.fit with main := hok } ⟨rfl, rfl, rfl, rfl, rfl⟩ rfl ⟨rfl, rfl, rfl⟩ ⟨rfl, rfl⟩ (Or.inl rfl)
  rw [begL_eq]
  have lo := h.gd.nd.lo.1
  have hB := h.B
  exact ⟨h.gd.puts (M' := newD l1 l2) (tk' := Tk.zero) 0 (cpuL (beginC ((newM l1 l2).lookM 0) ((newM l1 l2).lookM 1))) (by simp [cpuL]) (F.putMain _ _ _) ⟨rfl, rfl, rfl, rfl, rfl⟩ hf, Bl.puts h.low (by omega) _, h.res.fars (by omega) _ _, hB, Gx.apart_of h.ro rfl rfl⟩
theorem NG.fin {w Y : World} {l1 l2 : List UInt8} {F : Gx} {M : Mach} (h : NG w l1 l2 F M Y) : Below w.heap.size w (Y.setCells w.heap.size 0 (machL M F.S)) ∧ Bx (Y.setCells w.heap.size 0 (machL M F.S)) w.heap.size (machL M F.S) ∧ SlAt (Y.setCells w.heap.size 0 (machL M F.S)) F.S M := by
  have hx := h.res.puts 0 (machL M F.S) (by rw [machL_len, machL_len]; omega)
  rw [putL_whole _ _ (by rw [machL_len, machL_len])] at hx
  have lo := h.gd.nd.lo
  have hB := h.B
  refine ⟨Bl.puts h.low (Nat.le_refl _) _, hx, fun j hj => ?_⟩
  rcases five hj with rfl | rfl | rfl | rfl | rfl
  · exact h.gd.mr.same (Nat.le_of_eq (size_sets _ _ _ _).symm) (fun hp k hk _ => heap_sets_far (fun e => h.ro.1 hp k hk e) _ _ _)
  · exact h.gd.ar.same (Nat.le_of_eq (size_sets _ _ _ _).symm) (fun hp k hk _ => heap_sets_far (fun e => h.ro.2 hp k hk e) _ _ _)
  · exact (h.gd.ra.offB (by omega) _ _).slice
  · exact (h.gd.ow.offB (by omega) _ _).slice
  · exact (h.gd.vi.offB (by omega) _ _).slice
set_option maxHeartbeats 3200000 in
theorem Gm.new_any (l1 l2 : List UInt8) (v1 v2 : Value) (w : World) (h1 : sliceAt w v1 l1) (h2 : sliceAt w v2 l2) (hl1 : l1.length ≤ 1024) (hl2 : l2.length ≤ 1024) :
    Calls Try.prog 14 #[v1, v2] w fun e w' => ∃ S', e = .returned (.agg (machL (newD l1 l2) S').toArray) ∧ SlAt w' S' (newD l1 l2) ∧ (newD l1 l2).fit ∧ Below w.heap.size w w' := by
  obtain ⟨a1, c1, e1⟩ := slice_len h1
  obtain ⟨a2, c2, e2⟩ := slice_len h2
  subst e1 e2
  have H1 := hid h1
  have H2 := hid h2
  have HR := hid (Bx.new w (machL zeroM nilS) 41 (b := w.heap.size) rfl)
  clear h1 h2
  go_enter Try.func14, Try.ntmps14
  go_upto_region 1 with fail
  go_cut [5] (fun v5 Y => ∃ F, v5 = pt F.g 0 ∧ NG w l1 l2 F (newM l1 l2) Y)
  case first =>
    refine wp_region_held_drew (S := fun _ => True) (by kernel_rfl) trivial ?_
    intro _
    refine wpAnyH_take (i := 0) (oi := { dst := some 6, op := _, type := _, pos := _, after := _, guard := none }) (v := ?_) rfl (by kernel_rfl) (by kernel_rfl) (by kernel_rfl) (fun _ _ _ h => h) (Or.inl ⟨by rfl, ?_⟩) trivial ?_
    rotate_left 1
    focus (intro w hSw; (try dsimp only at hSw); go_simp; try (with_reducible rfl))
    simp only [Act.put, List.setIfInBounds_toArray, List.set_cons_zero, List.set_cons_succ]
    refine wpAnyH_take (i := 1) (oi := { dst := some 7, op := _, type := _, pos := _, after := _, guard := none }) (v := ?_) rfl (by kernel_rfl) (by kernel_rfl) (by kernel_rfl) (fun _ _ _ h => h) (Or.inl ⟨by rfl, ?_⟩) trivial ?_
    rotate_left 1
    focus (intro w hSw; (try dsimp only at hSw); go_simp; try (with_reducible rfl))
    simp only [Act.put, List.setIfInBounds_toArray, List.set_cons_zero, List.set_cons_succ]
    refine wpAnyH_ready (rs := [2, 3, 4]) (by kernel_rfl) (by simp) ?_
    refine consH_make (op := { dst := some 8, op := _, type := _, pos := _, after := _, guard := none }) rfl rfl 22 _ _ rfl (.int .i64 128) (.int .i64 128) _ rfl rfl (mk128 _ (w.heap.size + 1) (by simp)) trivial ?_ (consH_make (op := { dst := some 9, op := _, type := _, pos := _, after := _, guard := none }) rfl rfl 22 _ _ rfl (.int .i64 64) (.int .i64 64) _ rfl rfl (mk64 _ (w.heap.size + 1) (by simp)) trivial ?_ (consH_make (op := { dst := some 10, op := _, type := _, pos := _, after := _, guard := none }) rfl rfl 22 _ _ rfl (.int .i64 256) (.int .i64 256) _ rfl rfl (mkV _ (w.heap.size + 1) (by simp)) trivial ?_ AllReadyH.nil))
    all_goals simp only [Act.put, List.setIfInBounds_toArray, List.set_cons_zero, List.set_cons_succ]
    · refine wpAnyH_ready (rs := [3, 4]) (by kernel_rfl) (by simp) ?_
      refine consH_make (op := { dst := some 9, op := _, type := _, pos := _, after := _, guard := none }) rfl rfl 22 _ _ rfl (.int .i64 64) (.int .i64 64) _ rfl rfl (mk64 _ (w.heap.size + 1 + 1) (by simp)) trivial ?_ (consH_make (op := { dst := some 10, op := _, type := _, pos := _, after := _, guard := none }) rfl rfl 22 _ _ rfl (.int .i64 256) (.int .i64 256) _ rfl rfl (mkV _ (w.heap.size + 1 + 1) (by simp)) trivial ?_ AllReadyH.nil)
      all_goals simp only [Act.put, List.setIfInBounds_toArray, List.set_cons_zero, List.set_cons_succ]
      · refine wpAnyH_ready (rs := [4]) (by kernel_rfl) (by simp) ?_
        refine consH_make (op := { dst := some 10, op := _, type := _, pos := _, after := _, guard := none }) rfl rfl 22 _ _ rfl (.int .i64 256) (.int .i64 256) _ rfl rfl (mkV _ (w.heap.size + 1 + 1 + 1) (by simp)) trivial ?_ AllReadyH.nil
        all_goals simp only [Act.put, List.setIfInBounds_toArray, List.set_cons_zero, List.set_cons_succ]
        refine cutH (fun Y => NF w l1 l2 ⟨.slice a1 l1.length c1, .slice a2 l2.length c2, .slice (some ⟨w.heap.size + 1, 0, none⟩) 128 128, .slice (some ⟨w.heap.size + 1 + 1, 0, none⟩) 64 64, .slice (some ⟨w.heap.size + 1 + 1 + 1, 0, none⟩) 256 256⟩ Y ∧ Bx Y (w.heap.size + 1) (List.replicate 128 (.int .u8 0)) ∧ Bx Y (w.heap.size + 1 + 1) (List.replicate 64 (.int .u8 0)) ∧ Bx Y (w.heap.size + 1 + 1 + 1) (List.replicate 256 (.int .u8 0))) (nf_all H1.out H2.out ?_ ?_ ?_ ?_ ?_) ?_
        · repeat (first | exact st0 _ | refine Below.drew ?_ | refine stA ?_ _)
        · repeat (first | exact HR.out | refine Bx.drew ?_ | refine Bx.over ?_ _)
        · repeat (first | exact Bx.new _ (List.replicate 128 (.int .u8 0)) _ (by simp) | refine Bx.drew ?_ | refine Bx.over ?_ _)
        · repeat (first | exact Bx.new _ (List.replicate 64 (.int .u8 0)) _ (by simp) | refine Bx.drew ?_ | refine Bx.over ?_ _)
        · repeat (first | exact Bx.new _ (List.replicate 256 (.int .u8 0)) _ (by simp) | refine Bx.drew ?_ | refine Bx.over ?_ _)
        rintro Y ⟨hY, y1, y2, y3⟩
        have HG := hid (NG.of hl1 hl2 H1.out H2.out hY.low hY.res y1 y2 y3 (by omega) 59)
        clear hY y1 y2 y3
        refine wpAnyH_take (i := 5) (oi := { dst := some 11, op := _, type := _, pos := _, after := _, guard := none }) (v := .agg (machL (newM l1 l2) ⟨.slice a1 l1.length c1, .slice a2 l2.length c2, .slice (some ⟨w.heap.size + 1, 0, none⟩) 128 128, .slice (some ⟨w.heap.size + 1 + 1, 0, none⟩) 64 64, .slice (some ⟨w.heap.size + 1 + 1 + 1, 0, none⟩) 256 256⟩).toArray) rfl (by kernel_rfl) (by kernel_rfl) (by kernel_rfl) (fun _ _ _ h => h) (Or.inl ⟨by rfl, fun w' _ => exec_build6 41 2 3 4 5 6 14 _ _ _ _ _ _ rfl _ _ _ _ _ _ _ rfl rfl rfl rfl rfl rfl (run_new a1 a2 l1.length c1 l2.length c2 (w.heap.size + 1) (w.heap.size + 1 + 1) (w.heap.size + 1 + 1 + 1) l1 l2 w')⟩) trivial ?_
        simp only [Act.put, List.setIfInBounds_toArray, List.set_cons_zero, List.set_cons_succ]
        refine wpAnyH_take (i := 6) (oi := { dst := some 12, op := _, type := _, pos := _, after := _, guard := none }) (v := .agg (machL (newM l1 l2) ⟨.slice a1 l1.length c1, .slice a2 l2.length c2, .slice (some ⟨w.heap.size + 1, 0, none⟩) 128 128, .slice (some ⟨w.heap.size + 1 + 1, 0, none⟩) 64 64, .slice (some ⟨w.heap.size + 1 + 1 + 1, 0, none⟩) 256 256⟩ ++ gtl).toArray) rfl (by kernel_rfl) (by kernel_rfl) (by kernel_rfl) (fun _ _ _ h => h) (Or.inl ⟨by rfl, fun w' _ => exec_build1 59 0 _ rfl _ _ rfl (run_game (newM l1 l2) ⟨.slice a1 l1.length c1, .slice a2 l2.length c2, .slice (some ⟨w.heap.size + 1, 0, none⟩) 128 128, .slice (some ⟨w.heap.size + 1 + 1, 0, none⟩) 64 64, .slice (some ⟨w.heap.size + 1 + 1 + 1, 0, none⟩) 256 256⟩ w')⟩) trivial ?_
        simp only [Act.put, List.setIfInBounds_toArray, List.set_cons_zero, List.set_cons_succ]
        refine wpAnyH_ready (rs := [7]) (by kernel_rfl) (by simp) ?_
        refine AllReadyH.cons (o := { dst := some 13, op := _, type := _, pos := _, after := _, guard := none }) rfl (fun K hK => ?_) AllReadyH.nil
        go_simp
        refine hK.out _ _ trivial (fun _ => ?_)
        clear hK K
        refine cutH (NG w l1 l2 ⟨w.heap.size + 1, Y.heap.size, 0, 0, w.heap.size + 1, w.heap.size + 1 + 1, w.heap.size + 1 + 1 + 1, ⟨.slice a1 l1.length c1, .slice a2 l2.length c2, .slice (some ⟨w.heap.size + 1, 0, none⟩) 128 128, .slice (some ⟨w.heap.size + 1 + 1, 0, none⟩) 64 64, .slice (some ⟨w.heap.size + 1 + 1 + 1, 0, none⟩) 256 256⟩⟩ (newM l1 l2)) HG.out ?_
        intro Z hZ
        have HZ := hid hZ
        clear hZ
        try simp only [Act.put, List.setIfInBounds_toArray, List.set_cons_zero, List.set_cons_succ]
        refine wpAnyH_take (i := 8) (oi := { dst := some 5, op := _, type := _, pos := _, after := _, guard := none }) (v := ?_) rfl (by kernel_rfl) (by kernel_rfl) (by kernel_rfl) (fun _ _ _ h => h) (Or.inl ⟨by rfl, ?_⟩) trivial ?_
        rotate_left 1
        focus (intro w hSw; (try dsimp only at hSw); go_simp; try (with_reducible rfl))
        simp only [Act.put, List.setIfInBounds_toArray, List.set_cons_zero, List.set_cons_succ]
        refine wpAnyH_done (by kernel_rfl) ?_ _
        try go_simp
        rename_i hM _ _
        refine hM _ _ ?_
        go_meet
        exact ⟨_, rfl, HZ.out⟩
      · refine wpAnyH_ready (rs := [3]) (by kernel_rfl) (by simp) ?_
        refine consH_make (op := { dst := some 9, op := _, type := _, pos := _, after := _, guard := none }) rfl rfl 22 _ _ rfl (.int .i64 64) (.int .i64 64) _ rfl rfl (mk64 _ (w.heap.size + 1 + 1 + 1) (by simp)) trivial ?_ AllReadyH.nil
        all_goals simp only [Act.put, List.setIfInBounds_toArray, List.set_cons_zero, List.set_cons_succ]
        refine cutH (fun Y => NF w l1 l2 ⟨.slice a1 l1.length c1, .slice a2 l2.length c2, .slice (some ⟨w.heap.size + 1, 0, none⟩) 128 128, .slice (some ⟨w.heap.size + 1 + 1 + 1, 0, none⟩) 64 64, .slice (some ⟨w.heap.size + 1 + 1, 0, none⟩) 256 256⟩ Y ∧ Bx Y (w.heap.size + 1) (List.replicate 128 (.int .u8 0)) ∧ Bx Y (w.heap.size + 1 + 1 + 1) (List.replicate 64 (.int .u8 0)) ∧ Bx Y (w.heap.size + 1 + 1) (List.replicate 256 (.int .u8 0))) (nf_all H1.out H2.out ?_ ?_ ?_ ?_ ?_) ?_
        · repeat (first | exact st0 _ | refine Below.drew ?_ | refine stA ?_ _)
        · repeat (first | exact HR.out | refine Bx.drew ?_ | refine Bx.over ?_ _)
        · repeat (first | exact Bx.new _ (List.replicate 128 (.int .u8 0)) _ (by simp) | refine Bx.drew ?_ | refine Bx.over ?_ _)
        · repeat (first | exact Bx.new _ (List.replicate 64 (.int .u8 0)) _ (by simp) | refine Bx.drew ?_ | refine Bx.over ?_ _)
        · repeat (first | exact Bx.new _ (List.replicate 256 (.int .u8 0)) _ (by simp) | refine Bx.drew ?_ | refine Bx.over ?_ _)
        rintro Y ⟨hY, y1, y2, y3⟩
        have HG := hid (NG.of hl1 hl2 H1.out H2.out hY.low hY.res y1 y2 y3 (by omega) 59)
        clear hY y1 y2 y3
        refine wpAnyH_take (i := 5) (oi := { dst := some 11, op := _, type := _, pos := _, after := _, guard := none }) (v := .agg (machL (newM l1 l2) ⟨.slice a1 l1.length c1, .slice a2 l2.length c2, .slice (some ⟨w.heap.size + 1, 0, none⟩) 128 128, .slice (some ⟨w.heap.size + 1 + 1 + 1, 0, none⟩) 64 64, .slice (some ⟨w.heap.size + 1 + 1, 0, none⟩) 256 256⟩).toArray) rfl (by kernel_rfl) (by kernel_rfl) (by kernel_rfl) (fun _ _ _ h => h) (Or.inl ⟨by rfl, fun w' _ => exec_build6 41 2 3 4 5 6 14 _ _ _ _ _ _ rfl _ _ _ _ _ _ _ rfl rfl rfl rfl rfl rfl (run_new a1 a2 l1.length c1 l2.length c2 (w.heap.size + 1) (w.heap.size + 1 + 1 + 1) (w.heap.size + 1 + 1) l1 l2 w')⟩) trivial ?_
        simp only [Act.put, List.setIfInBounds_toArray, List.set_cons_zero, List.set_cons_succ]
        refine wpAnyH_take (i := 6) (oi := { dst := some 12, op := _, type := _, pos := _, after := _, guard := none }) (v := .agg (machL (newM l1 l2) ⟨.slice a1 l1.length c1, .slice a2 l2.length c2, .slice (some ⟨w.heap.size + 1, 0, none⟩) 128 128, .slice (some ⟨w.heap.size + 1 + 1 + 1, 0, none⟩) 64 64, .slice (some ⟨w.heap.size + 1 + 1, 0, none⟩) 256 256⟩ ++ gtl).toArray) rfl (by kernel_rfl) (by kernel_rfl) (by kernel_rfl) (fun _ _ _ h => h) (Or.inl ⟨by rfl, fun w' _ => exec_build1 59 0 _ rfl _ _ rfl (run_game (newM l1 l2) ⟨.slice a1 l1.length c1, .slice a2 l2.length c2, .slice (some ⟨w.heap.size + 1, 0, none⟩) 128 128, .slice (some ⟨w.heap.size + 1 + 1 + 1, 0, none⟩) 64 64, .slice (some ⟨w.heap.size + 1 + 1, 0, none⟩) 256 256⟩ w')⟩) trivial ?_
        simp only [Act.put, List.setIfInBounds_toArray, List.set_cons_zero, List.set_cons_succ]
        refine wpAnyH_ready (rs := [7]) (by kernel_rfl) (by simp) ?_
        refine AllReadyH.cons (o := { dst := some 13, op := _, type := _, pos := _, after := _, guard := none }) rfl (fun K hK => ?_) AllReadyH.nil
        go_simp
        refine hK.out _ _ trivial (fun _ => ?_)
        clear hK K
        refine cutH (NG w l1 l2 ⟨w.heap.size + 1, Y.heap.size, 0, 0, w.heap.size + 1, w.heap.size + 1 + 1 + 1, w.heap.size + 1 + 1, ⟨.slice a1 l1.length c1, .slice a2 l2.length c2, .slice (some ⟨w.heap.size + 1, 0, none⟩) 128 128, .slice (some ⟨w.heap.size + 1 + 1 + 1, 0, none⟩) 64 64, .slice (some ⟨w.heap.size + 1 + 1, 0, none⟩) 256 256⟩⟩ (newM l1 l2)) HG.out ?_
        intro Z hZ
        have HZ := hid hZ
        clear hZ
        try simp only [Act.put, List.setIfInBounds_toArray, List.set_cons_zero, List.set_cons_succ]
        refine wpAnyH_take (i := 8) (oi := { dst := some 5, op := _, type := _, pos := _, after := _, guard := none }) (v := ?_) rfl (by kernel_rfl) (by kernel_rfl) (by kernel_rfl) (fun _ _ _ h => h) (Or.inl ⟨by rfl, ?_⟩) trivial ?_
        rotate_left 1
        focus (intro w hSw; (try dsimp only at hSw); go_simp; try (with_reducible rfl))
        simp only [Act.put, List.setIfInBounds_toArray, List.set_cons_zero, List.set_cons_succ]
        refine wpAnyH_done (by kernel_rfl) ?_ _
        try go_simp
        rename_i hM _ _
        refine hM _ _ ?_
        go_meet
        exact ⟨_, rfl, HZ.out⟩
    · refine wpAnyH_ready (rs := [2, 4]) (by kernel_rfl) (by simp) ?_
      refine consH_make (op := { dst := some 8, op := _, type := _, pos := _, after := _, guard := none }) rfl rfl 22 _ _ rfl (.int .i64 128) (.int .i64 128) _ rfl rfl (mk128 _ (w.heap.size + 1 + 1) (by simp)) trivial ?_ (consH_make (op := { dst := some 10, op := _, type := _, pos := _, after := _, guard := none }) rfl rfl 22 _ _ rfl (.int .i64 256) (.int .i64 256) _ rfl rfl (mkV _ (w.heap.size + 1 + 1) (by simp)) trivial ?_ AllReadyH.nil)
      all_goals simp only [Act.put, List.setIfInBounds_toArray, List.set_cons_zero, List.set_cons_succ]
      · refine wpAnyH_ready (rs := [4]) (by kernel_rfl) (by simp) ?_
        refine consH_make (op := { dst := some 10, op := _, type := _, pos := _, after := _, guard := none }) rfl rfl 22 _ _ rfl (.int .i64 256) (.int .i64 256) _ rfl rfl (mkV _ (w.heap.size + 1 + 1 + 1) (by simp)) trivial ?_ AllReadyH.nil
        all_goals simp only [Act.put, List.setIfInBounds_toArray, List.set_cons_zero, List.set_cons_succ]
        refine cutH (fun Y => NF w l1 l2 ⟨.slice a1 l1.length c1, .slice a2 l2.length c2, .slice (some ⟨w.heap.size + 1 + 1, 0, none⟩) 128 128, .slice (some ⟨w.heap.size + 1, 0, none⟩) 64 64, .slice (some ⟨w.heap.size + 1 + 1 + 1, 0, none⟩) 256 256⟩ Y ∧ Bx Y (w.heap.size + 1 + 1) (List.replicate 128 (.int .u8 0)) ∧ Bx Y (w.heap.size + 1) (List.replicate 64 (.int .u8 0)) ∧ Bx Y (w.heap.size + 1 + 1 + 1) (List.replicate 256 (.int .u8 0))) (nf_all H1.out H2.out ?_ ?_ ?_ ?_ ?_) ?_
        · repeat (first | exact st0 _ | refine Below.drew ?_ | refine stA ?_ _)
        · repeat (first | exact HR.out | refine Bx.drew ?_ | refine Bx.over ?_ _)
        · repeat (first | exact Bx.new _ (List.replicate 128 (.int .u8 0)) _ (by simp) | refine Bx.drew ?_ | refine Bx.over ?_ _)
        · repeat (first | exact Bx.new _ (List.replicate 64 (.int .u8 0)) _ (by simp) | refine Bx.drew ?_ | refine Bx.over ?_ _)
        · repeat (first | exact Bx.new _ (List.replicate 256 (.int .u8 0)) _ (by simp) | refine Bx.drew ?_ | refine Bx.over ?_ _)
        rintro Y ⟨hY, y1, y2, y3⟩
        have HG := hid (NG.of hl1 hl2 H1.out H2.out hY.low hY.res y1 y2 y3 (by omega) 59)
        clear hY y1 y2 y3
        refine wpAnyH_take (i := 5) (oi := { dst := some 11, op := _, type := _, pos := _, after := _, guard := none }) (v := .agg (machL (newM l1 l2) ⟨.slice a1 l1.length c1, .slice a2 l2.length c2, .slice (some ⟨w.heap.size + 1 + 1, 0, none⟩) 128 128, .slice (some ⟨w.heap.size + 1, 0, none⟩) 64 64, .slice (some ⟨w.heap.size + 1 + 1 + 1, 0, none⟩) 256 256⟩).toArray) rfl (by kernel_rfl) (by kernel_rfl) (by kernel_rfl) (fun _ _ _ h => h) (Or.inl ⟨by rfl, fun w' _ => exec_build6 41 2 3 4 5 6 14 _ _ _ _ _ _ rfl _ _ _ _ _ _ _ rfl rfl rfl rfl rfl rfl (run_new a1 a2 l1.length c1 l2.length c2 (w.heap.size + 1 + 1) (w.heap.size + 1) (w.heap.size + 1 + 1 + 1) l1 l2 w')⟩) trivial ?_
        simp only [Act.put, List.setIfInBounds_toArray, List.set_cons_zero, List.set_cons_succ]
        refine wpAnyH_take (i := 6) (oi := { dst := some 12, op := _, type := _, pos := _, after := _, guard := none }) (v := .agg (machL (newM l1 l2) ⟨.slice a1 l1.length c1, .slice a2 l2.length c2, .slice (some ⟨w.heap.size + 1 + 1, 0, none⟩) 128 128, .slice (some ⟨w.heap.size + 1, 0, none⟩) 64 64, .slice (some ⟨w.heap.size + 1 + 1 + 1, 0, none⟩) 256 256⟩ ++ gtl).toArray) rfl (by kernel_rfl) (by kernel_rfl) (by kernel_rfl) (fun _ _ _ h => h) (Or.inl ⟨by rfl, fun w' _ => exec_build1 59 0 _ rfl _ _ rfl (run_game (newM l1 l2) ⟨.slice a1 l1.length c1, .slice a2 l2.length c2, .slice (some ⟨w.heap.size + 1 + 1, 0, none⟩) 128 128, .slice (some ⟨w.heap.size + 1, 0, none⟩) 64 64, .slice (some ⟨w.heap.size + 1 + 1 + 1, 0, none⟩) 256 256⟩ w')⟩) trivial ?_
        simp only [Act.put, List.setIfInBounds_toArray, List.set_cons_zero, List.set_cons_succ]
        refine wpAnyH_ready (rs := [7]) (by kernel_rfl) (by simp) ?_
        refine AllReadyH.cons (o := { dst := some 13, op := _, type := _, pos := _, after := _, guard := none }) rfl (fun K hK => ?_) AllReadyH.nil
        go_simp
        refine hK.out _ _ trivial (fun _ => ?_)
        clear hK K
        refine cutH (NG w l1 l2 ⟨w.heap.size + 1, Y.heap.size, 0, 0, w.heap.size + 1 + 1, w.heap.size + 1, w.heap.size + 1 + 1 + 1, ⟨.slice a1 l1.length c1, .slice a2 l2.length c2, .slice (some ⟨w.heap.size + 1 + 1, 0, none⟩) 128 128, .slice (some ⟨w.heap.size + 1, 0, none⟩) 64 64, .slice (some ⟨w.heap.size + 1 + 1 + 1, 0, none⟩) 256 256⟩⟩ (newM l1 l2)) HG.out ?_
        intro Z hZ
        have HZ := hid hZ
        clear hZ
        try simp only [Act.put, List.setIfInBounds_toArray, List.set_cons_zero, List.set_cons_succ]
        refine wpAnyH_take (i := 8) (oi := { dst := some 5, op := _, type := _, pos := _, after := _, guard := none }) (v := ?_) rfl (by kernel_rfl) (by kernel_rfl) (by kernel_rfl) (fun _ _ _ h => h) (Or.inl ⟨by rfl, ?_⟩) trivial ?_
        rotate_left 1
        focus (intro w hSw; (try dsimp only at hSw); go_simp; try (with_reducible rfl))
        simp only [Act.put, List.setIfInBounds_toArray, List.set_cons_zero, List.set_cons_succ]
        refine wpAnyH_done (by kernel_rfl) ?_ _
        try go_simp
        rename_i hM _ _
        refine hM _ _ ?_
        go_meet
        exact ⟨_, rfl, HZ.out⟩
      · refine wpAnyH_ready (rs := [2]) (by kernel_rfl) (by simp) ?_
        refine consH_make (op := { dst := some 8, op := _, type := _, pos := _, after := _, guard := none }) rfl rfl 22 _ _ rfl (.int .i64 128) (.int .i64 128) _ rfl rfl (mk128 _ (w.heap.size + 1 + 1 + 1) (by simp)) trivial ?_ AllReadyH.nil
        all_goals simp only [Act.put, List.setIfInBounds_toArray, List.set_cons_zero, List.set_cons_succ]
        refine cutH (fun Y => NF w l1 l2 ⟨.slice a1 l1.length c1, .slice a2 l2.length c2, .slice (some ⟨w.heap.size + 1 + 1 + 1, 0, none⟩) 128 128, .slice (some ⟨w.heap.size + 1, 0, none⟩) 64 64, .slice (some ⟨w.heap.size + 1 + 1, 0, none⟩) 256 256⟩ Y ∧ Bx Y (w.heap.size + 1 + 1 + 1) (List.replicate 128 (.int .u8 0)) ∧ Bx Y (w.heap.size + 1) (List.replicate 64 (.int .u8 0)) ∧ Bx Y (w.heap.size + 1 + 1) (List.replicate 256 (.int .u8 0))) (nf_all H1.out H2.out ?_ ?_ ?_ ?_ ?_) ?_
        · repeat (first | exact st0 _ | refine Below.drew ?_ | refine stA ?_ _)
        · repeat (first | exact HR.out | refine Bx.drew ?_ | refine Bx.over ?_ _)
        · repeat (first | exact Bx.new _ (List.replicate 128 (.int .u8 0)) _ (by simp) | refine Bx.drew ?_ | refine Bx.over ?_ _)
        · repeat (first | exact Bx.new _ (List.replicate 64 (.int .u8 0)) _ (by simp) | refine Bx.drew ?_ | refine Bx.over ?_ _)
        · repeat (first | exact Bx.new _ (List.replicate 256 (.int .u8 0)) _ (by simp) | refine Bx.drew ?_ | refine Bx.over ?_ _)
        rintro Y ⟨hY, y1, y2, y3⟩
        have HG := hid (NG.of hl1 hl2 H1.out H2.out hY.low hY.res y1 y2 y3 (by omega) 59)
        clear hY y1 y2 y3
        refine wpAnyH_take (i := 5) (oi := { dst := some 11, op := _, type := _, pos := _, after := _, guard := none }) (v := .agg (machL (newM l1 l2) ⟨.slice a1 l1.length c1, .slice a2 l2.length c2, .slice (some ⟨w.heap.size + 1 + 1 + 1, 0, none⟩) 128 128, .slice (some ⟨w.heap.size + 1, 0, none⟩) 64 64, .slice (some ⟨w.heap.size + 1 + 1, 0, none⟩) 256 256⟩).toArray) rfl (by kernel_rfl) (by kernel_rfl) (by kernel_rfl) (fun _ _ _ h => h) (Or.inl ⟨by rfl, fun w' _ => exec_build6 41 2 3 4 5 6 14 _ _ _ _ _ _ rfl _ _ _ _ _ _ _ rfl rfl rfl rfl rfl rfl (run_new a1 a2 l1.length c1 l2.length c2 (w.heap.size + 1 + 1 + 1) (w.heap.size + 1) (w.heap.size + 1 + 1) l1 l2 w')⟩) trivial ?_
        simp only [Act.put, List.setIfInBounds_toArray, List.set_cons_zero, List.set_cons_succ]
        refine wpAnyH_take (i := 6) (oi := { dst := some 12, op := _, type := _, pos := _, after := _, guard := none }) (v := .agg (machL (newM l1 l2) ⟨.slice a1 l1.length c1, .slice a2 l2.length c2, .slice (some ⟨w.heap.size + 1 + 1 + 1, 0, none⟩) 128 128, .slice (some ⟨w.heap.size + 1, 0, none⟩) 64 64, .slice (some ⟨w.heap.size + 1 + 1, 0, none⟩) 256 256⟩ ++ gtl).toArray) rfl (by kernel_rfl) (by kernel_rfl) (by kernel_rfl) (fun _ _ _ h => h) (Or.inl ⟨by rfl, fun w' _ => exec_build1 59 0 _ rfl _ _ rfl (run_game (newM l1 l2) ⟨.slice a1 l1.length c1, .slice a2 l2.length c2, .slice (some ⟨w.heap.size + 1 + 1 + 1, 0, none⟩) 128 128, .slice (some ⟨w.heap.size + 1, 0, none⟩) 64 64, .slice (some ⟨w.heap.size + 1 + 1, 0, none⟩) 256 256⟩ w')⟩) trivial ?_
        simp only [Act.put, List.setIfInBounds_toArray, List.set_cons_zero, List.set_cons_succ]
        refine wpAnyH_ready (rs := [7]) (by kernel_rfl) (by simp) ?_
        refine AllReadyH.cons (o := { dst := some 13, op := _, type := _, pos := _, after := _, guard := none }) rfl (fun K hK => ?_) AllReadyH.nil
        go_simp
        refine hK.out _ _ trivial (fun _ => ?_)
        clear hK K
        refine cutH (NG w l1 l2 ⟨w.heap.size + 1, Y.heap.size, 0, 0, w.heap.size + 1 + 1 + 1, w.heap.size + 1, w.heap.size + 1 + 1, ⟨.slice a1 l1.length c1, .slice a2 l2.length c2, .slice (some ⟨w.heap.size + 1 + 1 + 1, 0, none⟩) 128 128, .slice (some ⟨w.heap.size + 1, 0, none⟩) 64 64, .slice (some ⟨w.heap.size + 1 + 1, 0, none⟩) 256 256⟩⟩ (newM l1 l2)) HG.out ?_
        intro Z hZ
        have HZ := hid hZ
        clear hZ
        try simp only [Act.put, List.setIfInBounds_toArray, List.set_cons_zero, List.set_cons_succ]
        refine wpAnyH_take (i := 8) (oi := { dst := some 5, op := _, type := _, pos := _, after := _, guard := none }) (v := ?_) rfl (by kernel_rfl) (by kernel_rfl) (by kernel_rfl) (fun _ _ _ h => h) (Or.inl ⟨by rfl, ?_⟩) trivial ?_
        rotate_left 1
        focus (intro w hSw; (try dsimp only at hSw); go_simp; try (with_reducible rfl))
        simp only [Act.put, List.setIfInBounds_toArray, List.set_cons_zero, List.set_cons_succ]
        refine wpAnyH_done (by kernel_rfl) ?_ _
        try go_simp
        rename_i hM _ _
        refine hM _ _ ?_
        go_meet
        exact ⟨_, rfl, HZ.out⟩
    · refine wpAnyH_ready (rs := [2, 3]) (by kernel_rfl) (by simp) ?_
      refine consH_make (op := { dst := some 8, op := _, type := _, pos := _, after := _, guard := none }) rfl rfl 22 _ _ rfl (.int .i64 128) (.int .i64 128) _ rfl rfl (mk128 _ (w.heap.size + 1 + 1) (by simp)) trivial ?_ (consH_make (op := { dst := some 9, op := _, type := _, pos := _, after := _, guard := none }) rfl rfl 22 _ _ rfl (.int .i64 64) (.int .i64 64) _ rfl rfl (mk64 _ (w.heap.size + 1 + 1) (by simp)) trivial ?_ AllReadyH.nil)
      all_goals simp only [Act.put, List.setIfInBounds_toArray, List.set_cons_zero, List.set_cons_succ]
      · refine wpAnyH_ready (rs := [3]) (by kernel_rfl) (by simp) ?_
        refine consH_make (op := { dst := some 9, op := _, type := _, pos := _, after := _, guard := none }) rfl rfl 22 _ _ rfl (.int .i64 64) (.int .i64 64) _ rfl rfl (mk64 _ (w.heap.size + 1 + 1 + 1) (by simp)) trivial ?_ AllReadyH.nil
        all_goals simp only [Act.put, List.setIfInBounds_toArray, List.set_cons_zero, List.set_cons_succ]
        refine cutH (fun Y => NF w l1 l2 ⟨.slice a1 l1.length c1, .slice a2 l2.length c2, .slice (some ⟨w.heap.size + 1 + 1, 0, none⟩) 128 128, .slice (some ⟨w.heap.size + 1 + 1 + 1, 0, none⟩) 64 64, .slice (some ⟨w.heap.size + 1, 0, none⟩) 256 256⟩ Y ∧ Bx Y (w.heap.size + 1 + 1) (List.replicate 128 (.int .u8 0)) ∧ Bx Y (w.heap.size + 1 + 1 + 1) (List.replicate 64 (.int .u8 0)) ∧ Bx Y (w.heap.size + 1) (List.replicate 256 (.int .u8 0))) (nf_all H1.out H2.out ?_ ?_ ?_ ?_ ?_) ?_
        · repeat (first | exact st0 _ | refine Below.drew ?_ | refine stA ?_ _)
        · repeat (first | exact HR.out | refine Bx.drew ?_ | refine Bx.over ?_ _)
        · repeat (first | exact Bx.new _ (List.replicate 128 (.int .u8 0)) _ (by simp) | refine Bx.drew ?_ | refine Bx.over ?_ _)
        · repeat (first | exact Bx.new _ (List.replicate 64 (.int .u8 0)) _ (by simp) | refine Bx.drew ?_ | refine Bx.over ?_ _)
        · repeat (first | exact Bx.new _ (List.replicate 256 (.int .u8 0)) _ (by simp) | refine Bx.drew ?_ | refine Bx.over ?_ _)
        rintro Y ⟨hY, y1, y2, y3⟩
        have HG := hid (NG.of hl1 hl2 H1.out H2.out hY.low hY.res y1 y2 y3 (by omega) 59)
        clear hY y1 y2 y3
        refine wpAnyH_take (i := 5) (oi := { dst := some 11, op := _, type := _, pos := _, after := _, guard := none }) (v := .agg (machL (newM l1 l2) ⟨.slice a1 l1.length c1, .slice a2 l2.length c2, .slice (some ⟨w.heap.size + 1 + 1, 0, none⟩) 128 128, .slice (some ⟨w.heap.size + 1 + 1 + 1, 0, none⟩) 64 64, .slice (some ⟨w.heap.size + 1, 0, none⟩) 256 256⟩).toArray) rfl (by kernel_rfl) (by kernel_rfl) (by kernel_rfl) (fun _ _ _ h => h) (Or.inl ⟨by rfl, fun w' _ => exec_build6 41 2 3 4 5 6 14 _ _ _ _ _ _ rfl _ _ _ _ _ _ _ rfl rfl rfl rfl rfl rfl (run_new a1 a2 l1.length c1 l2.length c2 (w.heap.size + 1 + 1) (w.heap.size + 1 + 1 + 1) (w.heap.size + 1) l1 l2 w')⟩) trivial ?_
        simp only [Act.put, List.setIfInBounds_toArray, List.set_cons_zero, List.set_cons_succ]
        refine wpAnyH_take (i := 6) (oi := { dst := some 12, op := _, type := _, pos := _, after := _, guard := none }) (v := .agg (machL (newM l1 l2) ⟨.slice a1 l1.length c1, .slice a2 l2.length c2, .slice (some ⟨w.heap.size + 1 + 1, 0, none⟩) 128 128, .slice (some ⟨w.heap.size + 1 + 1 + 1, 0, none⟩) 64 64, .slice (some ⟨w.heap.size + 1, 0, none⟩) 256 256⟩ ++ gtl).toArray) rfl (by kernel_rfl) (by kernel_rfl) (by kernel_rfl) (fun _ _ _ h => h) (Or.inl ⟨by rfl, fun w' _ => exec_build1 59 0 _ rfl _ _ rfl (run_game (newM l1 l2) ⟨.slice a1 l1.length c1, .slice a2 l2.length c2, .slice (some ⟨w.heap.size + 1 + 1, 0, none⟩) 128 128, .slice (some ⟨w.heap.size + 1 + 1 + 1, 0, none⟩) 64 64, .slice (some ⟨w.heap.size + 1, 0, none⟩) 256 256⟩ w')⟩) trivial ?_
        simp only [Act.put, List.setIfInBounds_toArray, List.set_cons_zero, List.set_cons_succ]
        refine wpAnyH_ready (rs := [7]) (by kernel_rfl) (by simp) ?_
        refine AllReadyH.cons (o := { dst := some 13, op := _, type := _, pos := _, after := _, guard := none }) rfl (fun K hK => ?_) AllReadyH.nil
        go_simp
        refine hK.out _ _ trivial (fun _ => ?_)
        clear hK K
        refine cutH (NG w l1 l2 ⟨w.heap.size + 1, Y.heap.size, 0, 0, w.heap.size + 1 + 1, w.heap.size + 1 + 1 + 1, w.heap.size + 1, ⟨.slice a1 l1.length c1, .slice a2 l2.length c2, .slice (some ⟨w.heap.size + 1 + 1, 0, none⟩) 128 128, .slice (some ⟨w.heap.size + 1 + 1 + 1, 0, none⟩) 64 64, .slice (some ⟨w.heap.size + 1, 0, none⟩) 256 256⟩⟩ (newM l1 l2)) HG.out ?_
        intro Z hZ
        have HZ := hid hZ
        clear hZ
        try simp only [Act.put, List.setIfInBounds_toArray, List.set_cons_zero, List.set_cons_succ]
        refine wpAnyH_take (i := 8) (oi := { dst := some 5, op := _, type := _, pos := _, after := _, guard := none }) (v := ?_) rfl (by kernel_rfl) (by kernel_rfl) (by kernel_rfl) (fun _ _ _ h => h) (Or.inl ⟨by rfl, ?_⟩) trivial ?_
        rotate_left 1
        focus (intro w hSw; (try dsimp only at hSw); go_simp; try (with_reducible rfl))
        simp only [Act.put, List.setIfInBounds_toArray, List.set_cons_zero, List.set_cons_succ]
        refine wpAnyH_done (by kernel_rfl) ?_ _
        try go_simp
        rename_i hM _ _
        refine hM _ _ ?_
        go_meet
        exact ⟨_, rfl, HZ.out⟩
      · refine wpAnyH_ready (rs := [2]) (by kernel_rfl) (by simp) ?_
        refine consH_make (op := { dst := some 8, op := _, type := _, pos := _, after := _, guard := none }) rfl rfl 22 _ _ rfl (.int .i64 128) (.int .i64 128) _ rfl rfl (mk128 _ (w.heap.size + 1 + 1 + 1) (by simp)) trivial ?_ AllReadyH.nil
        all_goals simp only [Act.put, List.setIfInBounds_toArray, List.set_cons_zero, List.set_cons_succ]
        refine cutH (fun Y => NF w l1 l2 ⟨.slice a1 l1.length c1, .slice a2 l2.length c2, .slice (some ⟨w.heap.size + 1 + 1 + 1, 0, none⟩) 128 128, .slice (some ⟨w.heap.size + 1 + 1, 0, none⟩) 64 64, .slice (some ⟨w.heap.size + 1, 0, none⟩) 256 256⟩ Y ∧ Bx Y (w.heap.size + 1 + 1 + 1) (List.replicate 128 (.int .u8 0)) ∧ Bx Y (w.heap.size + 1 + 1) (List.replicate 64 (.int .u8 0)) ∧ Bx Y (w.heap.size + 1) (List.replicate 256 (.int .u8 0))) (nf_all H1.out H2.out ?_ ?_ ?_ ?_ ?_) ?_
        · repeat (first | exact st0 _ | refine Below.drew ?_ | refine stA ?_ _)
        · repeat (first | exact HR.out | refine Bx.drew ?_ | refine Bx.over ?_ _)
        · repeat (first | exact Bx.new _ (List.replicate 128 (.int .u8 0)) _ (by simp) | refine Bx.drew ?_ | refine Bx.over ?_ _)
        · repeat (first | exact Bx.new _ (List.replicate 64 (.int .u8 0)) _ (by simp) | refine Bx.drew ?_ | refine Bx.over ?_ _)
        · repeat (first | exact Bx.new _ (List.replicate 256 (.int .u8 0)) _ (by simp) | refine Bx.drew ?_ | refine Bx.over ?_ _)
        rintro Y ⟨hY, y1, y2, y3⟩
        have HG := hid (NG.of hl1 hl2 H1.out H2.out hY.low hY.res y1 y2 y3 (by omega) 59)
        clear hY y1 y2 y3
        refine wpAnyH_take (i := 5) (oi := { dst := some 11, op := _, type := _, pos := _, after := _, guard := none }) (v := .agg (machL (newM l1 l2) ⟨.slice a1 l1.length c1, .slice a2 l2.length c2, .slice (some ⟨w.heap.size + 1 + 1 + 1, 0, none⟩) 128 128, .slice (some ⟨w.heap.size + 1 + 1, 0, none⟩) 64 64, .slice (some ⟨w.heap.size + 1, 0, none⟩) 256 256⟩).toArray) rfl (by kernel_rfl) (by kernel_rfl) (by kernel_rfl) (fun _ _ _ h => h) (Or.inl ⟨by rfl, fun w' _ => exec_build6 41 2 3 4 5 6 14 _ _ _ _ _ _ rfl _ _ _ _ _ _ _ rfl rfl rfl rfl rfl rfl (run_new a1 a2 l1.length c1 l2.length c2 (w.heap.size + 1 + 1 + 1) (w.heap.size + 1 + 1) (w.heap.size + 1) l1 l2 w')⟩) trivial ?_
        simp only [Act.put, List.setIfInBounds_toArray, List.set_cons_zero, List.set_cons_succ]
        refine wpAnyH_take (i := 6) (oi := { dst := some 12, op := _, type := _, pos := _, after := _, guard := none }) (v := .agg (machL (newM l1 l2) ⟨.slice a1 l1.length c1, .slice a2 l2.length c2, .slice (some ⟨w.heap.size + 1 + 1 + 1, 0, none⟩) 128 128, .slice (some ⟨w.heap.size + 1 + 1, 0, none⟩) 64 64, .slice (some ⟨w.heap.size + 1, 0, none⟩) 256 256⟩ ++ gtl).toArray) rfl (by kernel_rfl) (by kernel_rfl) (by kernel_rfl) (fun _ _ _ h => h) (Or.inl ⟨by rfl, fun w' _ => exec_build1 59 0 _ rfl _ _ rfl (run_game (newM l1 l2) ⟨.slice a1 l1.length c1, .slice a2 l2.length c2, .slice (some ⟨w.heap.size + 1 + 1 + 1, 0, none⟩) 128 128, .slice (some ⟨w.heap.size + 1 + 1, 0, none⟩) 64 64, .slice (some ⟨w.heap.size + 1, 0, none⟩) 256 256⟩ w')⟩) trivial ?_
        simp only [Act.put, List.setIfInBounds_toArray, List.set_cons_zero, List.set_cons_succ]
        refine wpAnyH_ready (rs := [7]) (by kernel_rfl) (by simp) ?_
        refine AllReadyH.cons (o := { dst := some 13, op := _, type := _, pos := _, after := _, guard := none }) rfl (fun K hK => ?_) AllReadyH.nil
        go_simp
        refine hK.out _ _ trivial (fun _ => ?_)
        clear hK K
        refine cutH (NG w l1 l2 ⟨w.heap.size + 1, Y.heap.size, 0, 0, w.heap.size + 1 + 1 + 1, w.heap.size + 1 + 1, w.heap.size + 1, ⟨.slice a1 l1.length c1, .slice a2 l2.length c2, .slice (some ⟨w.heap.size + 1 + 1 + 1, 0, none⟩) 128 128, .slice (some ⟨w.heap.size + 1 + 1, 0, none⟩) 64 64, .slice (some ⟨w.heap.size + 1, 0, none⟩) 256 256⟩⟩ (newM l1 l2)) HG.out ?_
        intro Z hZ
        have HZ := hid hZ
        clear hZ
        try simp only [Act.put, List.setIfInBounds_toArray, List.set_cons_zero, List.set_cons_succ]
        refine wpAnyH_take (i := 8) (oi := { dst := some 5, op := _, type := _, pos := _, after := _, guard := none }) (v := ?_) rfl (by kernel_rfl) (by kernel_rfl) (by kernel_rfl) (fun _ _ _ h => h) (Or.inl ⟨by rfl, ?_⟩) trivial ?_
        rotate_left 1
        focus (intro w hSw; (try dsimp only at hSw); go_simp; try (with_reducible rfl))
        simp only [Act.put, List.setIfInBounds_toArray, List.set_cons_zero, List.set_cons_succ]
        refine wpAnyH_done (by kernel_rfl) ?_ _
        try go_simp
        rename_i hM _ _
        refine hM _ _ ?_
        go_meet
        exact ⟨_, rfl, HZ.out⟩
  case rest =>
  obtain ⟨F, rfl, hG⟩ := hcut
  have HG := hid hG
  have hg := hG.gd.bx.z
  clear hG
  go_wp2_with (first
    | (go_at_call 18; refine (Gm.main_val F.g _).mono ?_; rintro e w2 ⟨rfl, hb2, hv2⟩; have HG2 := hid (HG.out.kept hb2); have HP2 := hid (MainV.pu HG.out.gd hv2); have hg2 := HG2.out.gd.bx.z; clear hb2 hv2)
    | (go_at_call 28; refine (Gm.begin_M HG2.out.gd HP2.out.g).mono ?_; rintro e w3 ⟨rfl, hb3⟩; have HG3 := hid (HG2.out.kept hb3); have hg3 := HG3.out.gd.bx.z; clear hb3)
    | (refine wpList_store_mid rfl 26 _ _ rfl F.g 0 (begL ((newM l1 l2).lookM 0 * 256 + (newM l1 l2).lookM 1)).toArray rfl rfl (HG3.out.gd.bx.there 0 15 (by rw [F.len]; omega)) info_cpu (beg_one _) ?_
       refine Pl.cutL (NG w l1 l2 F (newD l1 l2)) (NG.main HG3.out) ?_
       intro V hV
       have HV := hid hV
       have hgv := hV.gd.bx.z
       clear hV)
    | (refine wpList_load_mid rfl 41 _ rfl F.g 0 rfl (machL (newD l1 l2) F.S) _ HV.out.gd.row Try.underlying41 rfl info_mach ?_)
    | (refine wpList_store_mid rfl 41 _ _ rfl w.heap.size 0 (machL (newD l1 l2) F.S).toArray rfl rfl (HV.out.res.there 0 75 (by rw [machL_len]; omega)) info_mach (machL_one _ _ HV.out.gd.isSl) ?_
       refine Pl.cutL (fun X => Below w.heap.size w X ∧ Bx X w.heap.size (machL (newD l1 l2) F.S) ∧ SlAt X F.S (newD l1 l2)) (NG.fin HV.out) ?_
       rintro X ⟨hX1, hX2, hX3⟩
       have HX1 := hid hX1
       have HX2 := hid hX2
       have HX3 := hid hX3
       clear hX1 hX2 hX3))
  have hl := load_mach _ _ HX2.out.c
  refine bodyPost_ret (v := .agg (machL (newD l1 l2) F.S).toArray) ?_ rfl ⟨F.S, rfl, HX3.out, HV.out.gd.fit, HX1.out⟩
  simp only [results, Try.results14]
  simp
  exact Pl.res hl
end Go.Proofs.Ythooknikfachnaa
