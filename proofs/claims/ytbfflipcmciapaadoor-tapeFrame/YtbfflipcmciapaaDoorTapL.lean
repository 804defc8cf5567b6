/-
  slices.Equal of rows of pixels.
-/
import Derived.Test.YtbfflipcmciapaaDoorTapK
import Derived.ChangeKeysEq
namespace Go.Proofs.YtbfflipcmciapaaDoor
open Go.ChangeShapes Go.WideShapes Go.ChangeAt Go.RowKit
set_option linter.unusedVariables false
set_option maxRecDepth 100000

set_option maxRecDepth 100000 in
set_option maxHeartbeats 800000 in
theorem Tp.eq_ar16 (a0 a1 a2 a3 a4 a5 a6 a7 a8 a9 a10 a11 a12 a13 a14 a15 : Int) (w : World) : (binOp .eql 58 (.agg #[.int .u8 a0, .int .u8 a1, .int .u8 a2, .int .u8 a3, .int .u8 a4, .int .u8 a5, .int .u8 a6, .int .u8 a7, .int .u8 a8, .int .u8 a9, .int .u8 a10, .int .u8 a11, .int .u8 a12, .int .u8 a13, .int .u8 a14, .int .u8 a15]) (.agg #[.int .u8 a0, .int .u8 a1, .int .u8 a2, .int .u8 a3, .int .u8 a4, .int .u8 a5, .int .u8 a6, .int .u8 a7, .int .u8 a8, .int .u8 a9, .int .u8 a10, .int .u8 a11, .int .u8 a12, .int .u8 a13, .int .u8 a14, .int .u8 a15])).run Tryd.prog w = .ok (.bool true) w := by
  have u3 := Tryd.underlying5
  have x3 := Tryd.isAgg5
  have z3 := Tryd.sizeOf5
  have hU : Tryd.prog.cellsOf 5 = 1 := by kernel_rfl
  have hs : (Tryd.prog.info? 5).isSome = true := by kernel_rfl
  obtain ⟨i, hi⟩ := Option.isSome_iff_exists.1 hs
  rw [run_eql_struct, run_equalIn_array w 9999 _ _ Tryd.underlying58 hi, hU]
  simp only [List.range, List.range.loop, Op.eqItems]
  go_simp
theorem Tp.nq_16 (f : Nat → Int) (w : World) : (binOp .neq 58 (.agg (Tp.r16 f).toArray) (.agg (Tp.r16 f).toArray)).run Tryd.prog w = .ok (.bool false) w := Tp.neq_of (Tp.eq_ar16 (f 0) (f 1) (f 2) (f 3) (f 4) (f 5) (f 6) (f 7) (f 8) (f 9) (f 10) (f 11) (f 12) (f 13) (f 14) (f 15) w)
set_option maxHeartbeats 1600000 in
theorem Tp.same16 (v1 v2 : Value) (l : List (Nat → Int)) (w : World) (h1 : Tp.Rw w v1 l.length 16 (Tp.pxs l)) (h2 : Tp.Rw w v2 l.length 16 (Tp.pxs l)) (hl : l.length ≤ 1000000) :
    Calls Tryd.prog 22 #[v1, v2] w fun e w' => e = .returned (.bool true) ∧ Below w.heap.size w w' := by
  obtain ⟨a1, k1, e1⟩ := h1.len
  obtain ⟨a2, k2, e2⟩ := h2.len
  subst e1 e2
  have H1 := hid h1
  have H2 := hid h2
  clear h1 h2
  go_enter Tryd.func22, Tryd.ntmps22
  go_wp2
  go_loopw [13] (fun i wr => ∃ j : Nat, j ≤ l.length ∧ i = .int .i64 j ∧ Below w.heap.size w wr) (fun i _ => l.length - (intOf i).toNat)
  case atStart => exact ⟨0, Nat.zero_le _, rfl, st0 w⟩
  case round =>
    obtain ⟨j, hj, rfl, hb⟩ := hrel
    have HB := hid hb
    by_cases hlt : j < l.length
    · have hlt2 : (j : Int) < l.length := by omega
      have hj0 : (0 : Int) ≤ j := by omega
      have hjs : (j : Int) < 1000000 := by omega
      obtain ⟨x, hx⟩ : ∃ x, l[j]? = some x := ⟨_, List.getElem?_eq_getElem hlt⟩
      obtain ⟨g1, o1, c1, q1, z1, r1⟩ := (H1.out.kept hb).range hlt (Tp.pxs_row l j x hx)
      obtain ⟨g2, o2, c2, q2, z2, r2⟩ := (H2.out.kept hb).range hlt (Tp.pxs_row l j x hx)
      cases q1
      cases q2
      have hnq := Tp.nq_16 x
      clear hb hx
      go_upto_region 6 with fail
      refine wp_region_held_drew (S := fun w' => w'.rangeAt g1 (o1 + j * 16) (Tp.r16 x) ∧ w'.rangeAt g2 (o2 + j * 16) (Tp.r16 x)) (by kernel_rfl) ⟨r1, r2⟩ ?_
      intro hS
      refine wpAnyH_take (i := 0) (oi := { dst := some 16, op := _, type := _, pos := _, after := _, guard := none }) (v := ?_) rfl (by kernel_rfl) (by kernel_rfl) (by kernel_rfl) (fun _ _ _ h => h) (Or.inl ⟨by rfl, ?_⟩) hS ?_
      rotate_left 1
      focus (intro w hSw; clear hSw; go_simp; try (with_reducible rfl))
      simp only [Act.put, List.setIfInBounds_toArray, List.set_cons_zero, List.set_cons_succ]
      refine wpAnyH_take (i := 1) (oi := { dst := some 17, op := _, type := _, pos := _, after := _, guard := none }) (v := ?_) rfl (by kernel_rfl) (by kernel_rfl) (by kernel_rfl) (fun _ _ _ h => h) (Or.inl ⟨by rfl, ?_⟩) hS ?_
      rotate_left 1
      focus (intro w hSw; clear hSw; go_simp; try (with_reducible rfl))
      simp only [Act.put, List.setIfInBounds_toArray, List.set_cons_zero, List.set_cons_succ]
      refine wpAnyH_take (i := 2) (oi := { dst := some 18, op := _, type := _, pos := _, after := _, guard := none }) (v := ?_) rfl (by kernel_rfl) (by kernel_rfl) (by kernel_rfl) (fun _ _ _ h => h) (Or.inl ⟨by rfl, ?_⟩) hS ?_
      rotate_left 1
      focus (intro w hSw; clear hSw; go_simp; try (with_reducible rfl))
      simp only [Act.put, List.setIfInBounds_toArray, List.set_cons_zero, List.set_cons_succ]
      refine wpAnyH_take (i := 3) (oi := { dst := some 19, op := _, type := _, pos := _, after := _, guard := none }) (v := .agg (Tp.r16 x).toArray) rfl (by kernel_rfl) (by kernel_rfl) (by kernel_rfl) (fun _ _ _ h => h) (Or.inl ⟨by rfl, fun w' hSw => Tp.exec_load 58 _ rfl g1 (o1 + j * 16) rfl (Tp.r16 x) _ hSw.1 Tryd.underlying58 rfl Tp.info_16⟩) hS ?_
      simp only [Act.put, List.setIfInBounds_toArray, List.set_cons_zero, List.set_cons_succ]
      refine wpAnyH_take (i := 4) (oi := { dst := some 20, op := _, type := _, pos := _, after := _, guard := none }) (v := ?_) rfl (by kernel_rfl) (by kernel_rfl) (by kernel_rfl) (fun _ _ _ h => h) (Or.inl ⟨by rfl, ?_⟩) hS ?_
      rotate_left 1
      focus (intro w hSw; clear hSw; go_simp; try (with_reducible rfl))
      simp only [Act.put, List.setIfInBounds_toArray, List.set_cons_zero, List.set_cons_succ]
      refine wpAnyH_take (i := 5) (oi := { dst := some 21, op := _, type := _, pos := _, after := _, guard := none }) (v := ?_) rfl (by kernel_rfl) (by kernel_rfl) (by kernel_rfl) (fun _ _ _ h => h) (Or.inl ⟨by rfl, ?_⟩) hS ?_
      rotate_left 1
      focus (intro w hSw; clear hSw; go_simp; try (with_reducible rfl))
      simp only [Act.put, List.setIfInBounds_toArray, List.set_cons_zero, List.set_cons_succ]
      refine wpAnyH_take (i := 6) (oi := { dst := some 22, op := _, type := _, pos := _, after := _, guard := none }) (v := ?_) rfl (by kernel_rfl) (by kernel_rfl) (by kernel_rfl) (fun _ _ _ h => h) (Or.inl ⟨by rfl, ?_⟩) hS ?_
      rotate_left 1
      focus (intro w hSw; clear hSw; go_simp; try (with_reducible rfl))
      simp only [Act.put, List.setIfInBounds_toArray, List.set_cons_zero, List.set_cons_succ]
      refine wpAnyH_take (i := 7) (oi := { dst := some 23, op := _, type := _, pos := _, after := _, guard := none }) (v := .agg (Tp.r16 x).toArray) rfl (by kernel_rfl) (by kernel_rfl) (by kernel_rfl) (fun _ _ _ h => h) (Or.inl ⟨by rfl, fun w' hSw => Tp.exec_load 58 _ rfl g2 (o2 + j * 16) rfl (Tp.r16 x) _ hSw.2 Tryd.underlying58 rfl Tp.info_16⟩) hS ?_
      simp only [Act.put, List.setIfInBounds_toArray, List.set_cons_zero, List.set_cons_succ]
      refine wpAnyH_take (i := 8) (oi := { dst := some 24, op := _, type := _, pos := _, after := _, guard := none }) (v := ?_) rfl (by kernel_rfl) (by kernel_rfl) (by kernel_rfl) (fun _ _ _ h => h) (Or.inl ⟨by rfl, ?_⟩) hS ?_
      rotate_left 1
      focus (intro w hSw; clear hSw; go_simp; try (with_reducible rfl))
      simp only [Act.put, List.setIfInBounds_toArray, List.set_cons_zero, List.set_cons_succ]
      refine wpAnyH_done (by kernel_rfl) ?_ _
      clear hS r1 r2
      go_wp2
      exact ⟨⟨j + 1, by omega, by simp, HB.out.drew⟩, by simp [intOf]; omega⟩
    · have hnl : ¬ (j : Int) < l.length := by omega
      clear hb
      go_wp2
      go_ret
      exact ⟨rfl, HB.out⟩
end Go.Proofs.YtbfflipcmciapaaDoor
