/-
  The Go text of the law PictureMoves returns true.
-/
import Derived.Test.YtcdemkafbphdbaaPicK
import Derived.Deep.DeepCutAuto
import Derived.Deep.CutBlock
namespace Go.Proofs.Ytcdemkafbphdbaa
open Go.ChangeShapes Go.WideShapes Go.ChangeAt Go.RowKit
set_option linter.unusedVariables false

/-- It is left at once. -/
theorem moves_bad (v : Value) (l : List UInt8) (y n : Int) (w : World) (h : sliceAt w v l) (hb : ¬ (l.length = 256 ∧ 0 ≤ y ∧ y < 8)) :
    Calls Try.prog 4 #[v, .int .i64 y, .int .u8 n] w fun e w' => e = .returned (.bool true) ∧ Below w.heap.size w w' := by
  obtain ⟨a, c, rfl⟩ := slice_len h
  by_cases hl : l.length = 256
  · have hl' : ((l.length : Int) != 256) = false := by rw [hl]; rfl
    by_cases hy : y < 0
    · clear h hl hb
      go_enter Try.func4, Try.ntmps4
      go_wp2_with (go_at_call 9; refine (drawnLaw _).mono ?_; rintro e w1 ⟨rfl, hb1⟩)
      go_ret
      exact ⟨rfl, hb1⟩
    · have hy2 : (8 : Int) ≤ y := by omega
      clear h hl hb
      go_enter Try.func4, Try.ntmps4
      go_wp2_with (go_at_call 9; refine (drawnLaw _).mono ?_; rintro e w1 ⟨rfl, hb1⟩)
      go_ret
      exact ⟨rfl, hb1⟩
  · have hl' : ((l.length : Int) != 256) = true := by simp; omega
    clear h hl hb
    go_enter Try.func4, Try.ntmps4
    go_wp2_with (go_at_call 9; refine (drawnLaw _).mono ?_; rintro e w1 ⟨rfl, hb1⟩)
    go_ret
    exact ⟨rfl, hb1⟩
set_option maxRecDepth 100000 in
set_option maxHeartbeats 6400000 in
theorem moves_ok (m : List UInt8) (v : Value) (y n : Nat) (w : World) (h : sliceAt w v m) (hm : m.length = 256) (hy : y < 8) (hn : n < 256) :
    Calls Try.prog 4 #[v, .int .i64 y, .int .u8 n] w fun e w' => e = .returned (.bool true) ∧ Below w.heap.size w w' := by
  have H := hid h
  obtain ⟨a, c, rfl⟩ := slice_len h
  have HM := hid hm
  rw [hm]
  have hy1 : ¬ (y : Int) < 0 := by omega
  have hy2 : ¬ (8 : Int) ≤ y := by omega
  clear h hm
  go_enter Try.func4, Try.ntmps4
  go_upto_block 0 with (at_builtin; refine app256 (by rfl) _ _ (by rfl) _ rfl (by simp) _ rfl m (by rw [← HM.out]; exact H.out) HM.out ?_; intro ga ca w1 hga hca hMb hb1; have HA := hid hMb; have HB := hid hb1; clear hMb hb1)
  go_cut [30] (fun i W => Mb W ga (nowh m 8) ∧ Below w.heap.size w W)
  case first =>
    go_wp2_with fail
    go_loopw [30] (fun i W => ∃ j : Nat, j ≤ 8 ∧ i = .int .i64 j ∧ Mb W ga (nowh m j) ∧ Below w.heap.size w W) (fun i _ => 8 - (intOf i).toNat)
    case atStart => exact ⟨0, Nat.zero_le _, rfl, HA.out, HB.out⟩
    case round =>
      clear HA HB
      obtain ⟨j, hj, rfl, hA, hbl⟩ := hrel
      have HA := hid hA
      have HB := hid hbl
      clear hA hbl
      by_cases h8 : j < 8
      · have h8' : (j : Int) < 8 := by omega
        have c0 := HA.out.at (128 + 4 * j) (by omega)
        have f0 := HA.out.b.f (128 + 4 * j)
        go_wp2
        exact ⟨⟨j + 1, h8, by go_num, HA.out.set (128 + 4 * j) 200 (by omega) (by decide), Bl.set HB.out hga _⟩, by simp [intOf]; omega⟩
      · have h9 : ¬ (j : Int) < 8 := by omega
        have e8 : j = 8 := by omega
        subst e8
        clear h8 hj
        go_wp2
        go_meet
        exact ⟨HA.out, HB.out⟩
  case rest =>
  obtain ⟨hA, hB⟩ := hcut
  clear HA HB
  have HA := hid hA
  have HB := hid hB
  clear hA hB
  obtain ⟨A, hAe⟩ : ∃ A, A = nowh m 8 := ⟨_, rfl⟩
  have HP := hid (fun x => moves_plain m HM.out y x n hy)
  rw [← hAe] at HP HA
  have HAL : Hid (A.length = 256) := by rw [hAe]; exact (nowh_len m 8).trans HM.out
  clear hAe
  have hg168 := gb_lt A 168
  have HN0 : Hid ((gb A 168 + n) % 256 < 256) := Nat.mod_lt _ (by decide)
  have hwr : IntKind.u8.wrap ((gb A 168 : Int) + n) = (((gb A 168 + n) % 256 : Nat) : Int) := by rw [IntKind.wrap_u8]; omega
  go_upto_block 2 with (first
    | (at_builtin; refine app256 (by rfl) _ _ (by rfl) _ rfl (by simp) _ rfl A (by exact bx_slice HA.out.b HAL.out.symm (by rw [HAL.out]; exact hca)) HAL.out ?_; intro gB cB w2 hgB hcB hMb hb2; have HA2 := hid (HA.out.kept hb2); have HN2 := hid hMb; have HB2 := hid (stp HB.out hb2); have hne := Nat.lt_of_lt_of_le HA.out.b.z hgB; have c168 := hMb.at 168 (by decide); have f168 := hMb.b.f 168; have HA3 := hid (HA2.out.far (b' := gB) (o' := 168) (Nat.ne_of_gt hne) (.int .u8 ((gb A 168 + n) % 256 : Nat))); have HN3 := hid (HN2.out.set 168 _ (by decide) HN0.out); have HB3 := hid (Bl.set (o := 168) HB2.out (Nat.le_trans hga (Nat.le_of_lt hne)) (.int .u8 ((gb A 168 + n) % 256 : Nat))); clear hMb hb2)
    | (go_at_call 6; refine (line_ok (mvB A n) _ _ _ _ y _ ((HN3.out.kept HQ3.out).mm cB) hy).mono ?_; rintro e w5 ⟨rfl, hb5⟩; have HQ5 := hid (stp HQ3.out hb5); have HX5 := hid (HX3.out.kept hb5); clear hb5)
    | (go_at_call 6; refine (line_ok A _ _ _ _ y _ (HA3.out.mm ca) hy).mono ?_; rintro e w3 ⟨rfl, hb3⟩; have HQ2 := hid hb3; clear hb3)
    | (refine st16 rfl _ _ rfl w5.heap.size (px (mvB A n) y) (fun _ => 0) rfl rfl (Bx.new w5 (row16 fun _ => 0) _ rfl) ?_; rintro w6 hw6 hB6; have HY6 := hid hB6; have HW6 := hid hw6; clear hB6 hw6)
    | (refine st16 rfl _ _ rfl w3.heap.size (px A y) (fun _ => 0) rfl rfl (Bx.new w3 (row16 fun _ => 0) _ rfl) ?_; rintro w4 hw4 hB4; have HX3 := hid hB4; have HW4 := hid hw4; have HQ3 := hid (show Below _ _ w4 by rw [hw4]; exact Bl.puts (stA HQ2.out _) HQ2.out.size _); clear hB4 hw4)
    | (go_at_call 9; refine (drawnLaw _).mono ?_; rintro e w7 ⟨rfl, hb7⟩; have HB7 := hid hb7; clear hb7))
  have HX7 : Hid (Bx w7 w3.heap.size (row16 (px A y))) := (by
    refine Bx.kept ?_ HB7.out
    rw [HW6.out]
    exact (HX5.out.over _).fars (Nat.ne_of_gt HX5.out.z) _ _)
  have HY7 := hid (HY6.out.kept HB7.out)
  have HA7 : Hid (Mb w7 ga A) := (by
    refine Mb.kept ?_ HB7.out
    rw [HW6.out]
    refine ⟨((HA3.out.kept HQ5.out).over _).b.fars (Nat.ne_of_gt ?_) _ _, HAL.out⟩
    exact (HA3.out.kept HQ5.out).b.z)
  have HL7 : Hid (Below w.heap.size w w7) := stp (by rw [HW6.out]; exact Bl.puts (stA (stp HB3.out HQ5.out) _) (stp HB3.out HQ5.out).size _) HB7.out
  clear HX3 HX5 HW4 HW6 HY6 HB7 HQ2 HQ3 HQ5 HA HB HA2 HN2 HB2 HA3 HN3 HB3 c168 f168 hwr HN0 hg168
  go_wp2_with fail
  go_loopw [70] (fun i W => ∃ x : Nat, x ≤ 16 ∧ i = .int .i64 x ∧ Bx W w3.heap.size (row16 (px A y)) ∧ Bx W w5.heap.size (row16 (px (mvB A n) y)) ∧ Mb W ga A ∧ Below w.heap.size w W) (fun i _ => 16 - (intOf i).toNat)
  case atStart => exact ⟨0, Nat.zero_le _, rfl, HX7.out, HY7.out, HA7.out, HL7.out⟩
  case round =>
    clear HX7 HY7 HA7 HL7
    obtain ⟨x, hx, rfl, hX, hY, hA, hbl⟩ := hrel
    have HX := hid hX
    have HY := hid hY
    have HA := hid hA
    have HB := hid hbl
    clear hX hY hA hbl
    by_cases h16 : x < 16
    · have h16' : (x : Int) < 16 := by omega
      have hxm : (x + n) % 16 < 16 := Nat.mod_lt _ (by decide)
      have c0 := HX.out.at x _ (row16_at _ h16)
      have c1 := HY.out.at x _ (row16_at _ h16)
      have c2 := HX.out.at ((x + n) % 16) _ (row16_at _ hxm)
      rw [(HP.out x).1] at c1
      rw [(HP.out x).2] at c0
      have q3 : ((px A y ((x + n) % 16) : Int) != (px A y ((x + n) % 16) : Int)) = false := by simp
      have HCt : Hid (∀ q : Nat, ∀ cc : Nat, Calls Try.prog 13 #[.slice (some ⟨ga, 160, none⟩) 4 cc, .int .u8 (gb A (160 + gd A y x))] (wr.drewN q) fun e w' => e = .returned (.bool true) ∧ w' = wr.drewN q) := fun q cc =>
        contains_has ga 160 cc (fun j => gb A (160 + j)) (gd A y x) _ (fun j hj => (HA.out.kept (Bl.drewN (st0 wr) q)).at (160 + j) (by omega)) (gd_lt ..)
      go_upto_region 18 with fail
      go_cut [92] (fun cc W => cc = .bool false ∧ Bx W w3.heap.size (row16 (px A y)) ∧ Bx W w5.heap.size (row16 (px (mvB A n) y)) ∧ Mb W ga A ∧ Below w.heap.size w W)
      case first =>
        go_quiet ((go_at_call 13; exact Calls.quiet_of_same (HCt.out _ _)))
        rename_i hM
        refine hM _ _ ?_
        go_meet
        exact ⟨rfl, HX.out.kept (Bl.drewN (st0 _) _), HY.out.kept (Bl.drewN (st0 _) _), HA.out.kept (Bl.drewN (st0 _) _), stp HB.out (Bl.drewN (st0 _) _)⟩
      case rest =>
      obtain ⟨rfl, hX, hY, hA, hbl⟩ := hcut
      have HX2 := hid hX
      have HY2 := hid hY
      have HA2 := hid hA
      have HB2 := hid hbl
      clear hX hY hA hbl
      go_wp2
      exact ⟨⟨x + 1, h16, by go_num, HX2.out, HY2.out, HA2.out, HB2.out⟩, by simp [intOf]; omega⟩
    · have h17 : ¬ (x : Int) < 16 := by omega
      go_wp2
      go_ret
      exact ⟨rfl, HB.out⟩
end Go.Proofs.Ytcdemkafbphdbaa
