/-
  The Go text of the law PictureBehind returns true.
-/
import Derived.Test.YtcdemkafbphdbaaPicJ
import Derived.Deep.DeepCutAuto
import Derived.Deep.CutBlock
namespace Go.Proofs.Ytcdemkafbphdbaa
open Go.ChangeShapes Go.WideShapes Go.ChangeAt Go.RowKit
set_option linter.unusedVariables false

/-- It is left at once. -/
theorem behind_bad (v : Value) (l : List UInt8) (y : Int) (w : World) (h : sliceAt w v l) (hb : ¬ (l.length = 256 ∧ 0 ≤ y ∧ y < 8)) :
    Calls Try.prog 5 #[v, .int .i64 y] w fun e w' => e = .returned (.bool true) ∧ Below w.heap.size w w' := by
  obtain ⟨a, c, rfl⟩ := slice_len h
  by_cases hl : l.length = 256
  · have hl' : ((l.length : Int) != 256) = false := by rw [hl]; rfl
    by_cases hy : y < 0
    · clear h hl hb
      go_enter Try.func5, Try.ntmps5
      go_wp2_with (go_at_call 9; refine (drawnLaw _).mono ?_; rintro e w1 ⟨rfl, hb1⟩)
      go_ret
      exact ⟨rfl, hb1⟩
    · have hy2 : (8 : Int) ≤ y := by omega
      clear h hl hb
      go_enter Try.func5, Try.ntmps5
      go_wp2_with (go_at_call 9; refine (drawnLaw _).mono ?_; rintro e w1 ⟨rfl, hb1⟩)
      go_ret
      exact ⟨rfl, hb1⟩
  · have hl' : ((l.length : Int) != 256) = true := by simp; omega
    clear h hl hb
    go_enter Try.func5, Try.ntmps5
    go_wp2_with (go_at_call 9; refine (drawnLaw _).mono ?_; rintro e w1 ⟨rfl, hb1⟩)
    go_ret
    exact ⟨rfl, hb1⟩
set_option maxRecDepth 100000 in
set_option maxHeartbeats 6400000 in
theorem behind_ok (m : List UInt8) (v : Value) (y : Nat) (w : World) (h : sliceAt w v m) (hm : m.length = 256) (hy : y < 8) :
    Calls Try.prog 5 #[v, .int .i64 y] w fun e w' => e = .returned (.bool true) ∧ Below w.heap.size w w' := by
  have H := hid h
  obtain ⟨a, c, rfl⟩ := slice_len h
  have HM := hid hm
  rw [hm]
  have hy1 : ¬ (y : Int) < 0 := by omega
  have hy2 : ¬ (8 : Int) ≤ y := by omega
  clear h hm
  go_enter Try.func5, Try.ntmps5
  go_upto_block 0 with (at_builtin; refine app256 (by rfl) _ _ (by rfl) _ rfl (by simp) _ rfl m (by rw [← HM.out]; exact H.out) HM.out ?_; intro ga ca w1 hga hca hMb hb1; have HA := hid hMb; have HB := hid hb1; clear hMb hb1)
  go_cut [29] (fun i W => Mb W ga (bhd m 8) ∧ Below w.heap.size w W)
  case first =>
    go_wp2_with fail
    go_loopw [29] (fun i W => ∃ j : Nat, j ≤ 8 ∧ i = .int .i64 j ∧ Mb W ga (bhd m j) ∧ Below w.heap.size w W) (fun i _ => 8 - (intOf i).toNat)
    case atStart => exact ⟨0, Nat.zero_le _, rfl, HA.out, HB.out⟩
    case round =>
      clear HA HB
      obtain ⟨j, hj, rfl, hA, hbl⟩ := hrel
      have HA := hid hA
      have HB := hid hbl
      clear hA hbl
      by_cases h8 : j < 8
      · have h8' : (j : Int) < 8 := by omega
        have c0 := HA.out.at (131 + 4 * j) (by omega)
        have f0 := HA.out.b.f (131 + 4 * j)
        have ho : bits .or .u8 (gb (bhd m j) (131 + 4 * j) : Int) 128 = ((gb (bhd m j) (131 + 4 * j) ||| 128 : Nat) : Int) := by
          rw [show (128 : Int) = ((128 : Nat) : Int) from rfl, u8_or_nat _ _ (gb_lt ..) (by decide)]
        go_wp2
        exact ⟨⟨j + 1, h8, by go_num, HA.out.set (131 + 4 * j) _ (by omega) (or_lt _ (gb_lt ..)), Bl.set HB.out hga _⟩, by simp [intOf]; omega⟩
      · have h9 : ¬ (j : Int) < 8 := by omega
        have e8 : j = 8 := by omega
        subst e8
        clear h8 hj
        go_wp2
        go_meet
        exact ⟨HA.out, HB.out⟩
  case rest =>
  obtain ⟨hA, hB⟩ := hcut
  clear HA HB
  have HA := hid hA
  have HB := hid hB
  clear hA hB
  have c160 := HA.out.at 160 (by decide)
  have c161 := HA.out.at 161 (by decide)
  have c162 := HA.out.at 162 (by decide)
  have c163 := HA.out.at 163 (by decide)
  have fz := HA.out.b.f
  have HA1 : Hid (Mb ((((wc.setCell ⟨ga, 160, none⟩ (.int .u8 0)).setCell ⟨ga, 161, none⟩ (.int .u8 1)).setCell ⟨ga, 162, none⟩ (.int .u8 2)).setCell ⟨ga, 163, none⟩ (.int .u8 3)) ga (bA m)) := (((HA.out.set 160 0 (by decide) (by decide)).set 161 1 (by decide) (by decide)).set 162 2 (by decide) (by decide)).set 163 3 (by decide) (by decide)
  have HB1 : Hid (Below w.heap.size w ((((wc.setCell ⟨ga, 160, none⟩ (.int .u8 0)).setCell ⟨ga, 161, none⟩ (.int .u8 1)).setCell ⟨ga, 162, none⟩ (.int .u8 2)).setCell ⟨ga, 163, none⟩ (.int .u8 3))) := Bl.set (Bl.set (Bl.set (Bl.set HB.out hga _) hga _) hga _) hga _
  have HAL : Hid ((bA m).length = 256) := (bA_len m).trans HM.out
  go_upto_block 2 with (at_builtin; refine app256 (by rfl) _ _ (by rfl) _ rfl (by simp) _ rfl (bA m) (by exact bx_slice HA1.out.b HAL.out.symm (by rw [HAL.out]; exact hca)) HAL.out ?_; intro gB cB w2 hgB hcB hMb hb2; have HA2 := hid (HA1.out.kept hb2); have HN2 := hid hMb; have HB2 := hid (stp HB1.out hb2); have hne := Nat.lt_of_lt_of_le HA1.out.b.z hgB; clear hMb hb2)
  clear HA1 HB1 HA HB c160 c161 c162 c163 fz hgB
  go_cut [52] (fun i W => Mb W ga (bA m) ∧ Mb W gB (nowh (bA m) 8) ∧ Below w.heap.size w W)
  case first =>
    go_wp2_with fail
    go_loopw [52] (fun i W => ∃ j : Nat, j ≤ 8 ∧ i = .int .i64 j ∧ Mb W ga (bA m) ∧ Mb W gB (nowh (bA m) j) ∧ Below w.heap.size w W) (fun i _ => 8 - (intOf i).toNat)
    case atStart => exact ⟨0, Nat.zero_le _, rfl, HA2.out, HN2.out, HB2.out⟩
    case round =>
      clear HA2 HN2 HB2
      obtain ⟨j, hj, rfl, hA, hN, hbl⟩ := hrel
      have HA := hid hA
      have HN := hid hN
      have HB := hid hbl
      clear hA hN hbl
      by_cases h8 : j < 8
      · have h8' : (j : Int) < 8 := by omega
        have c0 := HN.out.at (128 + 4 * j) (by omega)
        have f0 := HN.out.b.f (128 + 4 * j)
        go_wp2
        exact ⟨⟨j + 1, h8, by go_num, HA.out.far (by omega) _, HN.out.set (128 + 4 * j) 200 (by omega) (by decide), Bl.set HB.out (by omega) _⟩, by simp [intOf]; omega⟩
      · have h9 : ¬ (j : Int) < 8 := by omega
        have e8 : j = 8 := by omega
        subst e8
        clear h8 hj
        go_wp2
        go_meet
        exact ⟨HA.out, HN.out, HB.out⟩
  case rest =>
  obtain ⟨hA, hN, hB⟩ := hcut
  clear HA2 HN2 HB2
  have HA := hid hA
  have HN := hid hN
  have HB := hid hB
  clear hA hN hB
  go_upto_block 4 with (first
    | (go_at_call 6; refine (line_ok (nowh (bA m) 8) _ _ _ _ y _ ((HN.out.kept HQ3.out).mm cB) hy).mono ?_; rintro e w5 ⟨rfl, hb5⟩; have HQ5 := hid (stp HQ3.out hb5); have HX5 := hid (HX3.out.kept hb5); clear hb5)
    | (go_at_call 6; refine (line_ok (bA m) _ _ _ _ y _ (HA.out.mm ca) hy).mono ?_; rintro e w3 ⟨rfl, hb3⟩; have HQ2 := hid hb3; clear hb3)
    | (refine st16 rfl _ _ rfl w5.heap.size (px (nowh (bA m) 8) y) (fun _ => 0) rfl rfl (Bx.new w5 (row16 fun _ => 0) _ rfl) ?_; rintro w6 hw6 hB6; have HY6 := hid hB6; have HW6 := hid hw6; clear hB6 hw6)
    | (refine st16 rfl _ _ rfl w3.heap.size (px (bA m) y) (fun _ => 0) rfl rfl (Bx.new w3 (row16 fun _ => 0) _ rfl) ?_; rintro w4 hw4 hB4; have HX3 := hid hB4; have HW4 := hid hw4; have HQ3 : Hid (Below wc.heap.size wc w4) := (by rw [hw4]; exact Bl.puts (stA HQ2.out _) HQ2.out.size _); clear hB4 hw4)
    | (go_at_call 9; refine (drawnLaw _).mono ?_; rintro e w7 ⟨rfl, hb7⟩; have HB7 := hid hb7; clear hb7))
  have HX7 : Hid (Bx w7 w3.heap.size (row16 (px (bA m) y))) := (by
    refine Bx.kept ?_ HB7.out
    rw [HW6.out]
    exact (HX5.out.over _).fars (Nat.ne_of_gt HX5.out.z) _ _)
  have HY7 := hid (HY6.out.kept HB7.out)
  have HL7 : Hid (Below w.heap.size w w7) := stp (by rw [HW6.out]; exact Bl.puts (stA (stp HB.out HQ5.out) _) (stp HB.out HQ5.out).size _) HB7.out
  have HP := hid (fun x => behind_plain m HM.out y x hy)
  clear HX3 HX5 HW4 HW6 HY6 HB7 HQ2 HQ3 HQ5 HA HN HB
  go_wp2_with fail
  go_loopw [83] (fun i W => ∃ x : Nat, x ≤ 16 ∧ i = .int .i64 x ∧ Bx W w3.heap.size (row16 (px (bA m) y)) ∧ Bx W w5.heap.size (row16 (px (nowh (bA m) 8) y)) ∧ Below w.heap.size w W) (fun i _ => 16 - (intOf i).toNat)
  case atStart => exact ⟨0, Nat.zero_le _, rfl, HX7.out, HY7.out, HL7.out⟩
  case round =>
    clear HX7 HY7 HL7
    obtain ⟨x, hx, rfl, hX, hY, hbl⟩ := hrel
    have HX := hid hX
    have HY := hid hY
    have HB := hid hbl
    clear hX hY hbl
    by_cases h16 : x < 16
    · have h16' : (x : Int) < 16 := by omega
      have c0 := HX.out.at x _ (row16_at _ h16)
      have c1 := HY.out.at x _ (row16_at _ h16)
      obtain ⟨p1, p2⟩ := HP.out x
      have q0 : ¬ (3 : Int) < (px (nowh (bA m) 8) y x : Int) := by omega
      by_cases hp : px (nowh (bA m) 8) y x = 0
      · have q1 : ((px (nowh (bA m) 8) y x : Int) != 0) = false := by rw [hp]; rfl
        clear hp p1 p2
        go_upto_region 23 with fail
        go_cut [104] (fun cc W => cc = .bool false ∧ Bx W w3.heap.size (row16 (px (bA m) y)) ∧ Bx W w5.heap.size (row16 (px (nowh (bA m) 8) y)) ∧ Below w.heap.size w W)
        case first =>
          go_quiet (fail)
          rename_i hM
          refine hM _ _ ?_
          go_meet
          exact ⟨rfl, HX.out.kept (Bl.drewN (st0 _) _), HY.out.kept (Bl.drewN (st0 _) _), stp HB.out (Bl.drewN (st0 _) _)⟩
        case rest =>
        obtain ⟨rfl, hX, hY, hbl⟩ := hcut
        have HX2 := hid hX
        have HY2 := hid hY
        have HB2 := hid hbl
        clear hX hY hbl
        go_wp2
        exact ⟨⟨x + 1, h16, by go_num, HX2.out, HY2.out, HB2.out⟩, by simp [intOf]; omega⟩
      · have q1 : ((px (nowh (bA m) 8) y x : Int) != 0) = true := by simp; omega
        have q2 := p2 hp
        rw [q2] at c0
        have q3 : ((px (nowh (bA m) 8) y x : Int) != (px (nowh (bA m) 8) y x : Int)) = false := by simp
        clear hp p1 p2 q2
        go_upto_region 23 with fail
        go_cut [104] (fun cc W => cc = .bool false ∧ Bx W w3.heap.size (row16 (px (bA m) y)) ∧ Bx W w5.heap.size (row16 (px (nowh (bA m) 8) y)) ∧ Below w.heap.size w W)
        case first =>
          go_quiet (fail)
          rename_i hM
          refine hM _ _ ?_
          go_meet
          exact ⟨rfl, HX.out.kept (Bl.drewN (st0 _) _), HY.out.kept (Bl.drewN (st0 _) _), stp HB.out (Bl.drewN (st0 _) _)⟩
        case rest =>
        obtain ⟨rfl, hX, hY, hbl⟩ := hcut
        have HX2 := hid hX
        have HY2 := hid hY
        have HB2 := hid hbl
        clear hX hY hbl
        go_wp2
        exact ⟨⟨x + 1, h16, by go_num, HX2.out, HY2.out, HB2.out⟩, by simp [intOf]; omega⟩
    · have h17 : ¬ (x : Int) < 16 := by omega
      go_wp2
      go_ret
      exact ⟨rfl, HB.out⟩
end Go.Proofs.Ytcdemkafbphdbaa
