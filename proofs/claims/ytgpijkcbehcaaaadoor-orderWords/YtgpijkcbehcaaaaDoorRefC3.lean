/-
  What the reference's CheckOrder answers of any other order; nothing old is written.
-/
import Derived.Test.YtgpijkcbehcaaaaDoorRefC
namespace Go.Proofs.YtgpijkcbehcaaaaDoor
open Go.ChangeShapes Go.WideShapes Go.ChangeAt Go.RowKit
set_option linter.unusedVariables false

set_option maxRecDepth 100000 in
set_option maxHeartbeats 1600000 in
theorem ckr_k3 (k : Nat) (hk : k < 32) (h30 : k ≠ 30) (e1 : ((K.name k).toList == [115, 104, 108]) = false) (e2 : ((K.name k).toList == [115, 104, 114]) = false) (hl : O.lowN k = -16) (d s n ww : Int) (w : World) (hF : Facts w) :
    Calls Tryd.prog 11 #[.agg #[.int .i64 k, .int .i64 d, .int .i64 s, .int .i64 n, .int .i64 ww]] w fun e w' => e = .returned (.int .i64 (O.ck k d s n ww)) ∧ Below w.heap.size w w' := by
  have H := hid ((O.isOp_iff k).2 (by omega))
  have HF := hid hF
  clear hF
  have hki : (0 : Int) ≤ k := by omega
  have hki2 : (k : Int) < 32 := by omega
  go_enter Tryd.func11, Tryd.ntmps11
  go_upto_region 3 with (go_at_call 13; refine (isOp_any _ _).mono ?_; rw [H.out]; rintro e w' ⟨rfl, rfl⟩)
  go_cut [3] (fun p wx => ∃ b, p = .pointer (some ⟨b, 0, none⟩) ∧ refAt wx b w.heap.size k d s n ww ∧ Below w.heap.size w wx)
  case first =>
    have ad : ∀ (W : World) (o : Obj), W.drew.alloc o = (W.alloc o).drew := fun _ _ => rfl
    have sd : ∀ (W : World) (x : Addr) (v : Value), W.drew.setCell x v = (W.setCell x v).drew := fun _ _ _ => rfl
    go_region_with (go_at_call 5; refine (kinds_of _ (by repeat first | exact HF.out | apply facts_drew | apply facts_alloc)).mono ?_; rintro e w1 ⟨g, cap, rfl, htb, hg1, hg2, hb1⟩; obtain ⟨c0, c1, c2⟩ := htb k hk; clear htb; obtain ⟨hcX, hfX⟩ := bcell hb1; obtain ⟨q0, hz1, hB⟩ := boxKept (w := w) (k := k) (d := d) (s := s) (n := n) (ww := ww) (t := 34) (by repeat first | with_reducible exact st0 _ | apply Below.drew | apply stA) hb1)
    all_goals (go_wp2_with fail; go_meet)
    all_goals first
      | exact meetA hB
      | (refine meetB hB (a := .string ⟨#[]⟩) (b := .string ⟨#[]⟩) (c := .int .i64 0) ?_ ?_ ?_
         · (rw [hcX _ _ (by simp)]; exact cell_new (w.alloc _) _ _ _ (by simp))
         · (rw [hcX _ _ (by simp)]; exact cell_new (w.alloc _) _ _ _ (by simp))
         · (rw [hcX _ _ (by simp)]; exact cell_new (w.alloc _) _ _ _ (by simp)))
  case rest =>
  obtain ⟨kb, rfl, hR, hBw⟩ := hcut
  obtain ⟨k0, k1, k2, o0, o1, o2, o3, o4, blt, clt⟩ := hR
  · go_wp2
    have HRA := RA_start (w0 := w) (d := d) (s := s) (n := n) (ww := ww) (low := (-16)) (t := 64) k1 blt hBw
    clear k0 k1 k2 o0 o1 o2 o3 o4
    go_loopw [39] (fun i wr => ∃ j : Nat, j ≤ 4 ∧ i = .int .i64 j ∧ okR k d s n ww j ∧ RA w wr wc.heap.size kb k d s n ww (-16)) (fun i _ => 4 - (intOf i).toNat)
    case atStart => exact ⟨0, by omega, rfl, ⟨fun h => by omega, fun h => by omega, fun h => by omega, fun h => by omega⟩, HRA⟩
    case round =>
      obtain ⟨j, hj, rfl, hok, hra⟩ := hrel
      have OK := hid hok
      have RR := hid hra
      clear hok hra HRA
      have hcs : j = 0 ∨ j = 1 ∨ j = 2 ∨ j = 3 ∨ j = 4 := by omega
      rcases hcs with rfl | rfl | rfl | rfl | rfl
      · have a0 := RR.out.c0
        have a1 := RR.out.c1
        have a2 := RR.out.c2
        have a3 := RR.out.c3
        have a4 := RR.out.hs
        have a5 := RR.out.bl
        have a6 := RR.out.kl
        cases hc : O.hasC k 100
        · have HC := hid hc
          clear hc
          by_cases hx : d = 0
          · have HP := hid (show O.part (O.hasC k 100) d 0 7 = true from by rw [HC.out]; exact part_0 hx)
            have hx' : (d != 0) = false := by simpa using hx
            clear hx
            go_wp2_with (go_at_call 23; refine (contains_0 k hk _).mono ?_; rw [HC.out]; rintro e w' ⟨rfl, rfl⟩)
            go_roundw
            case rel => exact ⟨1, by omega, by go_num, okR_s0 OK.out HP.out, RR.out.alloc _⟩
            case measure => simp [intOf]
          · have HP := hid (okR_no0 (k := k) (d := d) (s := s) (n := n) (ww := ww) (show O.part (O.hasC k 100) d 0 7 = false from by rw [HC.out]; exact part_1 hx))
            have hx' : (d != 0) = true := by simpa using hx
            clear hx
            go_wp2_with (go_at_call 23; refine (contains_0 k hk _).mono ?_; rw [HC.out]; rintro e w' ⟨rfl, rfl⟩)
            go_ret
            rw [ck_yes hk h30, HP.out]
            exact ⟨rfl, stA RR.out.be _⟩
        · have HC := hid hc
          clear hc
          by_cases hx : 0 ≤ d
          · by_cases hy : d ≤ 7
            · have HP := hid (show O.part (O.hasC k 100) d 0 7 = true from by rw [HC.out]; exact part_t ⟨hx, hy⟩)
              go_wp2_with (go_at_call 23; refine (contains_0 k hk _).mono ?_; rw [HC.out]; rintro e w' ⟨rfl, rfl⟩)
              go_roundw
              case rel => exact ⟨1, by omega, by go_num, okR_s0 OK.out HP.out, RR.out.alloc _⟩
              case measure => simp [intOf]
            · have HP := hid (okR_no0 (k := k) (d := d) (s := s) (n := n) (ww := ww) (show O.part (O.hasC k 100) d 0 7 = false from by rw [HC.out]; exact part_f (by omega)))
              go_wp2_with (go_at_call 23; refine (contains_0 k hk _).mono ?_; rw [HC.out]; rintro e w' ⟨rfl, rfl⟩)
              go_ret
              rw [ck_yes hk h30, HP.out]
              exact ⟨rfl, stA RR.out.be _⟩
          · have HP := hid (okR_no0 (k := k) (d := d) (s := s) (n := n) (ww := ww) (show O.part (O.hasC k 100) d 0 7 = false from by rw [HC.out]; exact part_f (by omega)))
            go_wp2_with (go_at_call 23; refine (contains_0 k hk _).mono ?_; rw [HC.out]; rintro e w' ⟨rfl, rfl⟩)
            go_ret
            rw [ck_yes hk h30, HP.out]
            exact ⟨rfl, stA RR.out.be _⟩
      · have a0 := RR.out.c4
        have a1 := RR.out.c5
        have a2 := RR.out.c6
        have a3 := RR.out.c7
        have a4 := RR.out.hs
        have a5 := RR.out.bl
        have a6 := RR.out.kl
        cases hc : O.hasC k 115
        · have HC := hid hc
          clear hc
          by_cases hx : s = 0
          · have HP := hid (show O.part (O.hasC k 115) s 0 7 = true from by rw [HC.out]; exact part_0 hx)
            have hx' : (s != 0) = false := by simpa using hx
            clear hx
            go_wp2_with (go_at_call 23; refine (contains_1 k hk _).mono ?_; rw [HC.out]; rintro e w' ⟨rfl, rfl⟩)
            go_roundw
            case rel => exact ⟨2, by omega, by go_num, okR_s1 OK.out HP.out, RR.out.alloc _⟩
            case measure => simp [intOf]
          · have HP := hid (okR_no1 (k := k) (d := d) (s := s) (n := n) (ww := ww) (show O.part (O.hasC k 115) s 0 7 = false from by rw [HC.out]; exact part_1 hx))
            have hx' : (s != 0) = true := by simpa using hx
            clear hx
            go_wp2_with (go_at_call 23; refine (contains_1 k hk _).mono ?_; rw [HC.out]; rintro e w' ⟨rfl, rfl⟩)
            go_ret
            rw [ck_yes hk h30, HP.out]
            exact ⟨rfl, stA RR.out.be _⟩
        · have HC := hid hc
          clear hc
          by_cases hx : 0 ≤ s
          · by_cases hy : s ≤ 7
            · have HP := hid (show O.part (O.hasC k 115) s 0 7 = true from by rw [HC.out]; exact part_t ⟨hx, hy⟩)
              go_wp2_with (go_at_call 23; refine (contains_1 k hk _).mono ?_; rw [HC.out]; rintro e w' ⟨rfl, rfl⟩)
              go_roundw
              case rel => exact ⟨2, by omega, by go_num, okR_s1 OK.out HP.out, RR.out.alloc _⟩
              case measure => simp [intOf]
            · have HP := hid (okR_no1 (k := k) (d := d) (s := s) (n := n) (ww := ww) (show O.part (O.hasC k 115) s 0 7 = false from by rw [HC.out]; exact part_f (by omega)))
              go_wp2_with (go_at_call 23; refine (contains_1 k hk _).mono ?_; rw [HC.out]; rintro e w' ⟨rfl, rfl⟩)
              go_ret
              rw [ck_yes hk h30, HP.out]
              exact ⟨rfl, stA RR.out.be _⟩
          · have HP := hid (okR_no1 (k := k) (d := d) (s := s) (n := n) (ww := ww) (show O.part (O.hasC k 115) s 0 7 = false from by rw [HC.out]; exact part_f (by omega)))
            go_wp2_with (go_at_call 23; refine (contains_1 k hk _).mono ?_; rw [HC.out]; rintro e w' ⟨rfl, rfl⟩)
            go_ret
            rw [ck_yes hk h30, HP.out]
            exact ⟨rfl, stA RR.out.be _⟩
      · have a0 := RR.out.c8
        have a1 := RR.out.c9
        have a2 := RR.out.c10
        have a3 := RR.out.c11
        have a4 := RR.out.hs
        have a5 := RR.out.bl
        have a6 := RR.out.kl
        cases hc : O.hasC k 110
        · have HC := hid hc
          clear hc
          by_cases hx : n = 0
          · have HP := hid (show O.part (O.hasC k 110) n (O.lowN k) 15 = true from by rw [HC.out, hl]; exact part_0 hx)
            have hx' : (n != 0) = false := by simpa using hx
            clear hx
            go_wp2_with (go_at_call 23; refine (contains_2 k hk _).mono ?_; rw [HC.out]; rintro e w' ⟨rfl, rfl⟩)
            go_roundw
            case rel => exact ⟨3, by omega, by go_num, okR_s2 OK.out HP.out, RR.out.alloc _⟩
            case measure => simp [intOf]
          · have HP := hid (okR_no2 (k := k) (d := d) (s := s) (n := n) (ww := ww) (show O.part (O.hasC k 110) n (O.lowN k) 15 = false from by rw [HC.out, hl]; exact part_1 hx))
            have hx' : (n != 0) = true := by simpa using hx
            clear hx
            go_wp2_with (go_at_call 23; refine (contains_2 k hk _).mono ?_; rw [HC.out]; rintro e w' ⟨rfl, rfl⟩)
            go_ret
            rw [ck_yes hk h30, HP.out]
            exact ⟨rfl, stA RR.out.be _⟩
        · have HC := hid hc
          clear hc
          by_cases hx : (-16) ≤ n
          · by_cases hy : n ≤ 15
            · have HP := hid (show O.part (O.hasC k 110) n (O.lowN k) 15 = true from by rw [HC.out, hl]; exact part_t ⟨hx, hy⟩)
              go_wp2_with (go_at_call 23; refine (contains_2 k hk _).mono ?_; rw [HC.out]; rintro e w' ⟨rfl, rfl⟩)
              go_roundw
              case rel => exact ⟨3, by omega, by go_num, okR_s2 OK.out HP.out, RR.out.alloc _⟩
              case measure => simp [intOf]
            · have HP := hid (okR_no2 (k := k) (d := d) (s := s) (n := n) (ww := ww) (show O.part (O.hasC k 110) n (O.lowN k) 15 = false from by rw [HC.out, hl]; exact part_f (by omega)))
              go_wp2_with (go_at_call 23; refine (contains_2 k hk _).mono ?_; rw [HC.out]; rintro e w' ⟨rfl, rfl⟩)
              go_ret
              rw [ck_yes hk h30, HP.out]
              exact ⟨rfl, stA RR.out.be _⟩
          · have HP := hid (okR_no2 (k := k) (d := d) (s := s) (n := n) (ww := ww) (show O.part (O.hasC k 110) n (O.lowN k) 15 = false from by rw [HC.out, hl]; exact part_f (by omega)))
            go_wp2_with (go_at_call 23; refine (contains_2 k hk _).mono ?_; rw [HC.out]; rintro e w' ⟨rfl, rfl⟩)
            go_ret
            rw [ck_yes hk h30, HP.out]
            exact ⟨rfl, stA RR.out.be _⟩
      · have a0 := RR.out.c12
        have a1 := RR.out.c13
        have a2 := RR.out.c14
        have a3 := RR.out.c15
        have a4 := RR.out.hs
        have a5 := RR.out.bl
        have a6 := RR.out.kl
        cases hc : O.hasC k 119
        · have HC := hid hc
          clear hc
          by_cases hx : ww = 0
          · have HP := hid (show O.part (O.hasC k 119) ww 0 65535 = true from by rw [HC.out]; exact part_0 hx)
            have hx' : (ww != 0) = false := by simpa using hx
            clear hx
            go_wp2_with (go_at_call 23; refine (contains_3 k hk _).mono ?_; rw [HC.out]; rintro e w' ⟨rfl, rfl⟩)
            go_roundw
            case rel => exact ⟨4, by omega, by go_num, okR_s3 OK.out HP.out, RR.out.alloc _⟩
            case measure => simp [intOf]
          · have HP := hid (okR_no3 (k := k) (d := d) (s := s) (n := n) (ww := ww) (show O.part (O.hasC k 119) ww 0 65535 = false from by rw [HC.out]; exact part_1 hx))
            have hx' : (ww != 0) = true := by simpa using hx
            clear hx
            go_wp2_with (go_at_call 23; refine (contains_3 k hk _).mono ?_; rw [HC.out]; rintro e w' ⟨rfl, rfl⟩)
            go_ret
            rw [ck_yes hk h30, HP.out]
            exact ⟨rfl, stA RR.out.be _⟩
        · have HC := hid hc
          clear hc
          by_cases hx : 0 ≤ ww
          · by_cases hy : ww ≤ 65535
            · have HP := hid (show O.part (O.hasC k 119) ww 0 65535 = true from by rw [HC.out]; exact part_t ⟨hx, hy⟩)
              go_wp2_with (go_at_call 23; refine (contains_3 k hk _).mono ?_; rw [HC.out]; rintro e w' ⟨rfl, rfl⟩)
              go_roundw
              case rel => exact ⟨4, by omega, by go_num, okR_s3 OK.out HP.out, RR.out.alloc _⟩
              case measure => simp [intOf]
            · have HP := hid (okR_no3 (k := k) (d := d) (s := s) (n := n) (ww := ww) (show O.part (O.hasC k 119) ww 0 65535 = false from by rw [HC.out]; exact part_f (by omega)))
              go_wp2_with (go_at_call 23; refine (contains_3 k hk _).mono ?_; rw [HC.out]; rintro e w' ⟨rfl, rfl⟩)
              go_ret
              rw [ck_yes hk h30, HP.out]
              exact ⟨rfl, stA RR.out.be _⟩
          · have HP := hid (okR_no3 (k := k) (d := d) (s := s) (n := n) (ww := ww) (show O.part (O.hasC k 119) ww 0 65535 = false from by rw [HC.out]; exact part_f (by omega)))
            go_wp2_with (go_at_call 23; refine (contains_3 k hk _).mono ?_; rw [HC.out]; rintro e w' ⟨rfl, rfl⟩)
            go_ret
            rw [ck_yes hk h30, HP.out]
            exact ⟨rfl, stA RR.out.be _⟩
      · have HP := hid (okR_4 OK.out)
        go_wp2
        go_ret
        rw [ck_yes hk h30, HP.out]
        exact ⟨rfl, RR.out.be⟩
end Go.Proofs.YtgpijkcbehcaaaaDoor
