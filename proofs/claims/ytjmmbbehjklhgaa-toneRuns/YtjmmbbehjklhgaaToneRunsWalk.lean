/-
  The Go text of the law ToneRuns returns true where all is right.
-/
import Derived.Test.YtjmmbbehjklhgaaTonW
import Derived.Test.YtjmmbbehjklhgaaTonF
import Derived.Test.YtjmmbbehjklhgaaTonE2
import Derived.Test.YtjmmbbehjklhgaaTonePartsWalk
import Derived.Deep.DeepCutAuto
namespace Go.Proofs.Ytjmmbbehjklhgaa
open Go.ChangeShapes Go.WideShapes Go.ChangeAt Go.RowKit
set_option linter.unusedVariables false

set_option maxRecDepth 100000 in
set_option maxHeartbeats 6400000 in
theorem runs_ok (v : Vc) (s : Sd) (N : Nat) (w : World) (hv : v.ok) (h : s.fit) (hn : N ≤ 20000) :
    Calls Try.prog 3 #[(.agg #[.int .u16 v.p, .int .u16 v.c, .int .u8 v.l, .bool v.h, .int .u16 v.n]), (.agg #[.int .u16 s.a.p, .int .u16 s.a.c, .int .u8 s.a.l, .bool s.a.h, .int .u16 s.a.n, .int .u16 s.b.p, .int .u16 s.b.c, .int .u8 s.b.l, .bool s.b.h, .int .u16 s.b.n, .int .u16 s.c.p, .int .u16 s.c.c, .int .u8 s.c.l, .bool s.c.h, .int .u16 s.c.n, .int .i64 s.w]), .int .i64 N] w fun e w' => e = .returned (.bool true) ∧ Below w.heap.size w w' := by
  have HV := hid hv
  have HF := hid h
  have HNN := hid hn
  have HN : Hid (0 ≤ (N : Int) ∧ (N : Int) ≤ 20000) := by show 0 ≤ (N : Int) ∧ (N : Int) ≤ 20000; omega
  have hw := h.w
  go_enter Try.func3, Try.ntmps3
  go_upto_region 1 with fail
  go_cut [7, 8] (fun px e W => ∃ bx, px = .pointer (some ⟨bx, 0, none⟩) ∧ e = .int .i64 0 ∧ R1 w bx v s (v.later N) W)
  case first =>
    refine Pl.cutW (fun W => Below w.heap.size w W ∧ Bx W w.heap.size (vcs v) ∧ Bx W (w.heap.size + 1) (scs s)) ⟨stA (stA (st0 w) _) _, (Bx.new w (vcs v) _ rfl).over _, Bx.new _ (scs s) _ (by simp)⟩ ?_
    rintro W ⟨hlow, hbv, hbs⟩
    have HLO := hid hlow
    have HBV := hid hbv
    have HBS := hid hbs
    clear hlow hbv hbs
    go_wp2_with (first
      | (refine wpList_load_mid rfl 24 _ rfl w.heap.size 0 rfl (vcs v) _ HBV.out.c Try.underlying24 rfl info_voice ?_)
      | (go_at_call 7; refine (run_ok v N _ HV.out HN.out).mono ?_; rintro e w1 ⟨rfl, hb1⟩))
    go_meet
    exact ⟨w1.heap.size, rfl, rfl, stA (stp HLO.out hb1) _, (HBV.out.kept hb1).over _, (HBS.out.kept hb1).over _, Bx.new w1 (vcs (v.later N)) 24 rfl, Nat.le_trans HBS.out.z hb1.size⟩
  case rest =>
  obtain ⟨bx, rfl, rfl, hR1⟩ := hcut
  have HR1 := hid hR1
  clear hR1
  go_upto_region 2 with fail
  go_cut [9, 10, 11] (fun vl po f W => ∃ la lc bo, vl = .slice la (sms s N).length lc ∧ po = .pointer (some ⟨bo, 0, none⟩) ∧ f = .int .i64 0 ∧ R2 w bx bo v s (v.later N) (scs (s.ticks N)) (.slice la (sms s N).length lc) (sms s N) W)
  case first =>
    go_wp2_with (first
      | (refine wpList_load_mid rfl 27 _ rfl (w.heap.size + 1) 0 rfl (scs s) _ HR1.out.s.c Try.underlying27 rfl info_sound ?_)
      | (go_at_call 8; refine (samples_own s N _ HF.out HNN.out).mono ?_; rintro e w2 ⟨v1, rfl, hsl, hown, hb2⟩; have HSL := hid hsl; have HOW := hid hown; clear hown; obtain ⟨la, lc, hve⟩ := slice_len hsl; subst hve; clear hsl))
    go_meet
    exact ⟨la, lc, w2.heap.size, rfl, rfl, rfl, (HR1.out.kept hb2).kept (stA (st0 w2) _), Bx.new w2 (scs (s.ticks N)) 27 rfl, HSL.out.kept (stA (st0 w2) _), Nat.le_trans HR1.out.s.z hb2.size, (fun k hk => Nat.le_trans (Nat.le_trans HR1.out.s.z (Nat.le_add_right _ 2)) (HOW.out k hk))⟩
  case rest =>
  obtain ⟨la, lc, bo, rfl, rfl, rfl, hR2⟩ := hcut
  have HR2 := hid hR2
  have c15 := hR2.s.at 15 _ rfl
  have sz := hR2.s.z
  clear hR2 HR1
  go_upto_region 6 with fail
  go_cut [49] (fun c W => c = .bool false ∧ R2 w bx bo v s (v.later N) (scs (s.ticks N)) (.slice la (sms s N).length lc) (sms s N) W)
  case first =>
    clear c15 sz
    have hnv := neq_voice v.tick
    go_region_held3 (fun w' => w'.cell? ⟨w.heap.size, 0, none⟩ = some (.int .u16 v.p) ∧ w'.cell? ⟨w.heap.size, 1, none⟩ = some (.int .u16 v.c) ∧ w'.cell? ⟨w.heap.size, 2, none⟩ = some (.int .u8 v.l) ∧ w'.cell? ⟨w.heap.size, 3, none⟩ = some (.bool v.h) ∧ w'.cell? ⟨w.heap.size, 4, none⟩ = some (.int .u16 v.n) ∧ w'.cell? ⟨w.heap.size + 1, 0, none⟩ = some (.int .u16 s.a.p) ∧ w'.cell? ⟨w.heap.size + 1, 1, none⟩ = some (.int .u16 s.a.c) ∧ w'.cell? ⟨w.heap.size + 1, 2, none⟩ = some (.int .u8 s.a.l) ∧ w'.cell? ⟨w.heap.size + 1, 3, none⟩ = some (.bool s.a.h) ∧ w'.cell? ⟨w.heap.size + 1, 4, none⟩ = some (.int .u16 s.a.n) ∧ w'.cell? ⟨w.heap.size + 1, 5, none⟩ = some (.int .u16 s.b.p) ∧ w'.cell? ⟨w.heap.size + 1, 6, none⟩ = some (.int .u16 s.b.c) ∧ w'.cell? ⟨w.heap.size + 1, 7, none⟩ = some (.int .u8 s.b.l) ∧ w'.cell? ⟨w.heap.size + 1, 8, none⟩ = some (.bool s.b.h) ∧ w'.cell? ⟨w.heap.size + 1, 9, none⟩ = some (.int .u16 s.b.n) ∧ w'.cell? ⟨w.heap.size + 1, 10, none⟩ = some (.int .u16 s.c.p) ∧ w'.cell? ⟨w.heap.size + 1, 11, none⟩ = some (.int .u16 s.c.c) ∧ w'.cell? ⟨w.heap.size + 1, 12, none⟩ = some (.int .u8 s.c.l) ∧ w'.cell? ⟨w.heap.size + 1, 13, none⟩ = some (.bool s.c.h) ∧ w'.cell? ⟨w.heap.size + 1, 14, none⟩ = some (.int .u16 s.c.n) ∧ w'.cell? ⟨w.heap.size + 1, 15, none⟩ = some (.int .i64 s.w) ∧ R2 w bx bo v s (v.later N) (scs (s.ticks N)) (.slice la (sms s N).length lc) (sms s N) w')
      (first
        | with_reducible exact r2all HR2.out
        | with_reducible exact r2all HR2.out.drew
        | with_reducible exact r2keep (by assumption) (by assumption)
        | (go_keep; done))
      (first
        | (go_at_call 9; refine (sounded_any _).mono ?_; rintro e w3 ⟨rfl, hb3⟩)
        | (go_at_call 10; refine (tick_any v _ HV.out).mono ?_; rintro e w4 ⟨rfl, hb4⟩)
        | (go_at_call 11; refine (rtick_v v _ HV.out).mono ?_; rintro e w5 ⟨rfl, hb5⟩)
        | (go_at_call 12; refine (check_ok s _ HF.out.w).mono ?_; rintro e w6 ⟨rfl, hb6⟩))
    have HRW := hid (show R2 w bx bo v s (v.later N) (scs (s.ticks N)) (.slice la (sms s N).length lc) (sms s N) w6 by rename_i hh; exact hh.2.2.2.2.2.2.2.2.2.2.2.2.2.2.2.2.2.2.2.2.2)
    go_wp2_with fail
    go_meet
    exact ⟨rfl, HRW.out⟩
  case rest =>
  obtain ⟨rfl, hR3⟩ := hcut
  have HR3 := hid hR3
  clear hR3 HR2
  go_wp2
  go_loopw [78] (fun i wr => ∃ k : Nat, k ≤ N ∧ i = .int .i64 k ∧ R2 w bx bo (v.ticks k) s (v.later N) (scs (s.ticks N)) (.slice la (sms s N).length lc) (sms s N) wr) (fun i _ => N - (intOf i).toNat)
  case atStart => exact ⟨0, Nat.zero_le _, rfl, HR3.out⟩
  case round =>
    clear HR3
    obtain ⟨k, hk, rfl, hA⟩ := hrel
    have HA := hid hA
    have HVK := hid (Vc.ticks_ok hv k)
    obtain ⟨t0, t1, t2, t3, t4, tz, tf⟩ := hA.v.five
    clear hA
    by_cases h8 : k < N
    · have h8' : (k : Int) < N := by omega
      go_wp2_with (go_at_call 11; refine (rtick_v (v.ticks k) _ HVK.out).mono ?_; rintro e w7 ⟨rfl, hb7⟩; have HA7 := hid (HA.out.kept hb7); obtain ⟨a0, a1, a2, a3, a4, az, af⟩ := HA7.out.v.five)
      go_roundw
      case rel => exact ⟨k + 1, h8, by go_num, HA7.out.putv _⟩
      case measure => simp [intOf]; omega
    · obtain rfl : k = N := by omega
      have hxe : v.later k = v.ticks k := Vc.later_ticks v hv k
      have hnx := neq_voice (v.ticks k)
      obtain ⟨b0, b1, b2, b3, b4, bz, bf⟩ := HA.out.x.five
      rw [hxe] at b0 b1 b2 b3 b4
      clear hxe
      go_upto_region 19 with fail
      rename World => W0
      have HS0 : Hid (w.heap.size + 1 < W0.heap.size) := HA.out.s.z
      clear t0 t1 t2 t3 t4 tz tf b0 b1 b2 b3 b4 bz bf hnx hk
      go_wp2
      go_loopw [13, 106] (fun wv i W => ∃ j : Nat, j ≤ k ∧ i = .int .i64 j ∧ R2 w bx bo (v.ticks k) (s.ticks j) (v.later k) (scs (s.ticks k)) (.slice la (sms s k).length lc) (sms s k) W ∧ W.ownsRow W0.heap.size 5 1 wv (sms s j).length (bcs (sms s j)) ∧ W0.heap.size ≤ W.heap.size) (fun _ i _ => k - (intOf i).toNat)
      case atStart => exact ⟨0, Nat.zero_le _, rfl, HA.out, ⟨rfl, Or.inl ⟨rfl, rfl⟩⟩, Nat.le_refl _⟩
      case round =>
        obtain ⟨j, hj, rfl, hR, hO, hsz⟩ := hrel
        have HR := hid hR
        have HO := hid hO
        have HSZ := hid hsz
        have HFJ := hid (Sd.ticks_fit h j)
        have c15 := hR.s.at 15 _ rfl
        have sz := hR.s.z
        have HLB : Hid ((sms s j).length ≤ 50000) := Nat.le_trans (sms_len s j) (by omega)
        clear hR hO hsz
        by_cases h9 : j < k
        · have h9' : (j : Int) < k := by omega
          by_cases hz : (s.ticks j).w = 0
          · have hone : sms s (j + 1) = sms s j ++ [sm (s.ticks j)] := by rw [sms]; unfold one; rw [if_pos hz]
            have HON := hid hone
            have HSM := hid (sm_nat (s.ticks j)).symm
            rw [hz] at c15
            clear hz hone
            go_wp2_with (first
              | (refine wpList_load_mid rfl 27 _ rfl (w.heap.size + 1) 0 rfl (scs (s.ticks j)) _ HR.out.s.c Try.underlying27 rfl info_sound ?_)
              | (refine wpList_load_mid rfl 27 _ rfl (w.heap.size + 1) 0 rfl (scs (s.ticks j)) _ HR4.out.s.c Try.underlying27 rfl info_sound ?_)
              | (go_at_call 13; refine (rsample_any (s.ticks j) _ HFJ.out.k).mono ?_; rintro e w3 ⟨rfl, hb3⟩; have HR3 := hid ((HR.out.kept hb3).kept (stA (st0 w3) (.cells #[.int .u8 (smI (s.ticks j))] 5))); have HO3 := hid (own_kept (own_kept HO.out hb3) (stA (st0 w3) (.cells #[.int .u8 (smI (s.ticks j))] 5))); have HZ3 : Hid (W0.heap.size ≤ (w3.alloc (.cells #[.int .u8 (smI (s.ticks j))] 5)).heap.size) := Nat.le_trans HSZ.out (Nat.le_trans hb3.size (stA (st0 w3) _).size))
              | (at_builtin; refine app1 (by rfl) _ _ (by rfl) W0.heap.size _ (sms s j) (by rfl) HO3.out w3.heap.size 1 (sm (s.ticks j)) (smI (s.ticks j)) (by rfl) (Pl.new _ _ _ _ rfl) HSM.out HLB.out HZ3.out ?_; intro v' w' hown' hb'; rw [← HON.out] at hown'; have HO4 := hid hown'; have HR4 := hid (HR3.out.under hb' HA.out); have HZ4 := hid (Nat.le_trans HZ3.out hb'.size); clear hown')
              | (go_at_call 14; refine (rsound_any (s.ticks j) _ HFJ.out).mono ?_; rintro e w5 ⟨rfl, hb5⟩; have HR5 := hid (HR4.out.kept hb5); have HO5 := hid (own_kept HO4.out hb5); have HZ5 := hid (Nat.le_trans HZ4.out hb5.size))
              | (refine wpList_store_mid rfl 27 _ _ rfl (w.heap.size + 1) 0 _ rfl rfl (there16s HR5.out.s) info_sound (all16 _) ?_
                 refine Pl.cutL (fun W => R2 w bx bo (v.ticks k) (s.ticks (j + 1)) (v.later k) (scs (s.ticks k)) (.slice la (sms s k).length lc) (sms s k) W ∧ W.ownsRow W0.heap.size 5 1 v' (sms s (j + 1)).length (bcs (sms s (j + 1))) ∧ W0.heap.size ≤ W.heap.size) ⟨?_, ?_, ?_⟩ ?_
                 · exact HR5.out.puts (s.ticks (j + 1))
                 · exact own_fars HS0.out (scs (s.ticks (j + 1))) 0 HO5.out
                 · rw [setCells_size]; exact HZ5.out
                 rintro W9 ⟨hr9, ho9, hz9⟩
                 have HR9 := hid hr9
                 have HO9 := hid ho9
                 have HZ9 := hid hz9
                 clear hr9 ho9 hz9))
            exact ⟨⟨j + 1, h9, by go_num, HR9.out, HO9.out, HZ9.out⟩, by simp [intOf]; omega⟩
          · have hz' : ((s.ticks j).w == 0) = false := by simpa using hz
            have HON : Hid (sms s j = sms s (j + 1)) := by show sms s j = sms s (j + 1); rw [sms]; unfold one; rw [if_neg hz]; simp
            clear hz
            go_wp2_with (first
              | (refine wpList_load_mid rfl 27 _ rfl (w.heap.size + 1) 0 rfl (scs (s.ticks j)) _ HR.out.s.c Try.underlying27 rfl info_sound ?_)
              | (go_at_call 14; refine (rsound_any (s.ticks j) _ HFJ.out).mono ?_; rintro e w5 ⟨rfl, hb5⟩; have HR5 := hid (HR.out.kept hb5); have HO5 := hid (own_kept (HON.out ▸ HO.out) hb5); have HZ5 := hid (Nat.le_trans HSZ.out hb5.size))
              | (refine wpList_store_mid rfl 27 _ _ rfl (w.heap.size + 1) 0 _ rfl rfl (there16s HR5.out.s) info_sound (all16 _) ?_
                 refine Pl.cutL (fun W => R2 w bx bo (v.ticks k) (s.ticks (j + 1)) (v.later k) (scs (s.ticks k)) (.slice la (sms s k).length lc) (sms s k) W ∧ W.ownsRow W0.heap.size 5 1 u13 (sms s (j + 1)).length (bcs (sms s (j + 1))) ∧ W0.heap.size ≤ W.heap.size) ⟨?_, ?_, ?_⟩ ?_
                 · exact HR5.out.puts (s.ticks (j + 1))
                 · exact own_fars HS0.out (scs (s.ticks (j + 1))) 0 HO5.out
                 · rw [setCells_size]; exact HZ5.out
                 rintro W9 ⟨hr9, ho9, hz9⟩
                 have HR9 := hid hr9
                 have HO9 := hid ho9
                 have HZ9 := hid hz9
                 clear hr9 ho9 hz9))
            exact ⟨⟨j + 1, h9, by go_num, HR9.out, HO9.out, HZ9.out⟩, by simp [intOf]; omega⟩
        · obtain rfl : j = k := by omega
          have HSO := hid (slice_of_own HO.out)
          have hes := eq_soundL (s.ticks j)
          clear c15 sz
          go_wp2_with (first
            | (refine loadG (by rfl) 27 (.tmp 10) rfl bo 0 rfl (scs (s.ticks j)) _ HR.out.o.c Try.underlying27 rfl info_sound ?_)
            | (refine loadG (by rfl) 27 (.tmp 4) rfl (w.heap.size + 1) 0 rfl (scs (s.ticks j)) _ HR.out.s.c Try.underlying27 rfl info_sound ?_)
            | (go_at_call 15; refine (equal_eq _ _ (sms s j) _ HR.out.l HSO.out).mono ?_; rintro e w8 ⟨rfl, rfl⟩))
          go_ret
          exact ⟨rfl, HR.out.low⟩
end Go.Proofs.Ytjmmbbehjklhgaa
