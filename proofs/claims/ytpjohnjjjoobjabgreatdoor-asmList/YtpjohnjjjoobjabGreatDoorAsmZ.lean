/-
  What the reference's Listed answers, of any bytes of a right number; nothing old is written.
-/
import Derived.Test.YtpjohnjjjoobjabGreatDoorAsmY
import Derived.Test.YtpjohnjjjoobjabGreatDoorAsmG
import Derived.Test.YtpjohnjjjoobjabGreatDoorRefOA
import Derived.Test.YtpjohnjjjoobjabGreatDoorRefWA
import Derived.Deep.QuietTactic
import Derived.BigQuiet
namespace Go.Proofs.YtpjohnjjjoobjabGreatDoor
open Go.ChangeShapes Go.WideShapes Go.ChangeAt Go.RowKit
set_option linter.unusedVariables false

theorem facts_drewN {w : World} (h : RF w) (k : Nat) : RF (w.drewN k) := h.kept (st_drewN (st0 _) k)
theorem wordsOf_read (a b : Int) (ha : 0 ≤ a ∧ a ≤ 65535) (hb : 0 ≤ b ∧ b ≤ 65535) (w : World) (hF : Facts w) :
    Calls Tryz.prog 25 #[.agg #[.int .i64 (O.rOp a), .int .i64 (O.rD a), .int .i64 (O.rS a), .int .i64 (O.rN a), .int .i64 (O.rW a b)]] w fun e w' =>
      ∃ (g n c : Nat), e = .returned (.slice (some ⟨g, 0, none⟩) n c) ∧ 0 < n ∧ w'.cell? ⟨g, 0, none⟩ = some (.int .u16 (O.first (O.rOp a) (O.rD a) (O.rS a) (O.rN a))) ∧ g < w'.heap.size ∧ Below w.heap.size w w' := by
  refine (wordsOf_any _ _ _ _ _ (O.rOp_isOp a ha) (O.read_ok a b ha hb) w hF).mono fun e w' ⟨g, c, he, _, hw, hg, hb⟩ => ?_
  refine ⟨g, (O.words (O.rOp a) (O.rD a) (O.rS a) (O.rN a) (O.rW a b)).length, c, he, ?_, ?_, hg, hb⟩
  · unfold O.words; split <;> simp
  · have := hw 0 (by unfold O.words; split <;> simp)
    rw [this]
    unfold O.words; split <;> rfl
theorem orderText_read (a b : Int) (ha : 0 ≤ a ∧ a ≤ 65535) (hb : 0 ≤ b ∧ b ≤ 65535) (w : World) (hF : RF w) :
    Calls Tryz.prog 34 #[.agg #[.int .i64 (O.rOp a), .int .i64 (O.rD a), .int .i64 (O.rS a), .int .i64 (O.rN a), .int .i64 (O.rW a b)]] w fun e w' => e = .returned (.string (mk (S.orderText (O.rk a) (S.rOrd a b)))) ∧ Below w.heap.size w w' := by
  obtain ⟨o1, o2, o3⟩ := (O.isOp_iff _).1 (O.rOp_isOp a ha)
  have hk : ((O.rk a : Nat) : Int) = O.rOp a := by show (((O.rOp a).toNat : Nat) : Int) = O.rOp a; omega
  have h := orderText_any (O.rk a) (by show (O.rOp a).toNat < 32; omega) (by show (O.rOp a).toNat ≠ 30; omega) (S.rOrd a b) (O.read_ok a b ha hb) w hF
  rw [hk] at h
  exact h
theorem orderOf_read (a b : Int) (ha : 0 ≤ a ∧ a ≤ 65535) (hb : 0 ≤ b ∧ b ≤ 65535) (w : World) (hF : Facts w) :
    Calls Tryz.prog 33 #[.int .u16 a, .int .u16 b] w fun e w' => e = .returned (.tuple #[.agg #[.int .i64 (O.rOp a), .int .i64 (O.rD a), .int .i64 (O.rS a), .int .i64 (O.rN a), .int .i64 (O.rW a b)], .int .i64 (O.rLen a)]) ∧ Below w.heap.size w w' := orderOf_any a b ha hb w hF
theorem word_wraps (x y : UInt8) : IntKind.u16.wrap (x.toNat : Int) = x.toNat ∧ IntKind.u16.wrap ((x.toNat : Int) * 256) = (x.toNat : Int) * 256 ∧ IntKind.u16.wrap ((x.toNat : Int) * 256 + y.toNat) = S.word x y := by
  have hx := x.toNat_lt
  have hy := y.toNat_lt
  refine ⟨?_, ?_, ?_⟩
  · rw [IntKind.wrap_u16]; omega
  · rw [IntKind.wrap_u16]; omega
  · rw [IntKind.wrap_u16]; unfold S.word; omega
theorem order_small (a b : Int) (ha : 0 ≤ a ∧ a ≤ 65535) (hb : 0 ≤ b ∧ b ≤ 65535) : (mk (S.orderText (O.rk a) (S.rOrd a b))).size ≤ 60 := by
  have hok := O.read_ok a b ha hb
  obtain ⟨o1, o2, o3⟩ := (O.isOp_iff _).1 (O.rOp_isOp a ha)
  have hn := name_len (O.rk a) (by show (O.rOp _).toNat < 32; omega)
  have hj := join_small (k := O.rk a) (o := S.rOrd a b) hok
  show (S.orderText _ _).length ≤ 60
  unfold S.orderText
  rw [List.length_append]
  split
  · simp; omega
  · rw [List.length_cons]; omega
set_option maxRecDepth 100000 in
set_option maxHeartbeats 3200000 in
theorem listed_n (g o n cap : Nat) (l : List UInt8) (hn : l.length = n) (h2 : 2 ≤ n) (he : n % 2 = 0) (hm : n ≤ 1024) (hcap : n ≤ cap) (w : World) (hg : g < w.heap.size) (hb : bytesAt w g o l) (hF : RF w) :
    Calls Tryz.prog 13 #[.slice (some ⟨g, o, none⟩) n cap] w fun e w' => e = .returned (.string (mk (S.list l))) ∧ Below w.heap.size w w' := by
  have HF := hid hF
  have HB := hid hb
  clear hF hb
  go_enter Tryz.func13, Tryz.ntmps13
  go_wp2
  go_loopw [0, 3] (fun r t wr => ∃ (q : Nat) (acc : List UInt8) (a : Option Addr), q ≤ n ∧ q % 2 = 0 ∧ r = .slice a (n - q) (cap - q) ∧ (q < n → a = some ⟨g, o + q, none⟩) ∧ t = .string (mk acc) ∧ Below w.heap.size w wr ∧ acc ++ S.list (l.drop q) = S.list l ∧ acc.length ≤ 64 * q) (fun r _ _ => match r with | .slice _ k _ => k | _ => 0)
  case atStart => exact ⟨0, [], _, by omega, rfl, rfl, fun _ => rfl, rfl, st0 _, rfl, by simp⟩
  case round =>
    obtain ⟨q, acc, a, hq, hq2, rfl, ha, rfl, hbl, hacc, hlen⟩ := hrel
    have hszr := hbl.size
    by_cases hlt : q < n
    · obtain rfl := ha hlt
      have hld : (l.drop q).length = n - q := by rw [List.length_drop, hn]
      have hne : l.drop q ≠ [] := fun h => by rw [h] at hld; simp at hld; omega
      have hbd := hid ((HB.out.kept hbl hg).drop q)
      have hgr : g < wr.heap.size := by omega
      have hst := hid (list_step (l.drop q) hne)
      have hacs : (mk acc).size ≤ 65536 := by rw [mk_size]; omega
      have hacc0 := hid hacc
      clear hacc
      match hdq : l.drop q, hld with
      | x :: y :: r, hld =>
        rw [hdq] at hst hbd hacc0
        obtain ⟨a0, a1⟩ := S.word_bd x y
        obtain ⟨wx1, wx2, wx3⟩ := word_wraps x y
        have wy1 : IntKind.u16.wrap (y.toNat : Int) = y.toNat := (word_wraps y y).1
        have c0 : wr.cell? ⟨g, o + q, none⟩ = some (.int .u8 x.toNat) := hbd.out 0 x rfl
        have c1 : wr.cell? ⟨g, o + q + 1, none⟩ = some (.int .u8 y.toNat) := hbd.out 1 y rfl
        have hil : (mk (Lib.itoa (S.word x y))).size ≤ 7 := itoa_len (S.word x y) (by omega)
        have i1 : ¬ 9223372036854775807 < 6 + (mk (Lib.itoa (S.word x y))).size := by omega
        have i2 : ¬ 9223372036854775807 < 6 + (mk (Lib.itoa (S.word x y))).size + 1 := by omega
        have i3 : ¬ 9223372036854775807 < (mk acc).size + (6 + (mk (Lib.itoa (S.word x y))).size + 1) := by omega
        match r, hld with
        | [], hld =>
          have hn2 : n - q = 2 := by simpa using hld.symm
          have efl : S.firstLine [x, y] = S.lineOf (S.word x y) 2 0 := rfl
          have hos := order_small (S.word x y) 0 ⟨a0, a1⟩ (by omega)
          have j1 : ¬ 9223372036854775807 < (mk (S.orderText (O.rk (S.word x y)) (S.rOrd (S.word x y) 0))).size + 1 := by omega
          have j2 : ¬ 9223372036854775807 < (mk acc).size + ((mk (S.orderText (O.rk (S.word x y)) (S.rOrd (S.word x y) 0))).size + 1) := by omega
          have hL := S.rLen_or (S.word x y)
          by_cases hf : O.first (O.rOp (S.word x y)) (O.rD (S.word x y)) (O.rS (S.word x y)) (O.rN (S.word x y)) = S.word x y
          · rcases hL with hL | hL
            · have hlo := line_yes (S.word x y) 2 0 hf (by rw [hL]; decide)
              rw [← efl] at hlo
              rw [hlo] at hst
              have hne1 : (O.first (O.rOp (S.word x y)) (O.rD (S.word x y)) (O.rS (S.word x y)) (O.rN (S.word x y)) == (S.word x y)) = true := by rw [hf]; simp
              have HFE := hid hf
              clear hf
              have HLO := hid hlo
              clear hlo efl
              go_wp2
              go_quiet (fail)
              go_wp2_with (first
                | (go_at_call 33; refine (orderOf_read (S.word x y) 0 ⟨a0, a1⟩ (by omega) _ (facts_drewN (HF.out.kept hbl) _).facts).mono ?_; rw [hL]; rintro e w1 ⟨rfl, hb1⟩; have hF1 := hid (((facts_drewN (HF.out.kept hbl) _).kept hb1).kept (stA (st0 _) (.cells #[.int .i64 (O.rOp (S.word x y)), .int .i64 (O.rD (S.word x y)), .int .i64 (O.rS (S.word x y)), .int .i64 (O.rN (S.word x y)), .int .i64 (O.rW (S.word x y) 0)] 47))))
                | (go_at_call 25; refine (wordsOf_read (S.word x y) 0 ⟨a0, a1⟩ (by omega) _ hF1.out.facts).mono ?_; rintro e w2 ⟨g2, n2, k2, rfl, hn2', hc2, hg2, hb2⟩; have hk2' : (0 : Int) < n2 := Int.natCast_pos.2 hn2'; have hF2 := hid (hF1.out.kept hb2); obtain ⟨hcc, hff⟩ := bcell hb2; have hz2 := lt_box hb2)
                | (go_at_call 34; refine (orderText_read (S.word x y) 0 ⟨a0, a1⟩ (by omega) _ hF2.out).mono ?_; rintro e w3 ⟨rfl, hb3⟩))
              refine ⟨⟨q + 2, acc ++ (S.orderText (O.rk (S.word x y)) (S.rOrd (S.word x y) 0) ++ [10]), _, by omega, by omega, by rw [show n - (q + 2) = 0 by omega, show cap - q - 2 = cap - (q + 2) by omega], fun h => ?_, by rw [show (⟨#[10]⟩ : ByteArray) = mk [10] from rfl, mk_append, mk_append], stp (stp (stA (stp (st_drewN hbl _) hb1) _) hb2) hb3, ?_, ?_⟩, ?_⟩
              · first | rfl | (rw [if_neg (by omega)]; rfl)
              · rw [← hacc0.out, hst.out]
                rw [show l.drop (q + 2) = (l.drop q).drop 2 by rw [List.drop_drop], hdq]
                simp [hL]
              · have hlx : (S.orderText (O.rk (S.word x y)) (S.rOrd (S.word x y) 0)).length ≤ 60 := hos
                simp; omega
              · simp only; omega
            · have hlo := line_no (S.word x y) 2 0 (fun h => by rw [hL] at h; omega)
              rw [← efl] at hlo
              rw [hlo] at hst
              have hne1 : (O.first (O.rOp (S.word x y)) (O.rD (S.word x y)) (O.rS (S.word x y)) (O.rN (S.word x y)) == (S.word x y)) = true := by rw [hf]; simp
              have HFE := hid hf
              clear hf
              have HLO := hid hlo
              clear hlo efl
              go_wp2
              go_quiet (fail)
              go_wp2_with (first
                | (go_at_call 33; refine (orderOf_read (S.word x y) 0 ⟨a0, a1⟩ (by omega) _ (facts_drewN (HF.out.kept hbl) _).facts).mono ?_; rw [hL]; rintro e w1 ⟨rfl, hb1⟩; have hF1 := hid (((facts_drewN (HF.out.kept hbl) _).kept hb1).kept (stA (st0 _) (.cells #[.int .i64 (O.rOp (S.word x y)), .int .i64 (O.rD (S.word x y)), .int .i64 (O.rS (S.word x y)), .int .i64 (O.rN (S.word x y)), .int .i64 (O.rW (S.word x y) 0)] 47))))
                | (go_at_call 25; refine (wordsOf_read (S.word x y) 0 ⟨a0, a1⟩ (by omega) _ hF1.out.facts).mono ?_; rintro e w2 ⟨g2, n2, k2, rfl, hn2', hc2, hg2, hb2⟩; have hk2' : (0 : Int) < n2 := Int.natCast_pos.2 hn2'; have hF2 := hid (hF1.out.kept hb2); obtain ⟨hcc, hff⟩ := bcell hb2; have hz2 := lt_box hb2)
                | (go_at_call 35; refine (itoa_any (S.word x y) (by omega) (by omega) _ hF2.out.af).mono ?_; rintro e w3 ⟨rfl, hb3⟩))
              refine ⟨⟨q + 2, acc ++ (S.wordText (S.word x y) ++ [10]), _, by omega, by omega, by rw [show n - (q + 2) = 0 by omega, show cap - q - 2 = cap - (q + 2) by omega], fun h => ?_, by rw [wordText_mk, mk_append], stp (stp (stA (stp (st_drewN hbl _) hb1) _) hb2) hb3, ?_, ?_⟩, ?_⟩
              · first | rfl | (rw [if_neg (by omega)]; rfl)
              · rw [← hacc0.out, hst.out]
                rw [show l.drop (q + 2) = (l.drop q).drop 2 by rw [List.drop_drop], hdq]
                simp
              · have hlx : (S.wordText (S.word x y)).length ≤ 60 := by simp [S.wordText, S.plain]; rw [mk_size] at hil; omega
                simp; omega
              · simp only; omega
          · have hlo := line_no (S.word x y) 2 0 (fun h => hf h.1)
            rw [← efl] at hlo
            rw [hlo] at hst
            have hne1 : (O.first (O.rOp (S.word x y)) (O.rD (S.word x y)) (O.rS (S.word x y)) (O.rN (S.word x y)) == (S.word x y)) = false := by simpa using hf
            clear hf
            have HLO := hid hlo
            clear hlo efl
            go_wp2
            go_quiet (fail)
            go_wp2_with (first
              | (go_at_call 33; refine (orderOf_read (S.word x y) 0 ⟨a0, a1⟩ (by omega) _ (facts_drewN (HF.out.kept hbl) _).facts).mono ?_; rintro e w1 ⟨rfl, hb1⟩; have hF1 := hid (((facts_drewN (HF.out.kept hbl) _).kept hb1).kept (stA (st0 _) (.cells #[.int .i64 (O.rOp (S.word x y)), .int .i64 (O.rD (S.word x y)), .int .i64 (O.rS (S.word x y)), .int .i64 (O.rN (S.word x y)), .int .i64 (O.rW (S.word x y) 0)] 47))))
              | (go_at_call 25; refine (wordsOf_read (S.word x y) 0 ⟨a0, a1⟩ (by omega) _ hF1.out.facts).mono ?_; rintro e w2 ⟨g2, n2, k2, rfl, hn2', hc2, hg2, hb2⟩; have hk2' : (0 : Int) < n2 := Int.natCast_pos.2 hn2'; have hF2 := hid (hF1.out.kept hb2); obtain ⟨hcc, hff⟩ := bcell hb2; have hz2 := lt_box hb2)
              | (go_at_call 35; refine (itoa_any (S.word x y) (by omega) (by omega) _ hF2.out.af).mono ?_; rintro e w3 ⟨rfl, hb3⟩))
            refine ⟨⟨q + 2, acc ++ (S.wordText (S.word x y) ++ [10]), _, by omega, by omega, by rw [show n - (q + 2) = 0 by omega, show cap - q - 2 = cap - (q + 2) by omega], fun h => ?_, by rw [wordText_mk, mk_append], stp (stp (stA (stp (st_drewN hbl _) hb1) _) hb2) hb3, ?_, ?_⟩, ?_⟩
            · first | rfl | (rw [if_neg (by omega)]; rfl)
            · rw [← hacc0.out, hst.out]
              rw [show l.drop (q + 2) = (l.drop q).drop 2 by rw [List.drop_drop], hdq]
              simp
            · have hlx : (S.wordText (S.word x y)).length ≤ 60 := by simp [S.wordText, S.plain]; rw [mk_size] at hil; omega
              simp; omega
            · simp only; omega
        | [z], hld => simp at hld; omega
        | x2 :: y2 :: r2, hld =>
          have hn4 : (3 : Int) < ((n - q : Nat) : Int) := by simp at hld; omega
          have hn0 : (0 : Int) < ((n - q : Nat) : Int) := by omega
          have hn1 : (1 : Int) < ((n - q : Nat) : Int) := by omega
          have hn2 : (2 : Int) < ((n - q : Nat) : Int) := by omega
          have hm4 : 4 ≤ n - q := by omega
          obtain ⟨b0, b1⟩ := S.word_bd x2 y2
          obtain ⟨vx1, vx2, vx3⟩ := word_wraps x2 y2
          have vy1 : IntKind.u16.wrap (y2.toNat : Int) = y2.toNat := (word_wraps y2 y2).1
          have c2 : wr.cell? ⟨g, o + q + 2, none⟩ = some (.int .u8 x2.toNat) := hbd.out 2 x2 rfl
          have c3 : wr.cell? ⟨g, o + q + 3, none⟩ = some (.int .u8 y2.toNat) := hbd.out 3 y2 rfl
          have efl : S.firstLine (x :: y :: x2 :: y2 :: r2) = S.lineOf (S.word x y) (n - q) (S.word x2 y2) := by rw [← hld]; rfl
          have hos := order_small (S.word x y) (S.word x2 y2) ⟨a0, a1⟩ ⟨b0, b1⟩
          have j1 : ¬ 9223372036854775807 < (mk (S.orderText (O.rk (S.word x y)) (S.rOrd (S.word x y) (S.word x2 y2)))).size + 1 := by omega
          have j2 : ¬ 9223372036854775807 < (mk acc).size + ((mk (S.orderText (O.rk (S.word x y)) (S.rOrd (S.word x y) (S.word x2 y2)))).size + 1) := by omega
          have hL := S.rLen_or (S.word x y)
          by_cases hf : O.first (O.rOp (S.word x y)) (O.rD (S.word x y)) (O.rS (S.word x y)) (O.rN (S.word x y)) = S.word x y
          · rcases hL with hL | hL
            · have hlo := line_yes (S.word x y) (n - q) (S.word x2 y2) hf (by rw [hL]; omega)
              rw [← efl] at hlo
              rw [hlo] at hst
              have hne1 : (O.first (O.rOp (S.word x y)) (O.rD (S.word x y)) (O.rS (S.word x y)) (O.rN (S.word x y)) == (S.word x y)) = true := by rw [hf]; simp
              have HFE := hid hf
              clear hf
              have hle : (2 : Int) * 1 ≤ ((n - q : Nat) : Int) := by omega
              have HLO := hid hlo
              clear hlo efl
              go_wp2
              go_quiet (fail)
              go_wp2
              go_quiet (fail)
              go_wp2_with (first
                | (go_at_call 33; refine (orderOf_read (S.word x y) (S.word x2 y2) ⟨a0, a1⟩ ⟨b0, b1⟩ _ (facts_drewN (HF.out.kept hbl) _).facts).mono ?_; rw [hL]; rintro e w1 ⟨rfl, hb1⟩; have hF1 := hid (((facts_drewN (HF.out.kept hbl) _).kept hb1).kept (stA (st0 _) (.cells #[.int .i64 (O.rOp (S.word x y)), .int .i64 (O.rD (S.word x y)), .int .i64 (O.rS (S.word x y)), .int .i64 (O.rN (S.word x y)), .int .i64 (O.rW (S.word x y) (S.word x2 y2))] 47))))
                | (go_at_call 25; refine (wordsOf_read (S.word x y) (S.word x2 y2) ⟨a0, a1⟩ ⟨b0, b1⟩ _ hF1.out.facts).mono ?_; rintro e w2 ⟨g2, n2, k2, rfl, hn2', hc2, hg2, hb2⟩; have hk2' : (0 : Int) < n2 := Int.natCast_pos.2 hn2'; have hF2 := hid (hF1.out.kept hb2); obtain ⟨hcc, hff⟩ := bcell hb2; have hz2 := lt_box hb2)
                | (go_at_call 34; refine (orderText_read (S.word x y) (S.word x2 y2) ⟨a0, a1⟩ ⟨b0, b1⟩ _ hF2.out).mono ?_; rintro e w3 ⟨rfl, hb3⟩))
              refine ⟨⟨q + 2, acc ++ (S.orderText (O.rk (S.word x y)) (S.rOrd (S.word x y) (S.word x2 y2)) ++ [10]), _, by omega, by omega, by rw [show n - q - 2 = n - (q + 2) by omega, show cap - q - 2 = cap - (q + 2) by omega], fun h => ?_, by rw [show (⟨#[10]⟩ : ByteArray) = mk [10] from rfl, mk_append, mk_append], stp (stp (stA (stp (st_drewN hbl _) hb1) _) hb2) hb3, ?_, ?_⟩, ?_⟩
              · first | rfl | (rw [if_neg (by omega)]; rfl)
              · rw [← hacc0.out, hst.out]
                rw [show l.drop (q + 2) = (l.drop q).drop 2 by rw [List.drop_drop], hdq]
                simp [hL]
              · have hlx : (S.orderText (O.rk (S.word x y)) (S.rOrd (S.word x y) (S.word x2 y2))).length ≤ 60 := hos
                simp; omega
              · simp only; omega
            · have hlo := line_yes (S.word x y) (n - q) (S.word x2 y2) hf (by rw [hL]; omega)
              rw [← efl] at hlo
              rw [hlo] at hst
              have hne1 : (O.first (O.rOp (S.word x y)) (O.rD (S.word x y)) (O.rS (S.word x y)) (O.rN (S.word x y)) == (S.word x y)) = true := by rw [hf]; simp
              have HFE := hid hf
              clear hf
              have hle : (2 : Int) * 2 ≤ ((n - q : Nat) : Int) := by omega
              have HLO := hid hlo
              clear hlo efl
              go_wp2
              go_quiet (fail)
              go_wp2
              go_quiet (fail)
              go_wp2_with (first
                | (go_at_call 33; refine (orderOf_read (S.word x y) (S.word x2 y2) ⟨a0, a1⟩ ⟨b0, b1⟩ _ (facts_drewN (HF.out.kept hbl) _).facts).mono ?_; rw [hL]; rintro e w1 ⟨rfl, hb1⟩; have hF1 := hid (((facts_drewN (HF.out.kept hbl) _).kept hb1).kept (stA (st0 _) (.cells #[.int .i64 (O.rOp (S.word x y)), .int .i64 (O.rD (S.word x y)), .int .i64 (O.rS (S.word x y)), .int .i64 (O.rN (S.word x y)), .int .i64 (O.rW (S.word x y) (S.word x2 y2))] 47))))
                | (go_at_call 25; refine (wordsOf_read (S.word x y) (S.word x2 y2) ⟨a0, a1⟩ ⟨b0, b1⟩ _ hF1.out.facts).mono ?_; rintro e w2 ⟨g2, n2, k2, rfl, hn2', hc2, hg2, hb2⟩; have hk2' : (0 : Int) < n2 := Int.natCast_pos.2 hn2'; have hF2 := hid (hF1.out.kept hb2); obtain ⟨hcc, hff⟩ := bcell hb2; have hz2 := lt_box hb2)
                | (go_at_call 34; refine (orderText_read (S.word x y) (S.word x2 y2) ⟨a0, a1⟩ ⟨b0, b1⟩ _ hF2.out).mono ?_; rintro e w3 ⟨rfl, hb3⟩))
              refine ⟨⟨q + 4, acc ++ (S.orderText (O.rk (S.word x y)) (S.rOrd (S.word x y) (S.word x2 y2)) ++ [10]), _, by omega, by omega, by rw [show n - q - 4 = n - (q + 4) by omega, show cap - q - 4 = cap - (q + 4) by omega], fun h => ?_, by rw [show (⟨#[10]⟩ : ByteArray) = mk [10] from rfl, mk_append, mk_append], stp (stp (stA (stp (st_drewN hbl _) hb1) _) hb2) hb3, ?_, ?_⟩, ?_⟩
              · first | rfl | (rw [if_neg (by omega)]; rfl)
              · rw [← hacc0.out, hst.out]
                rw [show l.drop (q + 4) = (l.drop q).drop 4 by rw [List.drop_drop], hdq]
                simp [hL]
              · have hlx : (S.orderText (O.rk (S.word x y)) (S.rOrd (S.word x y) (S.word x2 y2))).length ≤ 60 := hos
                simp; omega
              · simp only; omega
          · have hlo := line_no (S.word x y) (n - q) (S.word x2 y2) (fun h => hf h.1)
            rw [← efl] at hlo
            rw [hlo] at hst
            have hne1 : (O.first (O.rOp (S.word x y)) (O.rD (S.word x y)) (O.rS (S.word x y)) (O.rN (S.word x y)) == (S.word x y)) = false := by simpa using hf
            clear hf
            have HLO := hid hlo
            clear hlo efl
            go_wp2
            go_quiet (fail)
            go_wp2
            go_quiet (fail)
            go_wp2_with (first
              | (go_at_call 33; refine (orderOf_read (S.word x y) (S.word x2 y2) ⟨a0, a1⟩ ⟨b0, b1⟩ _ (facts_drewN (HF.out.kept hbl) _).facts).mono ?_; rintro e w1 ⟨rfl, hb1⟩; have hF1 := hid (((facts_drewN (HF.out.kept hbl) _).kept hb1).kept (stA (st0 _) (.cells #[.int .i64 (O.rOp (S.word x y)), .int .i64 (O.rD (S.word x y)), .int .i64 (O.rS (S.word x y)), .int .i64 (O.rN (S.word x y)), .int .i64 (O.rW (S.word x y) (S.word x2 y2))] 47))))
              | (go_at_call 25; refine (wordsOf_read (S.word x y) (S.word x2 y2) ⟨a0, a1⟩ ⟨b0, b1⟩ _ hF1.out.facts).mono ?_; rintro e w2 ⟨g2, n2, k2, rfl, hn2', hc2, hg2, hb2⟩; have hk2' : (0 : Int) < n2 := Int.natCast_pos.2 hn2'; have hF2 := hid (hF1.out.kept hb2); obtain ⟨hcc, hff⟩ := bcell hb2; have hz2 := lt_box hb2)
              | (go_at_call 35; refine (itoa_any (S.word x y) (by omega) (by omega) _ hF2.out.af).mono ?_; rintro e w3 ⟨rfl, hb3⟩))
            refine ⟨⟨q + 2, acc ++ (S.wordText (S.word x y) ++ [10]), _, by omega, by omega, by rw [show n - q - 2 = n - (q + 2) by omega, show cap - q - 2 = cap - (q + 2) by omega], fun h => ?_, by rw [wordText_mk, mk_append], stp (stp (stA (stp (st_drewN hbl _) hb1) _) hb2) hb3, ?_, ?_⟩, ?_⟩
            · first | rfl | (rw [if_neg (by omega)]; rfl)
            · rw [← hacc0.out, hst.out]
              rw [show l.drop (q + 2) = (l.drop q).drop 2 by rw [List.drop_drop], hdq]
              simp
            · have hlx : (S.wordText (S.word x y)).length ≤ 60 := by simp [S.wordText, S.plain]; rw [mk_size] at hil; omega
              simp; omega
            · simp only; omega
      | [x], hld => simp at hld; omega
      | [], hld => simp at hld; omega
    · have hqn : q = n := by omega
      subst hqn
      have h0 : q - q = 0 := by omega
      rw [h0]
      have hacc' : acc = S.list l := by
        rw [← hacc, List.drop_of_length_le (by omega)]; simp [S.list, S.listN]
      subst hacc'
      go_wp2
      go_ret
      exact ⟨rfl, hbl⟩
theorem listed_any (v : Value) (l : List UInt8) (he : l.length % 2 = 0) (hm : l.length ≤ 1024) (w : World) (h : sliceAt w v l) (hF : RF w) :
    Calls Tryz.prog 13 #[v] w fun e w' => e = .returned (.string (mk (S.list l))) ∧ Below w.heap.size w w' := by
  have h0 : ∀ (a : Option Addr) (cap : Nat), Calls Tryz.prog 13 #[.slice a 0 cap] w fun e w' => e = .returned (.string (mk [])) ∧ Below w.heap.size w w' := fun a cap => by
    go_enter Tryz.func13, Tryz.ntmps13
    go_wp2
    go_loop [0, 3] (fun r t => r = .slice a 0 cap ∧ t = .string (mk [])) (fun _ _ => 0)
    case atStart => exact ⟨rfl, rfl⟩
    case round =>
      obtain ⟨rfl, rfl⟩ := hrel
      go_wp2
      go_ret
      exact ⟨rfl, st0 _⟩
  rcases h with ⟨a, cap, rfl, rfl⟩ | ⟨g, o, cap, rfl, h2, h3, h4⟩
  · exact h0 a cap
  · by_cases hz : l.length = 0
    · have : l = [] := List.length_eq_zero_iff.1 hz
      subst this
      exact h0 _ cap
    · exact listed_n g o l.length cap l rfl (by omega) he hm h2 w h3 h4 hF
end Go.Proofs.YtpjohnjjjoobjabGreatDoor
