/-
  What a processor of package cpu does when it leaves, comes back, and reads the word at PC; over whatever it comes to.
-/
import Derived.Test.YtombboeonffejaaGreatDoorCpuC
namespace Go.Proofs.YtombboeonffejaaGreatDoor
open Go.ChangeShapes Go.WideShapes Go.ChangeAt Go.RowKit
set_option linter.unusedVariables false

section
variable {σ : Type} {m : C.Mem σ} {B nr nw : Nat} {cr cw : Array Value} {I : World → σ → Prop} {T : σ → Nat → Prop}
set_option maxRecDepth 100000 in
set_option maxHeartbeats 1600000 in
theorem leave_any (R : RS m B nr nw cr cw I T) (a : Int) (ha : 0 ≤ a) (ha' : a ≤ 65535) (w : World) (p : Nat) (x : C.St σ) (hP : PI B nr nw cr cw I T w p x) :
    Calls Tryz.prog 55 #[.pointer (some ⟨p, 0, none⟩), .int .u16 a] w fun e w' => e = .returned (.tuple #[]) ∧ PI B nr nw cr cw I T w' p (C.leave m x a) ∧ PM B T p x.s (C.leave m x a).s w w' := by
  obtain ⟨c8, _, _, _, _, _, _, _, _, _⟩ := hP.cells
  have hlt := hP.lt
  have HP := hid hP
  have HR := hid R
  have HK := hid hP.ok
  clear hP R
  go_enter Tryz.func55, Tryz.ntmps55
  go_wp2_with (first
    | (go_at_call 67; first
        | (refine (push_any HR.out _ (C.sign_bd _).1 (Int.le_trans (C.sign_bd _).2 (by omega)) _ p y1 (HY1.out.kept HR.out hb2)).mono ?_; rintro e w3 ⟨rfl, hP3, hm3⟩; generalize hy2 : C.push m y1 (C.sign y1.c) = y2 at hP3 hm3; obtain ⟨_, _, _, _, _, _, _, e15, e16, _⟩ := hP3.cells; have ef1 := hP3.frozen 13; have ef2 := hP3.frozen 14; have el := hP3.lt; have HY2 := hid hP3; have HE2 := hid hy2; clear hP3 hy2)
        | (refine (push_any HR.out _ HK.out.2.2.1 HK.out.2.2.2 _ p x HP.out).mono ?_; rintro e w1 ⟨rfl, hP1, hm1⟩; generalize hy1 : C.push m x x.c.PC = y1 at hP1 hm1; obtain ⟨d8, d9, d10, d11, d12, d13, d14, d15, d16, d17⟩ := hP1.cells; obtain ⟨d0, d1, d2, d3, d4, d5, d6, d7⟩ := hP1.regs; have dl := hP1.lt; have HY1 := hid hP1; have HE1 := hid hy1; clear hP1 hy1))
    | (go_at_call 10; refine (sign_any y1.c _).mono ?_; rintro e w2 ⟨rfl, hb2⟩)
    | (go_at_call 54; refine (wordAt_any HR.out a ha ha' _ y2.s ?_).mono ?_; (exact ((HY2.out.putMay HR.out false).putWaits HR.out false).inv); rintro e w4 ⟨rfl, hI4, hm4⟩; obtain ⟨k4, f4, z4⟩ := ((HY2.out.putMay HR.out false).putWaits HR.out false).after hm4 rfl))
  go_end0
  have h1 := HE1.out
  have h2 := HE2.out
  have hE : C.leave m x a = ⟨{ y2.c with May := false, Waits := false, PC := (m.rdw y2.s a).1 }, (m.rdw y2.s a).2, y2.n⟩ := by subst h1; subst h2; rfl
  rw [hE]
  exact ⟨rfl, (((HY2.out.putMay HR.out false).putWaits HR.out false).movedS HR.out hI4 hm4 rfl).putPC HR.out _ (HR.out.word _ _).1 (HR.out.word _ _).2, (((((hm1.kept (HY1.out.hB HR.out) hb2).trans hm3).set HP.out.big 13 _).set HP.out.big 14 _).moved hm4).set HP.out.big 8 _⟩
set_option maxRecDepth 100000 in
set_option maxHeartbeats 1600000 in
theorem beside_any (w : World) (p : Nat) (r : Nat) (n v : Int) (hr : r < 8) (hc : w.cell? ⟨p, r, none⟩ = some (.int .u16 v)) (hlt : p < w.heap.size) :
    Calls Tryz.prog 76 #[.pointer (some ⟨p, 0, none⟩), .int .i64 r, .int .i64 n] w fun e w' => e = .returned (.int .u16 ((v + n) % 65536)) ∧ w' = w := by
  have h0 : (0 : Int) ≤ r := by omega
  have h8 : (r : Int) < 8 := by omega
  go_enter Tryz.func76, Tryz.ntmps76
  go_wp2
  go_ret
  exact ⟨ret_i (by rw [u16w, u16w]; omega), rfl⟩
set_option maxRecDepth 100000 in
set_option maxHeartbeats 1600000 in
theorem next_any (R : RS m B nr nw cr cw I T) (w : World) (p : Nat) (x : C.St σ) (hP : PI B nr nw cr cw I T w p x) :
    Calls Tryz.prog 68 #[.pointer (some ⟨p, 0, none⟩)] w fun e w' => e = .returned (.int .u16 (m.rdw x.s x.c.PC).1) ∧ PI B nr nw cr cw I T w' p ⟨{ x.c with PC := (x.c.PC + 2) % 65536 }, (m.rdw x.s x.c.PC).2, x.n⟩ ∧ PM B T p x.s (m.rdw x.s x.c.PC).2 w w' := by
  obtain ⟨c8, _, _, _, _, _, _, c15, c16, _⟩ := hP.cells
  have hlt := hP.lt
  have HP := hid hP
  have HR := hid R
  have HK := hid hP.ok
  clear hP R
  go_enter Tryz.func68, Tryz.ntmps68
  go_wp2
  go_region_held3 (fun w' => w'.cell? ⟨p, 8, none⟩ = some (.int .u16 x.c.PC) ∧ w'.cell? ⟨p, 15, none⟩ = some (fv nr cr) ∧ w'.cell? ⟨p, 16, none⟩ = some (fv nw cw))
    ((go_keep; done))
    ((go_at_call 54; refine (wordAt_any HR.out x.c.PC HK.out.2.2.1 HK.out.2.2.2 _ x.s ?_).mono ?_; (exact HP.out.invS HR.out rfl); rintro e w1 ⟨rfl, hI1, hm1⟩; obtain ⟨k1, f1, z1⟩ := HP.out.after hm1 rfl))
  have hP1 := HP.out.movedS HR.out hI1 hm1 rfl
  have hPC := HK.out.2.2
  have HP1 := hid (hP1.putPC HR.out ((x.c.PC + 2) % 65536) (by omega) (by omega))
  have hw := u16w (x.c.PC + 2)
  clear hP1 hPC
  go_wp2
  go_ret
  exact ⟨rfl, HP1.out.same HR.out rfl, ((PM.refl B T p x.s w).drew.moved hm1).set HP.out.big 8 _⟩
theorem and_bit (n : Int) (k : Nat) (h0 : 0 ≤ n) (h1 : n ≤ 65535) (hk : k < 16) (y : Int) (hy : y = ((2 ^ k : Nat) : Int)) : (bits .and .u16 n y != 0) = decide (n / ((2 ^ k : Nat) : Int) % 2 = 1) := by
  obtain ⟨N, rfl⟩ := Int.eq_ofNat_of_zero_le h0
  have hp : 2 ^ k < 65536 := Nat.pow_lt_pow_right (by omega) hk
  rw [hy, u16_and_nat N (2 ^ k) (by omega) hp, M.and_pow, Nat.testBit_eq_decide_div_mod_eq]
  have h2 : 0 < 2 ^ k := Nat.pos_of_ne_zero (by simp)
  have e : ((N : Int) / ((2 ^ k : Nat) : Int) % 2 = 1) ↔ (N / 2 ^ k % 2 = 1) := by
    rw [← Int.natCast_ediv]; omega
  by_cases h : N / 2 ^ k % 2 = 1
  · rw [decide_eq_true (e.2 h), decide_eq_true h]
    simp only [if_true, bne_iff_ne, ne_eq]
    omega
  · rw [decide_eq_false (fun x => h (e.1 x)), decide_eq_false h]
    simp
set_option maxRecDepth 100000 in
set_option maxHeartbeats 1600000 in
theorem comeBack_any (R : RS m B nr nw cr cw I T) (w : World) (p : Nat) (x : C.St σ) (hP : PI B nr nw cr cw I T w p x) :
    Calls Tryz.prog 102 #[.pointer (some ⟨p, 0, none⟩)] w fun e w' => e = .returned (.tuple #[]) ∧ PI B nr nw cr cw I T w' p (C.comeBack m x) ∧ PM B T p x.s (C.comeBack m x).s w w' := by
  have HP := hid hP
  have HR := hid R
  have hn := hid (R.word x.s (x.c.r 7))
  clear hP R
  generalize hE : C.comeBack m x = z
  have HE := hid hE
  clear hE
  go_enter Tryz.func102, Tryz.ntmps102
  go_wp2_with (first
    | (go_at_call 96; first
        | (refine (pop_any HR.out _ p _ HY1.out).mono ?_; rintro e w2 ⟨rfl, hP2, hm2⟩; have ef := hP2.frozen; have el := hP2.lt; have es8 := hP2.cells; obtain ⟨e8, e9, e10, e11, e12, e13, _, _, _, _⟩ := hP2.cells; have HY2 := hid hP2; clear hP2 es8)
        | (refine (pop_any HR.out _ p x HP.out).mono ?_; rintro e w1 ⟨rfl, hP1, hm1⟩; have HY1 := hid hP1; clear hP1)))
  go_end0
  have hE := HE.out
  subst hE
  have b0 := and_bit (C.popV m x) 0 hn.out.1 hn.out.2 (by omega) 1 rfl
  have b1 := and_bit (C.popV m x) 1 hn.out.1 hn.out.2 (by omega) 2 rfl
  have b2 := and_bit (C.popV m x) 2 hn.out.1 hn.out.2 (by omega) 4 rfl
  have b3 := and_bit (C.popV m x) 3 hn.out.1 hn.out.2 (by omega) 8 rfl
  have b4 := and_bit (C.popV m x) 4 hn.out.1 hn.out.2 (by omega) 16 rfl
  rw [show ((2 ^ 0 : Nat) : Int) = 1 from rfl, Int.ediv_one] at b0
  rw [show ((2 ^ 1 : Nat) : Int) = 2 from rfl] at b1
  rw [show ((2 ^ 2 : Nat) : Int) = 4 from rfl] at b2
  rw [show ((2 ^ 3 : Nat) : Int) = 8 from rfl] at b3
  rw [show ((2 ^ 4 : Nat) : Int) = 16 from rfl] at b4
  rw [b0, b1, b2, b3, b4]
  exact ⟨rfl, (((((HY2.out.putPC HR.out _ (HR.out.word _ _).1 (HR.out.word _ _).2).putZ HR.out _).putN HR.out _).putC HR.out _).putV HR.out _).putMay HR.out _,
    ((((((hm1.trans hm2).set HP.out.big 8 _).set HP.out.big 9 _).set HP.out.big 10 _).set HP.out.big 11 _).set HP.out.big 12 _).set HP.out.big 13 _⟩
end
end Go.Proofs.YtombboeonffejaaGreatDoor
