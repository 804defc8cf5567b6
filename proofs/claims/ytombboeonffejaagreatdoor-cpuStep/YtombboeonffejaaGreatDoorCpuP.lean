/-
  What one step of a processor of package cpu does, whatever the order, over whatever it comes to.
-/
import Derived.Test.YtombboeonffejaaGreatDoorCpuN1
import Derived.Test.YtombboeonffejaaGreatDoorCpuN2
import Derived.Test.YtombboeonffejaaGreatDoorCpuN3
import Derived.Test.YtombboeonffejaaGreatDoorCpuN4
import Derived.Test.YtombboeonffejaaGreatDoorCpuN5
namespace Go.Proofs.YtombboeonffejaaGreatDoor
open Go.ChangeShapes Go.WideShapes Go.ChangeAt Go.RowKit
set_option linter.unusedVariables false

theorem rk_bd (a : Int) (h : 0 ≤ a ∧ a ≤ 65535) : O.rk a < 32 ∧ O.rk a ≠ 30 ∧ O.rOp a = (O.rk a : Int) := by
  unfold O.rk O.rOp
  split <;> omega
theorem rD_bd (a : Int) : 0 ≤ O.rD a ∧ O.rD a ≤ 7 := by unfold O.rD; split <;> omega
theorem rS_bd (a : Int) : 0 ≤ O.rS a ∧ O.rS a ≤ 7 := by unfold O.rS; split <;> omega
theorem rN_bd (a : Int) : -16 ≤ O.rN a ∧ O.rN a ≤ 15 := by
  unfold O.rN O.nOf
  split
  · split
    · omega
    · split <;> omega
  · omega
theorem rN_0 (a : Int) (h : O.rk a = 12 ∨ O.rk a = 13) : 0 ≤ O.rN a := by
  unfold O.rN O.nOf
  split
  · first | omega | (rw [if_pos h]; omega)
  · omega
theorem rW_bd (a b : Int) (h : 0 ≤ b ∧ b ≤ 65535) : 0 ≤ O.rW a b ∧ O.rW a b ≤ 65535 := by unfold O.rW; split <;> omega
section
variable {σ : Type} {m : C.Mem σ} {B nr nw : Nat} {cr cw : Array Value} {I : World → σ → Prop} {T : σ → Nat → Prop}
theorem word1_bd (R : RS m B nr nw cr cw I T) (c : C.Cpu) (s : σ) : 0 ≤ C.word1 m c s ∧ C.word1 m c s ≤ 65535 := R.word _ _
theorem word2_bd (R : RS m B nr nw cr cw I T) (c : C.Cpu) (s : σ) : 0 ≤ C.word2 m c s ∧ C.word2 m c s ≤ 65535 := by
  unfold C.word2
  split
  · exact R.word _ _
  · omega
set_option maxRecDepth 100000 in
theorem step_order (R : RS m B nr nw cr cw I T) (r : Bool) (w : World) (p : Nat) (x : C.St σ) (hP : PI B nr nw cr cw I T w p x) (hr : (r && x.c.May) = false) (hw : x.c.Waits = false) :
    Calls Tryz.prog 40 #[.pointer (some ⟨p, 0, none⟩), .bool r] w (AP B nr nw cr cw I T w p x (C.order m x.c x.s)) := by
  have hF := fetch_any R w p x hP
  have b1 := word1_bd R x.c x.s
  have b2 := word2_bd R x.c x.s
  unfold C.order
  generalize C.word1 m x.c x.s = a at hF b1 ⊢
  generalize C.word2 m x.c x.s = b at hF b2 ⊢
  generalize C.behind m x.c x.s = y at hF ⊢
  obtain ⟨h32, h30, hop⟩ := rk_bd a b1
  have hd := rD_bd a
  have hs := rS_bd a
  have hn := rN_bd a
  have hv := rW_bd a b b2
  have hn0 := rN_0 a
  unfold orderV at hF
  rw [hop] at hF
  generalize O.rk a = k at *
  generalize O.rN a = n at *
  generalize O.rW a b = v at *
  obtain ⟨d, ed⟩ := Int.eq_ofNat_of_zero_le hd.1
  obtain ⟨s, es⟩ := Int.eq_ofNat_of_zero_le hs.1
  rw [ed, es] at hF
  rw [ed] at hd
  rw [es] at hs
  rw [ed, es]
  have hd' : d < 8 := by omega
  have hs' : s < 8 := by omega
  clear hop
  have hk : k = 0 ∨ k = 1 ∨ k = 2 ∨ k = 3 ∨ k = 4 ∨ k = 5 ∨ k = 6 ∨ k = 7 ∨ k = 8 ∨ k = 9 ∨ k = 10 ∨ k = 11 ∨ k = 12 ∨ k = 13 ∨ k = 14 ∨ k = 15 ∨ k = 16 ∨ k = 17 ∨ k = 18 ∨ k = 19 ∨ k = 20 ∨ k = 21 ∨ k = 22 ∨ k = 23 ∨ k = 24 ∨ k = 25 ∨ k = 26 ∨ k = 27 ∨ k = 28 ∨ k = 29 ∨ k = 31 := by omega
  rcases hk with rfl | rfl | rfl | rfl | rfl | rfl | rfl | rfl | rfl | rfl | rfl | rfl | rfl | rfl | rfl | rfl | rfl | rfl | rfl | rfl | rfl | rfl | rfl | rfl | rfl | rfl | rfl | rfl | rfl | rfl | rfl
  · exact step_0 R d s n v hd' hs' hn hv.1 hv.2 r w p x ⟨y.c, y.s, x.n⟩ hP hr hw hF
  · exact step_1 R d s n v hd' hs' hn hv.1 hv.2 r w p x ⟨y.c, y.s, x.n⟩ hP hr hw hF
  · exact step_2 R d s n v hd' hs' hn hv.1 hv.2 r w p x ⟨y.c, y.s, x.n⟩ hP hr hw hF
  · exact step_3 R d s n v hd' hs' hn hv.1 hv.2 r w p x ⟨y.c, y.s, x.n⟩ hP hr hw hF
  · exact step_4 R d s n v hd' hs' hn hv.1 hv.2 r w p x ⟨y.c, y.s, x.n⟩ hP hr hw hF
  · exact step_5 R d s n v hd' hs' hn hv.1 hv.2 r w p x ⟨y.c, y.s, x.n⟩ hP hr hw hF
  · exact step_6 R d s n v hd' hs' hn hv.1 hv.2 r w p x ⟨y.c, y.s, x.n⟩ hP hr hw hF
  · exact step_7 R d s n v hd' hs' hn hv.1 hv.2 r w p x ⟨y.c, y.s, x.n⟩ hP hr hw hF
  · exact step_8 R d s n v hd' hs' hn hv.1 hv.2 r w p x ⟨y.c, y.s, x.n⟩ hP hr hw hF
  · exact step_9 R d s n v hd' hs' hn hv.1 hv.2 r w p x ⟨y.c, y.s, x.n⟩ hP hr hw hF
  · exact step_10 R d s n v hd' hs' hn hv.1 hv.2 r w p x ⟨y.c, y.s, x.n⟩ hP hr hw hF
  · exact step_11 R d s n v hd' hs' hn hv.1 hv.2 r w p x ⟨y.c, y.s, x.n⟩ hP hr hw hF
  · exact step_12 R d s n v hd' hs' hn (hn0 (Or.inl rfl)) hv.1 hv.2 r w p x ⟨y.c, y.s, x.n⟩ hP hr hw hF
  · exact step_13 R d s n v hd' hs' hn (hn0 (Or.inr rfl)) hv.1 hv.2 r w p x ⟨y.c, y.s, x.n⟩ hP hr hw hF
  · exact step_14 R d s n v hd' hs' hn hv.1 hv.2 r w p x ⟨y.c, y.s, x.n⟩ hP hr hw hF
  · exact step_15 R d s n v hd' hs' hn hv.1 hv.2 r w p x ⟨y.c, y.s, x.n⟩ hP hr hw hF
  · exact step_16 R d s n v hd' hs' hn hv.1 hv.2 r w p x ⟨y.c, y.s, x.n⟩ hP hr hw hF
  · exact step_17 R d s n v hd' hs' hn hv.1 hv.2 r w p x ⟨y.c, y.s, x.n⟩ hP hr hw hF
  · exact step_18 R d s n v hd' hs' hn hv.1 hv.2 r w p x ⟨y.c, y.s, x.n⟩ hP hr hw hF
  · exact step_19 R d s n v hd' hs' hn hv.1 hv.2 r w p x ⟨y.c, y.s, x.n⟩ hP hr hw hF
  · exact step_20 R d s n v hd' hs' hn hv.1 hv.2 r w p x ⟨y.c, y.s, x.n⟩ hP hr hw hF
  · exact step_21 R d s n v hd' hs' hn hv.1 hv.2 r w p x ⟨y.c, y.s, x.n⟩ hP hr hw hF
  · exact step_22 R d s n v hd' hs' hn hv.1 hv.2 r w p x ⟨y.c, y.s, x.n⟩ hP hr hw hF
  · exact step_23 R d s n v hd' hs' hn hv.1 hv.2 r w p x ⟨y.c, y.s, x.n⟩ hP hr hw hF
  · exact step_24 R d s n v hd' hs' hn hv.1 hv.2 r w p x ⟨y.c, y.s, x.n⟩ hP hr hw hF
  · exact step_25 R d s n v hd' hs' hn hv.1 hv.2 r w p x ⟨y.c, y.s, x.n⟩ hP hr hw hF
  · exact step_26 R d s n v hd' hs' hn hv.1 hv.2 r w p x ⟨y.c, y.s, x.n⟩ hP hr hw hF
  · exact step_27 R d s n v hd' hs' hn hv.1 hv.2 r w p x ⟨y.c, y.s, x.n⟩ hP hr hw hF
  · exact step_28 R d s n v hd' hs' hn hv.1 hv.2 r w p x ⟨y.c, y.s, x.n⟩ hP hr hw hF
  · exact step_29 R d s n v hd' hs' hn hv.1 hv.2 r w p x ⟨y.c, y.s, x.n⟩ hP hr hw hF
  · exact step_31 R d s n v hd' hs' hn hv.1 hv.2 r w p x ⟨y.c, y.s, x.n⟩ hP hr hw hF
set_option maxRecDepth 100000 in
set_option maxHeartbeats 1600000 in
theorem step_leave (R : RS m B nr nw cr cw I T) (w : World) (p : Nat) (x : C.St σ) (hP : PI B nr nw cr cw I T w p x) (hm : x.c.May = true) :
    Calls Tryz.prog 40 #[.pointer (some ⟨p, 0, none⟩), .bool true] w (AP B nr nw cr cw I T w p x { C.leave m x 2 with n := 6 }) := by
  obtain ⟨_, _, _, _, _, c13, c14, _, _, _⟩ := hP.cells
  have hlt := hP.lt
  rw [hm] at c13
  have HP := hid hP
  have HR := hid R
  clear hP R hm
  go_enter Tryz.func40, Tryz.ntmps40
  go_wp2_with (go_at_call 55; refine (leave_any HR.out 2 (by omega) (by omega) _ p x HP.out).mono ?_; rintro e w1 ⟨rfl, hP1, hm1⟩; have hl1 := hP1.lt; have f1 := hP1.frozen 17; obtain ⟨_, _, _, _, _, _, _, _, _, e17⟩ := hP1.cells; have HY1 := hid hP1; clear hP1)
  go_end0
  exact ⟨rfl, HY1.out.putCyc HR.out 6, PM.set hm1 HP.out.big 17 _⟩
set_option maxRecDepth 100000 in
set_option maxHeartbeats 1600000 in
theorem step_wait (R : RS m B nr nw cr cw I T) (r : Bool) (w : World) (p : Nat) (x : C.St σ) (hP : PI B nr nw cr cw I T w p x) (hr : (r && x.c.May) = false) (hw : x.c.Waits = true) :
    Calls Tryz.prog 40 #[.pointer (some ⟨p, 0, none⟩), .bool r] w (AP B nr nw cr cw I T w p x ⟨x.c, x.s, 1⟩) := by
  obtain ⟨_, _, _, _, _, c13, c14, _, _, c17⟩ := hP.cells
  have hlt := hP.lt
  have hf := hP.frozen 17
  rw [hw] at c14
  have HP := hid hP
  have HR := hid R
  clear hP R hw
  cases r
  · go_enter Tryz.func40, Tryz.ntmps40
    go_wp2
    go_end0
    exact ⟨rfl, HP.out.putCyc HR.out 1, (PM.refl B T p x.s w).set HP.out.big 17 _⟩
  · simp only [Bool.true_and] at hr
    rw [hr] at c13
    clear hr
    go_enter Tryz.func40, Tryz.ntmps40
    go_wp2
    go_end0
    exact ⟨rfl, HP.out.putCyc HR.out 1, (PM.refl B T p x.s w).set HP.out.big 17 _⟩
theorem step_any (R : RS m B nr nw cr cw I T) (r : Bool) (w : World) (p : Nat) (c : C.Cpu) (s : σ) (hP : PI B nr nw cr cw I T w p ⟨c, s, 0⟩) :
    Calls Tryz.prog 40 #[.pointer (some ⟨p, 0, none⟩), .bool r] w (AP B nr nw cr cw I T w p ⟨c, s, 0⟩ (C.step m c s r)) := by
  unfold C.step
  cases hr : r && c.May
  · rw [if_neg (by simp)]
    cases hw : c.Waits
    · rw [if_neg (by simp)]; exact step_order R r w p ⟨c, s, 0⟩ hP hr hw
    · rw [if_pos rfl]; exact step_wait R r w p ⟨c, s, 0⟩ hP hr hw
  · rw [if_pos rfl]
    obtain ⟨h1, h2⟩ := Bool.and_eq_true_iff.1 hr
    subst h1
    exact step_leave R w p ⟨c, s, 0⟩ hP h2
end
end Go.Proofs.YtombboeonffejaaGreatDoor
