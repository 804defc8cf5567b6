/-
  What a processor of package cpu reckons, over whatever it comes to.
-/
import Derived.Test.YtombboeonffejaaGreatDoorCpuD
import Derived.Test.YtombboeonffejaaGreatDoorFlC
namespace Go.Proofs.YtombboeonffejaaGreatDoor
open Go.ChangeShapes Go.WideShapes Go.ChangeAt Go.RowKit
set_option linter.unusedVariables false

/-- The orders that reckon. -/
def isFl (k : Nat) : Prop := k = 7 ∨ k = 15 ∨ k = 8 ∨ k = 14 ∨ k = 9 ∨ k = 10 ∨ k = 11 ∨ k = 28
theorem flags_any (k : Nat) (hk : isFl k) (a b : Int) (w : World) (ha : 0 ≤ a) (ha' : a ≤ 65535) (hb : 0 ≤ b) (hb' : b ≤ 65535) :
    Calls Tryz.prog 120 #[.int .i64 k, .int .u16 a, .int .u16 b] w fun e w' => e = .returned (.tuple #[.int .u16 (C.flN k a b), .bool (C.flN k a b == 0), .bool (decide (32768 ≤ C.flN k a b)), .bool (C.flC k a b), .bool (C.flV k a b), .int .i64 0]) ∧ Below w.heap.size w w' := by
  rcases hk with rfl | rfl | rfl | rfl | rfl | rfl | rfl | rfl
  · exact flags_7 a b w ha ha' hb hb'
  · exact flags_15 a b w ha ha' hb hb'
  · exact flags_8 a b w ha ha' hb hb'
  · exact flags_14 a b w ha ha' hb hb'
  · exact flags_9 a b w ha ha' hb hb'
  · exact flags_10 a b w ha ha' hb hb'
  · exact flags_11 a b w ha ha' hb hb'
  · exact flags_28 a b w ha ha' hb hb'
theorem flN_bd (k : Nat) (hk : isFl k) (a b : Int) (ha : 0 ≤ a) (ha' : a ≤ 65535) (hb : 0 ≤ b) (hb' : b ≤ 65535) : 0 ≤ C.flN k a b ∧ C.flN k a b ≤ 65535 := by
  rcases hk with rfl | rfl | rfl | rfl | rfl | rfl | rfl | rfl
  · exact M.addN_bd a b
  · exact M.addN_bd a b
  · exact M.subN_bd a b
  · exact M.subN_bd a b
  · exact M.and_bd a b ha ha' hb hb'
  · exact M.or_bd a b ha ha' hb hb'
  · exact M.xor_bd a b ha ha' hb hb'
  · exact M.mulN_bd a b
/-- An order as a value. -/
abbrev ordV (k d s : Nat) (n v : Int) : Value := .agg #[.int .i64 k, .int .i64 d, .int .i64 s, .int .i64 n, .int .i64 v]
section
variable {σ : Type} {m : C.Mem σ} {B nr nw : Nat} {cr cw : Array Value} {I : World → σ → Prop} {T : σ → Nat → Prop}
set_option maxRecDepth 100000 in
set_option maxHeartbeats 1600000 in
theorem reckon_any (R : RS m B nr nw cr cw I T) (k d s : Nat) (n v b : Int) (hk : isFl k) (hd : d < 8) (hb : 0 ≤ b) (hb' : b ≤ 65535) (w : World) (p : Nat) (x : C.St σ) (hP : PI B nr nw cr cw I T w p x) :
    Calls Tryz.prog 87 #[.pointer (some ⟨p, 0, none⟩), ordV k d s n v, .int .u16 b] w fun e w' => e = .returned (.int .u16 (C.flN k (x.c.r d) b)) ∧ PI B nr nw cr cw I T w' p (C.reckon x k (x.c.r d) b) ∧ PM B T p x.s x.s w w' := by
  have cd := hP.reg d hd
  have hlt := hP.lt
  have hne : p ≠ w.heap.size := by omega
  have hlt1 : p < w.heap.size + 1 := by omega
  have hr := C.Cpu.r_bd hP.ok d
  have h0 : (0 : Int) ≤ d := by omega
  have h8 : (d : Int) < 8 := by omega
  have HP := hid hP
  have HR := hid R
  have HC := fun w => hid (flags_any k hk (x.c.r d) b w hr.1 hr.2 hb hb')
  clear hP R
  unfold C.reckon C.signs
  go_enter Tryz.func87, Tryz.ntmps87
  go_wp2
  go_region_held3 (fun w' => w'.cell? ⟨w.heap.size, 0, none⟩ = some (.int .i64 k) ∧ w'.cell? ⟨w.heap.size, 1, none⟩ = some (.int .i64 d) ∧ w'.cell? ⟨p, d, none⟩ = some (.int .u16 (x.c.r d)))
    ((go_keep; done))
    ((go_at_call 120; refine (HC _).out.mono ?_; rintro e w1 ⟨rfl, hb1⟩; obtain ⟨k1, f1⟩ := bcell hb1))
  have hbw := stp (stA (st0 w) (.cells #[.int .i64 k, .int .i64 d, .int .i64 s, .int .i64 n, .int .i64 v] 64)).drew hb1
  have hP1 := HP.out.kept HR.out hbw
  obtain ⟨_, e9, e10, e11, e12, _, _, _, _, _⟩ := hP1.cells
  have ef := hP1.frozen
  have el := hP1.lt
  have HP1 := hid hP1
  have HBW := hid hbw
  clear hP1 hbw k1 f1
  go_wp2
  go_ret
  exact ⟨rfl, (((HP1.out.putZ HR.out _).putN HR.out _).putC HR.out _).putV HR.out _, (((((PM.refl B T p x.s w).kept (HP.out.hB HR.out) HBW.out).set HP.out.big 9 _).set HP.out.big 10 _).set HP.out.big 11 _).set HP.out.big 12 _⟩
end
end Go.Proofs.YtombboeonffejaaGreatDoor
