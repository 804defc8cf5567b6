/-
  What the orders of package cpu do that move bits and jump: their acts are closures.
-/
import Derived.Test.YtombboeonffejaaGreatDoorCpuG
namespace Go.Proofs.YtombboeonffejaaGreatDoor
open Go.ChangeShapes Go.WideShapes Go.ChangeAt Go.RowKit
set_option linter.unusedVariables false

theorem low_16 (a : Int) (h : 0 ≤ a ∧ a ≤ 65535) : decide (M.low a 16 < 0) = decide (32768 ≤ a) := by
  unfold M.low
  simp only [show (16 : Int).toNat = 16 from rfl, Int.reducePow]
  rw [decide_eq_decide]
  split <;> omega
theorem shrN_bd (a n : Int) (h : 0 ≤ a ∧ a ≤ 65535) : 0 ≤ M.shrN a n ∧ M.shrN a n ≤ 65535 := by
  unfold M.shrN
  have hp : (0 : Int) < 2 ^ n.toNat := Int.pow_pos (by omega)
  refine ⟨Int.ediv_nonneg h.1 (by omega), Int.le_trans (Int.ediv_le_self _ h.1) h.2⟩
section
variable {σ : Type} {m : C.Mem σ} {B nr nw : Nat} {cr cw : Array Value} {I : World → σ → Prop} {T : σ → Nat → Prop}
theorem PI.drewN (R : RS m B nr nw cr cw I T) {w : World} {p : Nat} {x : C.St σ} (h : PI B nr nw cr cw I T w p x) (k : Nat) : PI B nr nw cr cw I T (w.drewN k) p x := h.same R rfl
theorem PM.drewN {w w' : World} {p : Nat} {s s' : σ} (h : PM B T p s s' w w') (k : Nat) : PM B T p s s' w (w'.drewN k) := Mv.drewN h k
set_option maxRecDepth 100000 in
set_option maxHeartbeats 1600000 in
theorem act_12 (R : RS m B nr nw cr cw I T) (d s : Nat) (n v : Int) (hd : d < 8) (hs : s < 8) (hn : 0 ≤ n) (hn' : n ≤ 15) (b : Nat) (w : World) (p : Nat) (x : C.St σ) (hP : PI B nr nw cr cw I T w p x) (hb : w.cell? ⟨b, 0, none⟩ = some (fv 84 #[])) :
    Calls Tryz.prog 117 #[.pointer (some ⟨p, 0, none⟩), ordV 12 d s n v, .pointer (some ⟨b, 0, none⟩)] w (AP B nr nw cr cw I T w p x (C.act m x 12 d s n v)) := by
  have hlt := hP.lt
  have hne : p ≠ w.heap.size := by omega
  have hlt1 : p < w.heap.size + 1 := by omega
  have hd0 : (0 : Int) ≤ d := by omega
  have hd8 : (d : Int) < 8 := by omega
  have hs0 : (0 : Int) ≤ s := by omega
  have hs8 : (s : Int) < 8 := by omega
  have cd := hP.reg d hd
  have cs := hP.reg s hs
  have rd := C.Cpu.r_bd hP.ok d
  have rs := C.Cpu.r_bd hP.ok s
  have HP := hid hP
  have HR := hid R
  have HB := hid (hP.box R (.cells #[.int .i64 ((12 : Nat) : Int), .int .i64 d, .int .i64 s, .int .i64 n, .int .i64 v] 64))
  have HM := hid (PM.box R hP (.cells #[.int .i64 ((12 : Nat) : Int), .int .i64 d, .int .i64 s, .int .i64 n, .int .i64 v] 64))
  have hbl : b < w.heap.size := World.block_lt_of_cell? w _ hb
  have hbne : b ≠ w.heap.size := by omega
  have bd := M.shlN_bd (x.c.r d) n
  have hlow := low_16 (M.shlN (x.c.r d) n) bd
  have H1 := fun W : World => hid (shl_yes (x.c.r d) n W rd.1 rd.2 hn hn')
  have H2 := fun W : World => hid (signed_yes (M.shlN (x.c.r d) n) 16 W bd.1 bd.2 (by omega) (by omega))
  obtain ⟨_, c9, c10, c11, c12, _, _, _, _, _⟩ := hP.cells
  have hf := hP.frozen
  clear hP R
  generalize hy : M.shlN (x.c.r d) n = y at bd hlow H1 H2
  have HY := hid hy
  have HLOW := hid hlow
  clear hy hlow
  go_enter Tryz.func117, Tryz.ntmps117
  go_wp2
  go_region_held3 (fun w' => w'.cell? ⟨b, 0, none⟩ = some (fv 84 #[]) ∧ w'.cell? ⟨w.heap.size, 1, none⟩ = some (.int .i64 d) ∧ w'.cell? ⟨w.heap.size, 3, none⟩ = some (.int .i64 n) ∧ w'.cell? ⟨p, d, none⟩ = some (.int .u16 (x.c.r d)))
    ((go_keep; done))
    ((go_at_call 84; refine (H1 _).out.mono ?_; rintro e w2 ⟨rfl, q, rfl⟩))
  go_wp2_with (go_at_call 115; refine (H2 _).out.mono ?_; rintro e w' ⟨rfl, rfl⟩)
  go_region
  go_wp2
  go_end0
  rw [HLOW.out]
  have hy := HY.out
  subst hy
  exact ⟨rfl, (((((HB.out.drewN HR.out _).putR HR.out d hd _ bd.1 bd.2).putZ HR.out _).putN HR.out _).putC HR.out _).putV HR.out _, (((((HM.out.drewN _).set HP.out.big d _).set HP.out.big 9 _).set HP.out.big 10 _).set HP.out.big 11 _).set HP.out.big 12 _⟩
set_option maxRecDepth 100000 in
set_option maxHeartbeats 1600000 in
theorem act_13 (R : RS m B nr nw cr cw I T) (d s : Nat) (n v : Int) (hd : d < 8) (hs : s < 8) (hn : 0 ≤ n) (hn' : n ≤ 15) (b : Nat) (w : World) (p : Nat) (x : C.St σ) (hP : PI B nr nw cr cw I T w p x) (hb : w.cell? ⟨b, 0, none⟩ = some (fv 85 #[])) :
    Calls Tryz.prog 117 #[.pointer (some ⟨p, 0, none⟩), ordV 13 d s n v, .pointer (some ⟨b, 0, none⟩)] w (AP B nr nw cr cw I T w p x (C.act m x 13 d s n v)) := by
  have hlt := hP.lt
  have hne : p ≠ w.heap.size := by omega
  have hlt1 : p < w.heap.size + 1 := by omega
  have hd0 : (0 : Int) ≤ d := by omega
  have hd8 : (d : Int) < 8 := by omega
  have hs0 : (0 : Int) ≤ s := by omega
  have hs8 : (s : Int) < 8 := by omega
  have cd := hP.reg d hd
  have cs := hP.reg s hs
  have rd := C.Cpu.r_bd hP.ok d
  have rs := C.Cpu.r_bd hP.ok s
  have HP := hid hP
  have HR := hid R
  have HB := hid (hP.box R (.cells #[.int .i64 ((13 : Nat) : Int), .int .i64 d, .int .i64 s, .int .i64 n, .int .i64 v] 64))
  have HM := hid (PM.box R hP (.cells #[.int .i64 ((13 : Nat) : Int), .int .i64 d, .int .i64 s, .int .i64 n, .int .i64 v] 64))
  have hbl : b < w.heap.size := World.block_lt_of_cell? w _ hb
  have hbne : b ≠ w.heap.size := by omega
  have bd := shrN_bd (x.c.r d) n rd
  have hlow := low_16 (M.shrN (x.c.r d) n) bd
  have H1 := fun W : World => hid (shr_yes (x.c.r d) n W rd.1 rd.2 hn hn')
  have H2 := fun W : World => hid (signed_yes (M.shrN (x.c.r d) n) 16 W bd.1 bd.2 (by omega) (by omega))
  obtain ⟨_, c9, c10, c11, c12, _, _, _, _, _⟩ := hP.cells
  have hf := hP.frozen
  clear hP R
  generalize hy : M.shrN (x.c.r d) n = y at bd hlow H1 H2
  have HY := hid hy
  have HLOW := hid hlow
  clear hy hlow
  go_enter Tryz.func117, Tryz.ntmps117
  go_wp2
  go_region_held3 (fun w' => w'.cell? ⟨b, 0, none⟩ = some (fv 85 #[]) ∧ w'.cell? ⟨w.heap.size, 1, none⟩ = some (.int .i64 d) ∧ w'.cell? ⟨w.heap.size, 3, none⟩ = some (.int .i64 n) ∧ w'.cell? ⟨p, d, none⟩ = some (.int .u16 (x.c.r d)))
    ((go_keep; done))
    ((go_at_call 85; refine (H1 _).out.mono ?_; rintro e w2 ⟨rfl, q, rfl⟩))
  go_wp2_with (go_at_call 115; refine (H2 _).out.mono ?_; rintro e w' ⟨rfl, rfl⟩)
  go_region
  go_wp2
  go_end0
  rw [HLOW.out]
  have hy := HY.out
  subst hy
  exact ⟨rfl, (((((HB.out.drewN HR.out _).putR HR.out d hd _ bd.1 bd.2).putZ HR.out _).putN HR.out _).putC HR.out _).putV HR.out _, (((((HM.out.drewN _).set HP.out.big d _).set HP.out.big 9 _).set HP.out.big 10 _).set HP.out.big 11 _).set HP.out.big 12 _⟩
set_option maxRecDepth 100000 in
set_option maxHeartbeats 1600000 in
theorem jt_pred (c : C.Cpu) (w : World) : Calls Tryz.prog 90 #[cpuV c] w fun e w' => e = .returned (.bool (true)) ∧ Below w.heap.size w w' := by
  go_enter Tryz.func90, Tryz.ntmps90
  go_wp2
  go_ret
  exact ⟨rfl, stA (st0 _) _⟩
set_option maxRecDepth 100000 in
set_option maxHeartbeats 1600000 in
theorem jz_pred (c : C.Cpu) (w : World) : Calls Tryz.prog 91 #[cpuV c] w fun e w' => e = .returned (.bool (c.Z)) ∧ Below w.heap.size w w' := by
  go_enter Tryz.func91, Tryz.ntmps91
  go_wp2
  go_ret
  exact ⟨rfl, stA (st0 _) _⟩
set_option maxRecDepth 100000 in
set_option maxHeartbeats 1600000 in
theorem jn_pred (c : C.Cpu) (w : World) : Calls Tryz.prog 92 #[cpuV c] w fun e w' => e = .returned (.bool (c.N)) ∧ Below w.heap.size w w' := by
  go_enter Tryz.func92, Tryz.ntmps92
  go_wp2
  go_ret
  exact ⟨rfl, stA (st0 _) _⟩
set_option maxRecDepth 100000 in
set_option maxHeartbeats 1600000 in
theorem jc_pred (c : C.Cpu) (w : World) : Calls Tryz.prog 93 #[cpuV c] w fun e w' => e = .returned (.bool (c.C)) ∧ Below w.heap.size w w' := by
  go_enter Tryz.func93, Tryz.ntmps93
  go_wp2
  go_ret
  exact ⟨rfl, stA (st0 _) _⟩
set_option maxRecDepth 100000 in
set_option maxHeartbeats 1600000 in
theorem jnz_pred (c : C.Cpu) (w : World) : Calls Tryz.prog 104 #[cpuV c] w fun e w' => e = .returned (.bool (!c.Z)) ∧ Below w.heap.size w w' := by
  go_enter Tryz.func104, Tryz.ntmps104
  go_wp2
  go_ret
  exact ⟨rfl, stA (st0 _) _⟩
end
end Go.Proofs.YtombboeonffejaaGreatDoor
