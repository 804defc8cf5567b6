/-
  The reference's processor: its memory, words, signs, its look-ups, up to the kind of an order.
-/
import Derived.Test.YtombboeonffejaaGreatDoorCpuA
import Derived.Test.YtombboeonffejaaGreatDoorWordA
import Derived.Outline
import Derived.Deep.QuietTactic
import Derived.BigQuiet
import Derived.Test.YtombboeonffejaaGreatDoorFlMap
import Derived.Maps.OwnOps
import Derived.ChangeMaps5
import Derived.Test.YtombboeonffejaaGreatDoorRows
import Derived.Test.YtombboeonffejaaGreatDoorOrdA
import Derived.Test.YtombboeonffejaaGreatDoorShelfR
import Derived.WalkKit
import Derived.ProofKit
import Derived.OpenShut
import Derived.WalkSpells
import Derived.Lib.SmallJoins
import Derived.Deep.RegionHeld3
import Derived.Deep.AppendLies
import Derived.Test.YtombboeonffejaaGreatDoorOrdE3
import Derived.Laws.RangeString
import Derived.Test.YtombboeonffejaaGreatDoorCpuB
import Derived.Test.YtombboeonffejaaGreatDoorCpuQ
import Derived.Deep.DeepCutAuto
namespace Go.Proofs.YtombboeonffejaaGreatDoor
open Go.ChangeShapes Go.WideShapes Go.ChangeAt Go.RowKit
set_option linter.unusedVariables false

/-- What the reference's processor reads and writes by. -/
abbrev gv (bs : Nat) : Value := fv 34 #[.pointer (some ⟨bs, 0, none⟩)]
abbrev pv (bs : Nat) : Value := fv 35 #[.pointer (some ⟨bs, 0, none⟩)]
/-- A memory m of the reference, whose state s lies in the world as I says, in blocks T. -/
structure QS {σ : Type} (m : C.Mem σ) (B bs : Nat) (I : World → σ → Prop) (T : σ → Nat → Prop) : Prop where
  lt : ∀ {w s}, I w s → ∀ k, T s k → k < w.heap.size
  keep : ∀ {w w' s}, I w s → w.heap.size ≤ w'.heap.size → (∀ k, T s k → w'.heap[k]? = w.heap[k]?) → I w' s
  facts : ∀ {w s}, I w s → Facts w
  byte : ∀ s a, 0 ≤ (m.rd s a).1 ∧ (m.rd s a).1 ≤ 255
  big : ∀ {w s}, I w s → B ≤ w.heap.size
  get : ∀ w s (a : Int), 0 ≤ a → a ≤ 65535 → I w s → Calls Tryz.prog 34 #[.int .u16 a, .pointer (some ⟨bs, 0, none⟩)] w fun e w' => e = .returned (.int .u8 (m.rd s a).1) ∧ I w' (m.rd s a).2 ∧ Mv B (T s) (T (m.rd s a).2) w w'
  put : ∀ w s (a b : Int), 0 ≤ a → a ≤ 65535 → 0 ≤ b → b ≤ 255 → I w s → Calls Tryz.prog 35 #[.int .u16 a, .int .u8 b, .pointer (some ⟨bs, 0, none⟩)] w fun e w' => e = .returned (.tuple #[]) ∧ I w' (m.wr s a b) ∧ Mv B (T s) (T (m.wr s a b)) w w'

def qcells (c : C.Cpu) : Array Value := (cpuCells c).toArray
theorem qcells_at {c : C.Cpu} (hc : c.R.length = 8) :
    (∀ i : Nat, i < 8 → (qcells c)[i]? = some (.int .u16 (c.r i))) ∧ (qcells c)[8]? = some (.int .u16 c.PC) ∧ (qcells c)[9]? = some (.bool c.Z) ∧ (qcells c)[10]? = some (.bool c.N) ∧ (qcells c)[11]? = some (.bool c.C) ∧
      (qcells c)[12]? = some (.bool c.V) ∧ (qcells c)[13]? = some (.bool c.May) ∧ (qcells c)[14]? = some (.bool c.Waits) := by
  obtain ⟨a0, a1, a2, a3, a4, a5, a6, a7, h⟩ := reg8 hc
  unfold qcells cpuCells C.Cpu.r
  rw [h]
  refine ⟨fun i hi => ?_, rfl, rfl, rfl, rfl, rfl, rfl, rfl⟩
  have : i = 0 ∨ i = 1 ∨ i = 2 ∨ i = 3 ∨ i = 4 ∨ i = 5 ∨ i = 6 ∨ i = 7 := by omega
  rcases this with rfl | rfl | rfl | rfl | rfl | rfl | rfl | rfl <;> rfl
theorem qcells_reg {c : C.Cpu} (hc : c.R.length = 8) (i : Nat) (hi : i < 8) (x : Int) : (qcells c).setIfInBounds i (.int .u16 x) = qcells (c.set i x) := by
  obtain ⟨a0, a1, a2, a3, a4, a5, a6, a7, h⟩ := reg8 hc
  unfold qcells cpuCells C.Cpu.set
  rw [h]
  have : i = 0 ∨ i = 1 ∨ i = 2 ∨ i = 3 ∨ i = 4 ∨ i = 5 ∨ i = 6 ∨ i = 7 := by omega
  rcases this with rfl | rfl | rfl | rfl | rfl | rfl | rfl | rfl <;> rfl
theorem qcells_set {c : C.Cpu} (hc : c.R.length = 8) :
    (∀ x, (qcells c).setIfInBounds 8 (.int .u16 x) = qcells { c with PC := x }) ∧ (∀ x, (qcells c).setIfInBounds 9 (.bool x) = qcells { c with Z := x }) ∧ (∀ x, (qcells c).setIfInBounds 10 (.bool x) = qcells { c with N := x }) ∧
    (∀ x, (qcells c).setIfInBounds 11 (.bool x) = qcells { c with C := x }) ∧ (∀ x, (qcells c).setIfInBounds 12 (.bool x) = qcells { c with V := x }) ∧ (∀ x, (qcells c).setIfInBounds 13 (.bool x) = qcells { c with May := x }) ∧
    (∀ x, (qcells c).setIfInBounds 14 (.bool x) = qcells { c with Waits := x }) := by
  obtain ⟨a0, a1, a2, a3, a4, a5, a6, a7, h⟩ := reg8 hc
  unfold qcells cpuCells
  rw [h]
  exact ⟨fun _ => rfl, fun _ => rfl, fun _ => rfl, fun _ => rfl, fun _ => rfl, fun _ => rfl, fun _ => rfl⟩
theorem qcells_of {c : C.Cpu} (hc : c.R.length = 8) : qcells c = #[.int .u16 (c.r 0), .int .u16 (c.r 1), .int .u16 (c.r 2), .int .u16 (c.r 3), .int .u16 (c.r 4), .int .u16 (c.r 5), .int .u16 (c.r 6), .int .u16 (c.r 7), .int .u16 c.PC, .bool c.Z, .bool c.N, .bool c.C, .bool c.V, .bool c.May, .bool c.Waits] := by
  obtain ⟨a0, a1, a2, a3, a4, a5, a6, a7, h⟩ := reg8 hc
  unfold qcells cpuCells C.Cpu.r
  rw [h]
  rfl
section
variable {σ : Type} {m : C.Mem σ} {B bs : Nat} {I : World → σ → Prop} {T : σ → Nat → Prop}
/-- The reference's processor in the midst of a step, at block p; what it comes to at block q. -/
structure QC (B bs : Nat) (I : World → σ → Prop) (T : σ → Nat → Prop) (w : World) (p q : Nat) (x : C.St σ) : Prop where
  inv : I w x.s
  own : ¬ T x.s p
  ownq : ¬ T x.s q
  ne : p ≠ q
  big : B ≤ p
  bigq : B ≤ q
  blk : w.heap[p]? = some (.cells (qcells x.c) 25 (0, 0))
  blkq : w.heap[q]? = some (.cells #[gv bs, pv bs] 42 (0, 0))
  ok : x.c.ok
variable {w : World} {p q : Nat} {x : C.St σ}
theorem QC.lt (h : QC B bs I T w p q x) : p < w.heap.size := (Array.getElem?_eq_some_iff.1 h.blk).1
theorem QC.ltq (h : QC B bs I T w p q x) : q < w.heap.size := (Array.getElem?_eq_some_iff.1 h.blkq).1
theorem QC.frozen (h : QC B bs I T w p q x) (i : Nat) : w.frozen? ⟨p, i, none⟩ = false := Lib.frozen_of_heap h.blk i
theorem QC.reg (h : QC B bs I T w p q x) (i : Nat) (hi : i < 8) : w.cell? ⟨p, i, none⟩ = some (.int .u16 (x.c.r i)) := by
  rw [Lib.cell_of_heap h.blk i]; exact (qcells_at h.ok.1).1 i hi
theorem QC.cells (h : QC B bs I T w p q x) :
    w.cell? ⟨p, 8, none⟩ = some (.int .u16 x.c.PC) ∧ w.cell? ⟨p, 9, none⟩ = some (.bool x.c.Z) ∧ w.cell? ⟨p, 10, none⟩ = some (.bool x.c.N) ∧ w.cell? ⟨p, 11, none⟩ = some (.bool x.c.C) ∧ w.cell? ⟨p, 12, none⟩ = some (.bool x.c.V) ∧
      w.cell? ⟨p, 13, none⟩ = some (.bool x.c.May) ∧ w.cell? ⟨p, 14, none⟩ = some (.bool x.c.Waits) := by
  have e := fun i => Lib.cell_of_heap h.blk i
  obtain ⟨_, h8, h9, h10, h11, h12, h13, h14⟩ := qcells_at h.ok.1
  exact ⟨(e 8).trans h8, (e 9).trans h9, (e 10).trans h10, (e 11).trans h11, (e 12).trans h12, (e 13).trans h13, (e 14).trans h14⟩
theorem QC.regs (h : QC B bs I T w p q x) :
    w.cell? ⟨p, 0, none⟩ = some (.int .u16 (x.c.r 0)) ∧ w.cell? ⟨p, 1, none⟩ = some (.int .u16 (x.c.r 1)) ∧ w.cell? ⟨p, 2, none⟩ = some (.int .u16 (x.c.r 2)) ∧ w.cell? ⟨p, 3, none⟩ = some (.int .u16 (x.c.r 3)) ∧
      w.cell? ⟨p, 4, none⟩ = some (.int .u16 (x.c.r 4)) ∧ w.cell? ⟨p, 5, none⟩ = some (.int .u16 (x.c.r 5)) ∧ w.cell? ⟨p, 6, none⟩ = some (.int .u16 (x.c.r 6)) ∧ w.cell? ⟨p, 7, none⟩ = some (.int .u16 (x.c.r 7)) :=
  ⟨h.reg 0 (by omega), h.reg 1 (by omega), h.reg 2 (by omega), h.reg 3 (by omega), h.reg 4 (by omega), h.reg 5 (by omega), h.reg 6 (by omega), h.reg 7 (by omega)⟩
theorem QC.mem (h : QC B bs I T w p q x) : w.cell? ⟨q, 0, none⟩ = some (gv bs) ∧ w.cell? ⟨q, 1, none⟩ = some (pv bs) := ⟨Lib.cell_of_heap h.blkq 0, Lib.cell_of_heap h.blkq 1⟩
/-- A store into the processor. -/
theorem QC.put (R : QS m B bs I T) (h : QC B bs I T w p q x) (i : Nat) (v : Value) (c' : C.Cpu) (hok : c'.ok) (hc : (qcells x.c).setIfInBounds i v = qcells c') :
    QC B bs I T (w.setCell ⟨p, i, none⟩ v) p q ⟨c', x.s, x.n⟩ :=
  ⟨R.keep h.inv (by rw [setCell_size]; exact Nat.le_refl _) (fun k hk => Below.heap_setCell _ _ _ _ (fun e => h.own (by have e' : k = p := e; rw [← e']; exact hk))), h.own, h.ownq, h.ne, h.big, h.bigq, by rw [setCell_blk h.blk, hc], (Below.heap_setCell _ _ _ _ (fun e => h.ne e.symm)).trans h.blkq, hok⟩
theorem QC.putR (R : QS m B bs I T) (h : QC B bs I T w p q x) (i : Nat) (hi : i < 8) (v : Int) (h0 : 0 ≤ v) (h1 : v ≤ 65535) : QC B bs I T (w.setCell ⟨p, i, none⟩ (.int .u16 v)) p q ⟨x.c.set i v, x.s, x.n⟩ :=
  h.put R i _ _ (C.Cpu.ok_set h.ok _ _ h0 h1) (qcells_reg h.ok.1 i hi v)
theorem QC.putPC (R : QS m B bs I T) (h : QC B bs I T w p q x) (v : Int) (h0 : 0 ≤ v) (h1 : v ≤ 65535) : QC B bs I T (w.setCell ⟨p, 8, none⟩ (.int .u16 v)) p q ⟨{ x.c with PC := v }, x.s, x.n⟩ :=
  h.put R 8 _ _ (C.Cpu.ok_pc h.ok v h0 h1) ((qcells_set h.ok.1).1 v)
theorem QC.putZ (R : QS m B bs I T) (h : QC B bs I T w p q x) (v : Bool) : QC B bs I T (w.setCell ⟨p, 9, none⟩ (.bool v)) p q ⟨{ x.c with Z := v }, x.s, x.n⟩ := h.put R 9 _ _ h.ok ((qcells_set h.ok.1).2.1 v)
theorem QC.putN (R : QS m B bs I T) (h : QC B bs I T w p q x) (v : Bool) : QC B bs I T (w.setCell ⟨p, 10, none⟩ (.bool v)) p q ⟨{ x.c with N := v }, x.s, x.n⟩ := h.put R 10 _ _ h.ok ((qcells_set h.ok.1).2.2.1 v)
theorem QC.putC (R : QS m B bs I T) (h : QC B bs I T w p q x) (v : Bool) : QC B bs I T (w.setCell ⟨p, 11, none⟩ (.bool v)) p q ⟨{ x.c with C := v }, x.s, x.n⟩ := h.put R 11 _ _ h.ok ((qcells_set h.ok.1).2.2.2.1 v)
theorem QC.putV (R : QS m B bs I T) (h : QC B bs I T w p q x) (v : Bool) : QC B bs I T (w.setCell ⟨p, 12, none⟩ (.bool v)) p q ⟨{ x.c with V := v }, x.s, x.n⟩ := h.put R 12 _ _ h.ok ((qcells_set h.ok.1).2.2.2.2.1 v)
theorem QC.putMay (R : QS m B bs I T) (h : QC B bs I T w p q x) (v : Bool) : QC B bs I T (w.setCell ⟨p, 13, none⟩ (.bool v)) p q ⟨{ x.c with May := v }, x.s, x.n⟩ := h.put R 13 _ _ h.ok ((qcells_set h.ok.1).2.2.2.2.2.1 v)
theorem QC.putWaits (R : QS m B bs I T) (h : QC B bs I T w p q x) (v : Bool) : QC B bs I T (w.setCell ⟨p, 14, none⟩ (.bool v)) p q ⟨{ x.c with Waits := v }, x.s, x.n⟩ := h.put R 14 _ _ h.ok ((qcells_set h.ok.1).2.2.2.2.2.2 v)
/-- Nothing of the processor, nor of what it comes to, has turned. -/
theorem QC.kept (R : QS m B bs I T) (h : QC B bs I T w p q x) {w' : World} (hb : Below w.heap.size w w') : QC B bs I T w' p q x :=
  ⟨R.keep h.inv hb.size (fun k hk => hb.block k (R.lt h.inv k hk)), h.own, h.ownq, h.ne, h.big, h.bigq, (hb.block p h.lt).trans h.blk, (hb.block q h.ltq).trans h.blkq, h.ok⟩
/-- What the processor comes to has turned, the processor itself has not. -/
theorem QC.moved (h : QC B bs I T w p q x) {w' : World} {s' : σ} (hI : I w' s') (hm : Mv B (T x.s) (T s') w w') : QC B bs I T w' p q ⟨x.c, s', x.n⟩ :=
  ⟨hI, fun ht => by rcases hm.fresh p ht with y | y; exact h.own y; have := h.lt; omega, fun ht => by rcases hm.fresh q ht with y | y; exact h.ownq y; have := h.ltq; omega, h.ne, h.big, h.bigq, (hm.block p h.lt h.own).trans h.blk, (hm.block q h.ltq h.ownq).trans h.blkq, h.ok⟩
/-- The same heap. -/
theorem QC.same (R : QS m B bs I T) (h : QC B bs I T w p q x) {w' : World} (e : w'.heap = w.heap) : QC B bs I T w' p q x :=
  ⟨R.keep h.inv (by rw [e]; exact Nat.le_refl _) (fun k _ => by rw [e]), h.own, h.ownq, h.ne, h.big, h.bigq, by rw [e]; exact h.blk, by rw [e]; exact h.blkq, h.ok⟩
theorem QC.hB (R : QS m B bs I T) (h : QC B bs I T w p q x) : B ≤ w.heap.size := R.big h.inv
/-- A number of cycles is nobody's business here. -/
theorem QC.cyc (h : QC B bs I T w p q x) (n : Int) : QC B bs I T w p q ⟨x.c, x.s, n⟩ := ⟨h.inv, h.own, h.ownq, h.ne, h.big, h.bigq, h.blk, h.blkq, h.ok⟩
end
theorem sgn_any (a : Int) (w : World) (ha : 0 ≤ a) (ha' : a ≤ 65535) :
    Calls Tryz.prog 64 #[.int .u16 a] w fun e w' => e = .returned (.int .i64 (M.sg a)) ∧ w' = w := by
  by_cases h : 32768 ≤ a
  all_goals
    go_enter Tryz.func64, Tryz.ntmps64
    go_wp2
    go_ret
    exact ⟨ret_i (by unfold M.sg; first | rw [if_pos h] | rw [if_neg (by omega)]), rfl⟩
theorem sum_any (a b : Int) (w : World) (ha : 0 ≤ a) (ha' : a ≤ 65535) (hb : 0 ≤ b) (hb' : b ≤ 65535) :
    Calls Tryz.prog 49 #[.int .u16 a, .int .u16 b] w fun e w' => e = .returned (.tuple #[.int .u16 (M.addN a b), .bool (M.addC a b), .bool (M.addV a b)]) ∧ w' = w := by
  obtain ⟨s1, s1'⟩ := M.sg_bd a ha ha'
  obtain ⟨s2, s2'⟩ := M.sg_bd b hb hb'
  by_cases hv : 32767 < M.sg a + M.sg b
  all_goals
    go_enter Tryz.func49, Tryz.ntmps49
    go_wp2_with (go_at_call 64; refine (sgn_any _ _ (by omega) (by omega)).mono ?_; rintro e w' ⟨rfl, rfl⟩)
    go_ret3
    exact ⟨ret_ibb rfl rfl (by simp [M.addV]; try omega), rfl⟩
theorem less_any (a b : Int) (w : World) (ha : 0 ≤ a) (ha' : a ≤ 65535) (hb : 0 ≤ b) (hb' : b ≤ 65535) :
    Calls Tryz.prog 50 #[.int .u16 a, .int .u16 b] w fun e w' => e = .returned (.tuple #[.int .u16 (M.subN a b), .bool (M.subC a b), .bool (M.subV a b)]) ∧ w' = w := by
  obtain ⟨s1, s1'⟩ := M.sg_bd a ha ha'
  obtain ⟨s2, s2'⟩ := M.sg_bd b hb hb'
  by_cases hv : 32767 < M.sg a - M.sg b
  all_goals
    go_enter Tryz.func50, Tryz.ntmps50
    go_wp2_with (go_at_call 64; refine (sgn_any _ _ (by omega) (by omega)).mono ?_; rintro e w' ⟨rfl, rfl⟩)
    go_ret3
    exact ⟨ret_ibb (by unfold M.subN; omega) (by unfold M.subC; simp; try omega) (by simp [M.subV]; try omega), rfl⟩
theorem up_any (a n : Int) (w : World) (ha : 0 ≤ a) (ha' : a ≤ 65535) (hn : 0 ≤ n) (hn' : n ≤ 15) :
    Calls Tryz.prog 33 #[.int .u16 a, .int .i64 n] w fun e w' => e = .returned (.tuple #[.int .u16 (M.shlN a n), .bool (M.shlC a n)]) ∧ w' = w := by
  obtain ⟨N, rfl⟩ := Int.eq_ofNat_of_zero_le hn
  obtain ⟨hu, hv⟩ := M.up_shl a N ha ha' hn hn'
  rw [← hu, ← hv, Int.toNat_natCast]
  clear hu hv
  go_enter Tryz.func33, Tryz.ntmps33
  go_wp2
  go_loop [0, 6, 8] (fun x o i => ∃ k : Nat, k ≤ N ∧ i = .int .i64 k ∧ x = .int .u16 (M.upTo a k) ∧ o = .bool (M.upOut a k)) (fun _ _ i => N - (intOf i).toNat)
  case atStart => exact ⟨0, Nat.zero_le _, rfl, rfl, rfl⟩
  case round =>
    obtain ⟨k, hk, rfl, rfl, rfl⟩ := hrel
    obtain ⟨h1, h2⟩ := M.upTo_bd a ha ha' k
    by_cases hlt : k < N
    · go_wp2
      go_round
      case rel => exact ⟨k + 1, by omega, by go_num, rfl, rfl⟩
      case measure => simp [intOf]; omega
    · go_wp2
      go_ret2
      have : k = N := by omega
      subst this
      exact ⟨rfl, rfl⟩
theorem down_any (a n : Int) (w : World) (ha : 0 ≤ a) (ha' : a ≤ 65535) (hn : 0 ≤ n) (hn' : n ≤ 15) :
    Calls Tryz.prog 32 #[.int .u16 a, .int .i64 n] w fun e w' => e = .returned (.tuple #[.int .u16 (M.shrN a n), .bool (M.shrC a n)]) ∧ w' = w := by
  obtain ⟨N, rfl⟩ := Int.eq_ofNat_of_zero_le hn
  obtain ⟨hu, hv⟩ := M.down_shr a N hn hn'
  rw [← hu, ← hv, Int.toNat_natCast]
  clear hu hv
  go_enter Tryz.func32, Tryz.ntmps32
  go_wp2
  go_loop [0, 6, 8] (fun x o i => ∃ k : Nat, k ≤ N ∧ i = .int .i64 k ∧ x = .int .u16 (M.downTo a k) ∧ o = .bool (M.downOut a k)) (fun _ _ i => N - (intOf i).toNat)
  case atStart => exact ⟨0, Nat.zero_le _, rfl, rfl, rfl⟩
  case round =>
    obtain ⟨k, hk, rfl, rfl, rfl⟩ := hrel
    obtain ⟨h1, h2⟩ := M.downTo_bd a ha ha' k
    by_cases hlt : k < N
    · go_wp2
      go_round
      case rel => exact ⟨k + 1, by omega, by go_num, congrArg _ (by rw [IntKind.wrap_u16, Int.tdiv_eq_ediv_of_nonneg h1]; simp only [M.downTo]; omega), rfl⟩
      case measure => simp [intOf]; omega
    · go_wp2
      go_ret2
      have : k = N := by omega
      subst this
      exact ⟨rfl, rfl⟩
theorem f_and (x y : Int) (w : World) : Calls Tryz.prog 51 #[.int .u16 x, .int .u16 y] w fun e w' => e = .returned (.bool (M.fAnd x y)) ∧ w' = w := by
  go_enter Tryz.func51, Tryz.ntmps51
  go_wp2
  go_ret
  exact ⟨rfl, rfl⟩
theorem f_or (x y : Int) (w : World) : Calls Tryz.prog 52 #[.int .u16 x, .int .u16 y] w fun e w' => e = .returned (.bool (M.fOr x y)) ∧ w' = w := by
  go_enter Tryz.func52, Tryz.ntmps52
  go_wp2
  go_ret
  exact ⟨rfl, rfl⟩
theorem f_xor (x y : Int) (w : World) : Calls Tryz.prog 53 #[.int .u16 x, .int .u16 y] w fun e w' => e = .returned (.bool (M.fXor x y)) ∧ w' = w := by
  go_enter Tryz.func53, Tryz.ntmps53
  go_wp2
  go_ret
  exact ⟨rfl, rfl⟩
theorem quiet_at {P : Program} {f : FuncId} {args : Array Value} {w : World} {q n : Nat} {v : Value}
    (h : Calls P f args (w.drewN (q + n)) fun e w' => e = .returned v ∧ w' = w.drewN (q + n)) : Calls P f args (w.drewN (q + n)) fun e w'' => e = .returned v ∧ ∃ m, w'' = w.drewN (q + m) :=
  h.mono fun _ _ ⟨he, hm⟩ => ⟨he, n, hm⟩
theorem gather_and (a b : Int) (w : World) (x y : Nat) (ha : 0 ≤ a) (ha' : a ≤ 65535) (hb : 0 ≤ b) (hb' : b ≤ 65535)
    (hx : w.cell? ⟨x, 0, none⟩ = some (.int .u16 a)) (hy : w.cell? ⟨y, 0, none⟩ = some (.int .u16 b)) :
    Calls Tryz.prog 48 #[.func (.func 51) #[] #[], .pointer (some ⟨x, 0, none⟩), .pointer (some ⟨y, 0, none⟩)] w
      fun e w' => e = .returned (.int .u16 (bits .and .u16 a b)) ∧ ∃ k, w' = w.drewN k := by
  rw [← M.gather_and a b ha ha' hb hb']
  go_enter Tryz.func48, Tryz.ntmps48
  go_wp2
  go_loopw [5, 7] (fun n i wr => ∃ k q : Nat, k ≤ 16 ∧ i = .int .i64 k ∧ n = .int .u16 (M.gather M.fAnd a b k) ∧ wr = w.drewN q) (fun _ i _ => 16 - (intOf i).toNat)
  case atStart => exact ⟨0, 0, Nat.zero_le _, rfl, rfl, rfl⟩
  case round =>
    obtain ⟨k, q, hk, rfl, rfl, rfl⟩ := hrel
    obtain ⟨g1, g2⟩ := M.gather_bd M.fAnd a b k
    by_cases hlt : k < 16
    · have hp := M.pow_le (k + 1) (by omega)
      have hq : (2 : Int) ^ (k + 1) = 2 ^ k * 2 := Int.pow_succ _ _
      have hp1 : (2 : Int) ^ k ≤ 32768 := by omega
      clear hp hq
      have hstep : M.gather M.fAnd a b (k + 1) = if M.fAnd (bits .and .u16 (a / 2 ^ k) 1) (bits .and .u16 (b / 2 ^ k) 1) then M.gather M.fAnd a b k + 2 ^ k else M.gather M.fAnd a b k := rfl
      have HS := hid hstep
      clear hstep
      by_cases hc : M.fAnd (bits .and .u16 (a / 2 ^ k) 1) (bits .and .u16 (b / 2 ^ k) 1) = true
      · go_wp2
        go_quiet ((go_at_call 51; exact quiet_at (f_and _ _ _)))
        go_wp2
        all_goals first | (exact Bool.noConfusion (hc.symm.trans (by assumption) : true = false)) | skip
        go_roundw
        case rel => exact ⟨k + 1, _, by omega, by go_num, by rw [HS.out, if_pos hc], rfl⟩
        case measure => simp [intOf]; omega
      · have hc' : M.fAnd (bits .and .u16 (a / 2 ^ k) 1) (bits .and .u16 (b / 2 ^ k) 1) = false := by simpa using hc
        go_wp2
        go_quiet ((go_at_call 51; exact quiet_at (f_and _ _ _)))
        go_wp2
        all_goals first | (exact Bool.noConfusion (hc'.symm.trans (by assumption) : false = true)) | skip
        go_roundw
        case rel => exact ⟨k + 1, _, by omega, by go_num, by rw [HS.out, if_neg hc], rfl⟩
        case measure => simp [intOf]; omega
    · go_wp2
      go_ret
      have : k = 16 := by omega
      subst this
      exact ⟨rfl, _, rfl⟩
theorem gather_or (a b : Int) (w : World) (x y : Nat) (ha : 0 ≤ a) (ha' : a ≤ 65535) (hb : 0 ≤ b) (hb' : b ≤ 65535)
    (hx : w.cell? ⟨x, 0, none⟩ = some (.int .u16 a)) (hy : w.cell? ⟨y, 0, none⟩ = some (.int .u16 b)) :
    Calls Tryz.prog 48 #[.func (.func 52) #[] #[], .pointer (some ⟨x, 0, none⟩), .pointer (some ⟨y, 0, none⟩)] w
      fun e w' => e = .returned (.int .u16 (bits .or .u16 a b)) ∧ ∃ k, w' = w.drewN k := by
  rw [← M.gather_or a b ha ha' hb hb']
  go_enter Tryz.func48, Tryz.ntmps48
  go_wp2
  go_loopw [5, 7] (fun n i wr => ∃ k q : Nat, k ≤ 16 ∧ i = .int .i64 k ∧ n = .int .u16 (M.gather M.fOr a b k) ∧ wr = w.drewN q) (fun _ i _ => 16 - (intOf i).toNat)
  case atStart => exact ⟨0, 0, Nat.zero_le _, rfl, rfl, rfl⟩
  case round =>
    obtain ⟨k, q, hk, rfl, rfl, rfl⟩ := hrel
    obtain ⟨g1, g2⟩ := M.gather_bd M.fOr a b k
    by_cases hlt : k < 16
    · have hp := M.pow_le (k + 1) (by omega)
      have hq : (2 : Int) ^ (k + 1) = 2 ^ k * 2 := Int.pow_succ _ _
      have hp1 : (2 : Int) ^ k ≤ 32768 := by omega
      clear hp hq
      have hstep : M.gather M.fOr a b (k + 1) = if M.fOr (bits .and .u16 (a / 2 ^ k) 1) (bits .and .u16 (b / 2 ^ k) 1) then M.gather M.fOr a b k + 2 ^ k else M.gather M.fOr a b k := rfl
      have HS := hid hstep
      clear hstep
      by_cases hc : M.fOr (bits .and .u16 (a / 2 ^ k) 1) (bits .and .u16 (b / 2 ^ k) 1) = true
      · go_wp2
        go_quiet ((go_at_call 52; exact quiet_at (f_or _ _ _)))
        go_wp2
        all_goals first | (exact Bool.noConfusion (hc.symm.trans (by assumption) : true = false)) | skip
        go_roundw
        case rel => exact ⟨k + 1, _, by omega, by go_num, by rw [HS.out, if_pos hc], rfl⟩
        case measure => simp [intOf]; omega
      · have hc' : M.fOr (bits .and .u16 (a / 2 ^ k) 1) (bits .and .u16 (b / 2 ^ k) 1) = false := by simpa using hc
        go_wp2
        go_quiet ((go_at_call 52; exact quiet_at (f_or _ _ _)))
        go_wp2
        all_goals first | (exact Bool.noConfusion (hc'.symm.trans (by assumption) : false = true)) | skip
        go_roundw
        case rel => exact ⟨k + 1, _, by omega, by go_num, by rw [HS.out, if_neg hc], rfl⟩
        case measure => simp [intOf]; omega
    · go_wp2
      go_ret
      have : k = 16 := by omega
      subst this
      exact ⟨rfl, _, rfl⟩
theorem gather_xor (a b : Int) (w : World) (x y : Nat) (ha : 0 ≤ a) (ha' : a ≤ 65535) (hb : 0 ≤ b) (hb' : b ≤ 65535)
    (hx : w.cell? ⟨x, 0, none⟩ = some (.int .u16 a)) (hy : w.cell? ⟨y, 0, none⟩ = some (.int .u16 b)) :
    Calls Tryz.prog 48 #[.func (.func 53) #[] #[], .pointer (some ⟨x, 0, none⟩), .pointer (some ⟨y, 0, none⟩)] w
      fun e w' => e = .returned (.int .u16 (bits .xor .u16 a b)) ∧ ∃ k, w' = w.drewN k := by
  rw [← M.gather_xor a b ha ha' hb hb']
  go_enter Tryz.func48, Tryz.ntmps48
  go_wp2
  go_loopw [5, 7] (fun n i wr => ∃ k q : Nat, k ≤ 16 ∧ i = .int .i64 k ∧ n = .int .u16 (M.gather M.fXor a b k) ∧ wr = w.drewN q) (fun _ i _ => 16 - (intOf i).toNat)
  case atStart => exact ⟨0, 0, Nat.zero_le _, rfl, rfl, rfl⟩
  case round =>
    obtain ⟨k, q, hk, rfl, rfl, rfl⟩ := hrel
    obtain ⟨g1, g2⟩ := M.gather_bd M.fXor a b k
    by_cases hlt : k < 16
    · have hp := M.pow_le (k + 1) (by omega)
      have hq : (2 : Int) ^ (k + 1) = 2 ^ k * 2 := Int.pow_succ _ _
      have hp1 : (2 : Int) ^ k ≤ 32768 := by omega
      clear hp hq
      have hstep : M.gather M.fXor a b (k + 1) = if M.fXor (bits .and .u16 (a / 2 ^ k) 1) (bits .and .u16 (b / 2 ^ k) 1) then M.gather M.fXor a b k + 2 ^ k else M.gather M.fXor a b k := rfl
      have HS := hid hstep
      clear hstep
      by_cases hc : M.fXor (bits .and .u16 (a / 2 ^ k) 1) (bits .and .u16 (b / 2 ^ k) 1) = true
      · go_wp2
        go_quiet ((go_at_call 53; exact quiet_at (f_xor _ _ _)))
        go_wp2
        all_goals first | (exact Bool.noConfusion (hc.symm.trans (by assumption) : true = false)) | skip
        go_roundw
        case rel => exact ⟨k + 1, _, by omega, by go_num, by rw [HS.out, if_pos hc], rfl⟩
        case measure => simp [intOf]; omega
      · have hc' : M.fXor (bits .and .u16 (a / 2 ^ k) 1) (bits .and .u16 (b / 2 ^ k) 1) = false := by simpa using hc
        go_wp2
        go_quiet ((go_at_call 53; exact quiet_at (f_xor _ _ _)))
        go_wp2
        all_goals first | (exact Bool.noConfusion (hc'.symm.trans (by assumption) : false = true)) | skip
        go_roundw
        case rel => exact ⟨k + 1, _, by omega, by go_num, by rw [HS.out, if_neg hc], rfl⟩
        case measure => simp [intOf]; omega
    · go_wp2
      go_ret
      have : k = 16 := by omega
      subst this
      exact ⟨rfl, _, rfl⟩
theorem ret_ibbb {k : IntKind} {a a' : Int} {b b' c c' d d' : Bool} (h : a = a') (h1 : b = b') (h2 : c = c') (h3 : d = d') : Ending.returned (.tuple #[.int k a, .bool b, .bool c, .bool d]) = .returned (.tuple #[.int k a', .bool b', .bool c', .bool d']) := by rw [h, h1, h2, h3]

theorem res_mul (a b : Int) (w : World) (ha : 0 ≤ a) (ha' : a ≤ 65535) (hb : 0 ≤ b) (hb' : b ≤ 65535) :
    Calls Tryz.prog 31 #[.int .i64 28, .int .u16 a, .int .u16 b] w fun e w' => e = .returned (.tuple #[.int .u16 (M.mulN a b), .bool (M.mulC a b), .bool false, .bool true]) ∧ Below w.heap.size w w' := by
  have hm := M.mul_bd a b ha ha' hb hb'
  go_enter Tryz.func31, Tryz.ntmps31
  go_wp2
  refine bodyPost_ret (v := .tuple #[.int .u16 (a * b % 65536), .bool (decide (65536 ≤ a * b)), .bool false, .bool true]) (by simp [results, Tryz.results31, go_sem]) rfl ⟨ret_ibbb rfl ?_ rfl rfl, stA (stA (st0 _) _) _⟩
  unfold M.mulC; rw [decide_eq_decide]; omega
theorem res_add (op a b : Int) (w : World) (ha : 0 ≤ a) (ha' : a ≤ 65535) (hb : 0 ≤ b) (hb' : b ≤ 65535) (ho : op = 7 ∨ op = 15) :
    Calls Tryz.prog 31 #[.int .i64 op, .int .u16 a, .int .u16 b] w fun e w' => e = .returned (.tuple #[.int .u16 (M.addN a b), .bool (M.addC a b), .bool (M.addV a b), .bool true]) ∧ Below w.heap.size w w' := by
  rcases ho with rfl | rfl
  all_goals
    go_enter Tryz.func31, Tryz.ntmps31
    go_wp2_with (go_at_call 49; refine (sum_any _ _ _ (by omega) (by omega) (by omega) (by omega)).mono ?_; rintro e w' ⟨rfl, rfl⟩)
    exact bodyPost_ret (v := .tuple #[.int .u16 (M.addN a b), .bool (M.addC a b), .bool (M.addV a b), .bool true]) (by simp [results, Tryz.results31, go_sem]) rfl ⟨rfl, stA (stA (st0 _) _) _⟩
theorem res_sub (op a b : Int) (w : World) (ha : 0 ≤ a) (ha' : a ≤ 65535) (hb : 0 ≤ b) (hb' : b ≤ 65535) (ho : op = 8 ∨ op = 14) :
    Calls Tryz.prog 31 #[.int .i64 op, .int .u16 a, .int .u16 b] w fun e w' => e = .returned (.tuple #[.int .u16 (M.subN a b), .bool (M.subC a b), .bool (M.subV a b), .bool true]) ∧ Below w.heap.size w w' := by
  rcases ho with rfl | rfl
  all_goals
    go_enter Tryz.func31, Tryz.ntmps31
    go_wp2_with (go_at_call 50; refine (less_any _ _ _ (by omega) (by omega) (by omega) (by omega)).mono ?_; rintro e w' ⟨rfl, rfl⟩)
    exact bodyPost_ret (v := .tuple #[.int .u16 (M.subN a b), .bool (M.subC a b), .bool (M.subV a b), .bool true]) (by simp [results, Tryz.results31, go_sem]) rfl ⟨rfl, stA (stA (st0 _) _) _⟩
theorem res_and (a b : Int) (w : World) (ha : 0 ≤ a) (ha' : a ≤ 65535) (hb : 0 ≤ b) (hb' : b ≤ 65535) :
    Calls Tryz.prog 31 #[.int .i64 9, .int .u16 a, .int .u16 b] w fun e w' => e = .returned (.tuple #[.int .u16 (bits .and .u16 a b), .bool false, .bool false, .bool true]) ∧ Below w.heap.size w w' := by
  go_enter Tryz.func31, Tryz.ntmps31
  go_wp2_with (go_at_call 48; refine (gather_and _ _ _ _ _ ha ha' hb hb' (by simp) (by simp)).mono ?_; rintro e w' ⟨rfl, k, rfl⟩)
  exact bodyPost_ret (v := .tuple #[.int .u16 (bits .and .u16 a b), .bool false, .bool false, .bool true]) (by simp [results, Tryz.results31, go_sem]) rfl ⟨rfl, below_draws (stA (stA (st0 _) _) _) _⟩
theorem res_or (a b : Int) (w : World) (ha : 0 ≤ a) (ha' : a ≤ 65535) (hb : 0 ≤ b) (hb' : b ≤ 65535) :
    Calls Tryz.prog 31 #[.int .i64 10, .int .u16 a, .int .u16 b] w fun e w' => e = .returned (.tuple #[.int .u16 (bits .or .u16 a b), .bool false, .bool false, .bool true]) ∧ Below w.heap.size w w' := by
  go_enter Tryz.func31, Tryz.ntmps31
  go_wp2_with (go_at_call 48; refine (gather_or _ _ _ _ _ ha ha' hb hb' (by simp) (by simp)).mono ?_; rintro e w' ⟨rfl, k, rfl⟩)
  exact bodyPost_ret (v := .tuple #[.int .u16 (bits .or .u16 a b), .bool false, .bool false, .bool true]) (by simp [results, Tryz.results31, go_sem]) rfl ⟨rfl, below_draws (stA (stA (st0 _) _) _) _⟩
theorem res_xor (a b : Int) (w : World) (ha : 0 ≤ a) (ha' : a ≤ 65535) (hb : 0 ≤ b) (hb' : b ≤ 65535) :
    Calls Tryz.prog 31 #[.int .i64 11, .int .u16 a, .int .u16 b] w fun e w' => e = .returned (.tuple #[.int .u16 (bits .xor .u16 a b), .bool false, .bool false, .bool true]) ∧ Below w.heap.size w w' := by
  go_enter Tryz.func31, Tryz.ntmps31
  go_wp2_with (go_at_call 48; refine (gather_xor _ _ _ _ _ ha ha' hb hb' (by simp) (by simp)).mono ?_; rintro e w' ⟨rfl, k, rfl⟩)
  exact bodyPost_ret (v := .tuple #[.int .u16 (bits .xor .u16 a b), .bool false, .bool false, .bool true]) (by simp [results, Tryz.results31, go_sem]) rfl ⟨rfl, below_draws (stA (stA (st0 _) _) _) _⟩
theorem res_none (op a b : Int) (w : World) (h7 : (op == 7) = false) (h15 : (op == 15) = false) (h8 : (op == 8) = false) (h14 : (op == 14) = false)
    (h9 : (op == 9) = false) (h10 : (op == 10) = false) (h11 : (op == 11) = false) (h28 : (op == 28) = false) :
    Calls Tryz.prog 31 #[.int .i64 op, .int .u16 a, .int .u16 b] w fun e w' => e = .returned (.tuple #[.int .u16 0, .bool false, .bool false, .bool false]) ∧ Below w.heap.size w w' := by
  go_enter Tryz.func31, Tryz.ntmps31
  go_wp2
  exact bodyPost_ret (v := .tuple #[.int .u16 0, .bool false, .bool false, .bool false]) (by simp [results, Tryz.results31, go_sem]) rfl ⟨rfl, stA (stA (st0 _) _) _⟩
/-- Block b of w is a map that holds just these keys, in this order, with these elements. -/
def mapB (w : World) (b : Nat) (l : List (ByteArray × Bool)) : Prop :=
  ∃ es clock, w.heap[b]? = some (.map es clock) ∧ es.toList.map (fun e => (e.key, e.val)) = l.map (fun p => (Value.string p.1, Value.bool p.2))

theorem beq_b (a b : ByteArray) : (a == b) = decide (a = b) := by
  cases h : (a == b)
  · rw [eq_comm, decide_eq_false_iff_not]; intro e; rw [(MapKept.bytes_beq a b).2 e] at h; cases h
  · rw [eq_comm, decide_eq_true_eq]; exact (MapKept.bytes_beq a b).1 h
theorem find_b (op : ByteArray) : ∀ (es : List MapEntry) (l : List (ByteArray × Bool)), es.map (fun e => (e.key, e.val)) = l.map (fun p => (Value.string p.1, Value.bool p.2)) → ∀ i : Nat,
    ∃ r, Instr.findNow .string (.string op) es i = some r ∧ r.map (·.2) = (l.find? (fun p => p.1 == op)).map (fun p => Value.bool p.2)
  | [], [], _, i => ⟨none, rfl, rfl⟩
  | [], _ :: _, h, _ => by cases h
  | _ :: _, [], h, _ => by cases h
  | e :: es, p :: l, h, i => by
    simp only [List.map_cons, List.cons.injEq, Prod.mk.injEq] at h
    obtain ⟨⟨hk, hv⟩, h⟩ := h
    by_cases c : p.1 = op
    · refine ⟨some (i, e.val), ?_, ?_⟩
      · simp [Instr.findNow, hk, Instr.sameNow, c, beq_b]
      · simp [c, hv, beq_b]
    · obtain ⟨r, h1, h2⟩ := find_b op es l h (i + 1)
      refine ⟨r, ?_, ?_⟩
      · have c' : (op == p.1) = false := by rw [beq_b, decide_eq_false_iff_not]; exact fun e => c e.symm
        simp [Instr.findNow, hk, Instr.sameNow, c', h1]
      · have c' : (p.1 == op) = false := by rw [beq_b, decide_eq_false_iff_not]; exact c
        rw [h2, List.find?_cons, c']

theorem mapB_made (w : World) : mapB (w.alloc (.map #[] 0)) w.heap.size [] := ⟨#[], 0, (MapKept.heap_alloc w _).1, rfl⟩
theorem mapB.lt {w : World} {b : Nat} {l : List (ByteArray × Bool)} (h : mapB w b l) : b < w.heap.size := by
  obtain ⟨es, c, hb, _⟩ := h
  exact (Array.getElem?_eq_some_iff.1 hb).1
theorem mapB.of_block {w w' : World} {b : Nat} {l : List (ByteArray × Bool)} (h : mapB w b l) (e : w'.heap[b]? = w.heap[b]?) : mapB w' b l := by
  obtain ⟨es, c, hb, hm⟩ := h
  exact ⟨es, c, e.trans hb, hm⟩
theorem mapB.below {w w' : World} {b B : Nat} {l : List (ByteArray × Bool)} (h : mapB w b l) (hb : Below B w w') (hB : b < B) : mapB w' b l := h.of_block (hb.block b hB)

theorem insert_b {P : Program} {t k e : TypeId} (ht : P.underlying t = some (.map k e)) (hk : P.underlying k = some .string) {w : World} {b : Nat} {l : List (ByteArray × Bool)} (h : mapB w b l) (x : ByteArray) (v : Bool)
    (hf : l.find? (fun p => p.1 == x) = none) : ∃ w', (Instr.mapUpdate t (.map (some b)) (.string x) (.bool v)).run P w = .ok () w' ∧ mapB w' b (l ++ [(x, v)]) ∧ w.grownBy w' (some b) := by
  obtain ⟨es, c, hb, hm⟩ := h
  obtain ⟨r, h1, h2⟩ := find_b x es.toList l hm 0
  have hr : r = none := by
    cases r with
    | none => rfl
    | some q => simp [hf] at h2
  subst hr
  have hc : (Instr.checkKey false 10000 k (.string x)).run P w = .ok () w := MapKept.run_checkKey (k := .string x) hk (by simp [MapKept.IsKey]) false 9999
  refine ⟨{ w with heap := w.heap.setIfInBounds b (.map (es.push { key := .string x, val := .bool v, born := c }) (c + 1)) }, ?_, ?_, ?_⟩
  · simp [Instr.mapUpdate, run_underlying ht, MapKept.run_getObj_map hb, hc, MapKept.run_findKey hk h1, MapKept.run_setObj_map _ hb, Result.andThen]
  · exact ⟨_, _, (MapKept.heap_set hb).1, by simp [hm]⟩
  · exact ⟨rfl, rfl, rfl, by simp, fun i hi hne => (MapKept.heap_set hb).2 i (fun e => hne (by rw [e]))⟩

theorem lookup_b {P : Program} {t k e : TypeId} (ht : P.underlying t = some (.map k e)) (hk : P.underlying k = some .string) {w : World} {b : Nat} {l : List (ByteArray × Bool)} (h : mapB w b l) (x : ByteArray) (v : Bool)
    (hf : (l.find? (fun p => p.1 == x)).map (·.2) = some v) : (Instr.lookup t (.map (some b)) (.string x) false).run P w = .ok (.bool v) w := by
  obtain ⟨es, c, hb, hm⟩ := h
  obtain ⟨r, h1, h2⟩ := find_b x es.toList l hm 0
  have hc : ∀ em, (Instr.checkKey em 10000 k (.string x)).run P w = .ok () w := fun em => MapKept.run_checkKey (k := .string x) hk (by simp [MapKept.IsKey]) em 9999
  have h3 : r.map (·.2) = some (Value.bool v) := by
    rw [h2]
    cases hq : l.find? (fun p => p.1 == x) with
    | none => rw [hq] at hf; cases hf
    | some p => rw [hq] at hf; simp only [Option.map_some, Option.some.injEq] at hf; simp [hf]
  cases r with
  | none => cases h3
  | some q =>
    simp only [Option.map_some, Option.some.injEq] at h3
    obtain ⟨q1, q2⟩ := q
    simp only at h3
    subst h3
    simp [Instr.lookup, run_underlying ht, MapKept.run_getObj_map hb, hc, MapKept.run_findKey hk h1, Result.andThen]
theorem wpList_insert_b {P : Program} (w : World) {ops : Array Oper} {rest : List Oper} {o : Oper} {a : Act} {Q : Exit → Act → World → Prop}
    (hg : o.guard = none) (m x v : Operand) (t : TypeId) (hop : o.op = Op.insert t m x v) (k e : TypeId) (ht : P.underlying t = some (.map k e)) (hk : P.underlying k = some .string)
    (b : Nat) (l : List (ByteArray × Bool)) (hm : a.eval m = .map (some b)) (hb : mapB w b l) (key : ByteArray) (val : Bool) (hx : a.eval x = .string key) (hv : a.eval v = .bool val) (hf : l.find? (fun p => p.1 == key) = none)
    (hK : ∀ w', mapB w' b (l ++ [(key, val)]) → w.grownBy w' (some b) → wpList P ops Q rest (a.put o.dst undef) w') : wpList P ops Q (o :: rest) a w := by
  refine wpList_plain hg fun K' hK' => ?_
  obtain ⟨w', hrun, r1, r2⟩ := insert_b ht hk hb key val hf
  unfold Oper.wp
  simp [execOp, hop, hm, hx, hv, hrun, Result.andThen]
  exact hK' _ _ (hK w' r1 r2)
/-- The row of the fields. -/
def fieldRow : Array Value := ((List.range 32).map (fun k => Value.string (K.text k))).toArray
theorem fields_any (w : World) (htab : Lib.TabIs Tryz.prog w "strings.asciiSpace" .u8 Lib.asciiSpaceTab) :
    Calls Tryz.prog 45 #[.string K.table] w fun e w' => e = .returned (.slice (some ⟨w.heap.size, 0, none⟩) 32 32) ∧ w' = w.alloc (.cells fieldRow 9) := by
  have h := Tryz.strings_Fields_laid K.table w (by rw [K.size_table]; omega) K.ascii_table htab
  rw [K.fields_table] at h
  refine h.mono fun e w' hh => ⟨hh.1.trans (by simp), hh.2.trans ?_⟩
  simp [fieldRow, Function.comp_def]
theorem split_any (k : Nat) (hk : k < 32) (m : Int) (w : World) (hm : w.cell? ⟨5, 0, none⟩ = some (.int .i64 m)) :
    Calls Tryz.prog 46 #[.string (K.text k), .string ⟨#[58]⟩] w fun e w' => e = .returned (.slice (some ⟨w.heap.size, 0, none⟩) 3 3) ∧ w' = w.alloc (.cells #[.string (K.name k), .string (K.has k), .string (K.num k)] 9) := by
  have hs := K.sizes k hk
  have h := Tryz.strings_Split (K.text k) K.colon m w (by omega) hm (by decide)
  rw [(K.split_text k hk).1, (K.split_text k hk).2] at h
  exact h.mono fun e w' hh => ⟨hh.1, hh.2.trans (by simp)⟩
theorem parse_any (k : Nat) (hk : k < 32) (w : World) :
    Calls Tryz.prog 47 #[.string (K.num k), .int .i64 10, .int .i64 64] w fun e w' => e = .returned (.tuple #[.int .i64 (K.cyc k), .nilIface]) ∧ Below w.heap.size w w' := by
  have hs := K.sizes k hk
  refine (Tryz.strconv_ParseInt_10_at64_ok (K.num k) (by omega) (K.cyc k) (K.parse_num k hk) w).mono fun e w' hh => ⟨hh.1, ?_⟩
  rcases hh.2 with rfl | ⟨t, rfl⟩
  · exact Below.refl _ _
  · exact Joins.below_bytesWorld _ _ _ _ (Nat.le_refl _)
theorem grown_of_below {w w' : World} (h : Below w.heap.size w w') : w.grownBy w' none := ⟨h.os, h.tape, h.output, h.size, fun k hk _ => h.block k hk⟩
theorem info_kind : (Tryz.prog.info? 68).map (fun i => (i.zero, i.size, i.bytes)) = some (some (.agg #[.string ⟨#[]⟩, .string ⟨#[]⟩, .int .i64 0]), 3, 40) := by kernel_rfl
theorem field_at (k : Nat) (hk : k < 32) : fieldRow[k]? = some (.string (K.text k)) := by
  unfold fieldRow
  rw [List.getElem?_toArray, List.getElem?_map, List.getElem?_range hk]
  rfl
theorem field_cell (w : World) (k : Nat) (hk : k < 32) : (w.alloc (.cells fieldRow 9)).cell? ⟨w.heap.size, k, none⟩ = some (.string (K.text k)) := by
  rw [World.cell?_alloc_new]; exact field_at k hk

set_option maxRecDepth 100000 in
set_option maxHeartbeats 1600000 in
theorem kinds_any (w : World) (htab : Lib.TabIs Tryz.prog w "strings.asciiSpace" .u8 Lib.asciiSpaceTab) (m : Int) (hm : w.cell? ⟨5, 0, none⟩ = some (.int .i64 m)) :
    Calls Tryz.prog 28 #[] w fun e w' => ∃ v, e = .returned v ∧ w'.ownsRow (w.heap.size + 1) 68 3 v 32 (K.cells 32) ∧ Below w.heap.size w w' := by
  obtain ⟨i0, hi0, hz0, hz1, hz2⟩ := info_parts info_kind
  have HT := hid htab
  clear htab
  have hm4 := World.block_lt_of_cell? w _ hm
  go_enter Tryz.func28, Tryz.ntmps28
  go_wp2_with (go_at_call 45; refine (fields_any _ HT.out).mono ?_; rintro e w' ⟨rfl, rfl⟩)
  go_loopw [1, 9] (fun l i wr => ∃ k : Nat, k ≤ 32 ∧ i = .int .i64 k ∧ wr.ownsRow (w.heap.size + 1) 68 3 l k (K.cells k) ∧ Below (w.heap.size + 1) (w.alloc (.cells fieldRow 9)) wr) (fun _ i _ => 32 - (intOf i).toNat)
  case atStart => exact ⟨0, by omega, rfl, ⟨rfl, Or.inl ⟨rfl, rfl⟩⟩, Below.refl _ _⟩
  case round =>
    obtain ⟨k, hk, rfl, hown, hbl⟩ := hrel
    by_cases hlt : k < 32
    · have hc0 := (hbl.cell (p := ⟨w.heap.size, k, none⟩) (by simp)).trans (field_cell w k hlt)
      have hm1 := ((hbl.cell (p := ⟨5, 0, none⟩) (by simp at hm4 ⊢; omega)).trans (World.cell?_alloc_lt w _ _ (by simpa using hm4))).trans hm
      go_wp2_with (first
        | (go_at_call 46; refine (split_any k hlt m _ (by exact hm1)).mono ?_; rintro e w' ⟨rfl, rfl⟩)
        | (go_at_call 47; refine (parse_any k hlt _).mono ?_; rintro e w2 ⟨rfl, hb2⟩))
      have hn0 : w2.cell? ⟨wr.heap.size, 0, none⟩ = some (.string (K.name k)) := (hb2.cell (p := ⟨wr.heap.size, 0, none⟩) (by simp)).trans (by simp)
      have hn1 : w2.cell? ⟨wr.heap.size, 1, none⟩ = some (.string (K.has k)) := (hb2.cell (p := ⟨wr.heap.size, 1, none⟩) (by simp)).trans (by simp)
      have hown2 := (hown.alloc (.cells #[.string (K.name k), .string (K.has k), .string (K.num k)] 9)).kept (grown_of_below hb2) (by cases u1.ownBlock with | none => exact Or.inl rfl | some g => exact Or.inr (by simp))
      have hsz : wr.heap.size + 1 ≤ w2.heap.size := by have := hb2.size; simpa using this
      have hsw : w.heap.size + 1 ≤ wr.heap.size := by have := hbl.size; simpa using this
      have hne : u1.ownBlock ≠ some wr.heap.size := fun e => by have := hown.lt _ e; omega
      go_region_held3 (fun w' => w'.cell? ⟨wr.heap.size, 0, none⟩ = some (.string (K.name k)) ∧ w'.cell? ⟨wr.heap.size, 1, none⟩ = some (.string (K.has k)))
        (first
          | go_keep
          | (go_split_ands
             refine ⟨?_, ?_⟩
             · (rw [hgrow.cell_far _ (by simp; omega) (Ne.symm hne)]; assumption)
             · (rw [hgrow.cell_far _ (by simp; omega) (Ne.symm hne)]; assumption)))
        ((refine step_append_lies _ (by rfl) _ _ _ (by rfl) (w.heap.size + 1) 68 i0 _ 3 40 Tryz.underlying69 hi0 hz0 hz1 hz2 rfl (by omega) u1 k (K.cells k) (by rfl) ((hown2.alloc _).drew)
            ⟨w2.heap.size, 0, none⟩ 1 1 [.string (K.name k), .string (K.has k), .int .i64 (K.cyc k)] (by rfl) (by rfl) (World.news_of_block (cs := #[.string (K.name k), .string (K.has k), .int .i64 (K.cyc k)]) (t := 68) (fr := (0, 0)) (heap_alloc_new w2 _)) (by simp [Value.oneCell'])
            (by omega) (by unfold maxLen; omega) (by omega) (by simp; omega) (w2.heap.size + 1) (by simp) ?_; intro gg cap w3 hown3 hgrow hat hlt3))
      go_wp2
      go_roundw
      case rel => exact ⟨k + 1, by omega, by go_num, hown3, (((hbl.alloc hsw _).trans (hb2.mono (by simp; omega))).alloc (by omega) _).drew.grown hgrow (by simp; omega) (fun j hj => (hown.lt j hj).1)⟩
      case measure => simp [intOf]; omega
    · go_wp2
      go_ret
      have hk32 : k = 32 := by omega
      subst hk32
      exact ⟨_, rfl, hown, ((Below.refl _ _).alloc (Nat.le_refl _) _).trans (hbl.mono (by omega))⟩
/-- Block g of w is a row of the table's 32 orders. -/
def tableAt (w : World) (g : Nat) : Prop := ∀ k, k < 32 → w.cell? ⟨g, k * 3, none⟩ = some (.string (K.name k)) ∧ w.cell? ⟨g, k * 3 + 1, none⟩ = some (.string (K.has k)) ∧ w.cell? ⟨g, k * 3 + 2, none⟩ = some (.int .i64 (K.cyc k))
theorem tableAt.kept {w w' : World} {g B : Nat} (h : tableAt w g) (hb : Below B w w') (hg : g < B) : tableAt w' g := fun k hk => by
  obtain ⟨h1, h2, h3⟩ := h k hk
  exact ⟨(hb.cell hg).trans h1, (hb.cell hg).trans h2, (hb.cell hg).trans h3⟩
theorem kinds_cells (w : World) (htab : Lib.TabIs Tryz.prog w "strings.asciiSpace" .u8 Lib.asciiSpaceTab) (m : Int) (hm : w.cell? ⟨5, 0, none⟩ = some (.int .i64 m)) :
    Calls Tryz.prog 28 #[] w fun e w' => ∃ g cap, e = .returned (.slice (some ⟨g, 0, none⟩) 32 cap) ∧ tableAt w' g ∧ w.heap.size ≤ g ∧ g < w'.heap.size ∧ Below w.heap.size w w' := by
  refine (kinds_any w htab m hm).mono fun e w' ⟨v, he, hown, hb⟩ => ?_
  obtain ⟨g, cap, hv, hbg, hgl⟩ := hown.form (by omega)
  subst hv
  have hadd : ∀ j, (⟨g, 0, none⟩ : Addr).add j = ⟨g, j, none⟩ := fun j => by unfold Addr.add; split <;> simp_all
  refine ⟨g, cap, he, fun k hk => ?_, by omega, hgl, hb⟩
  obtain ⟨h1, h2, h3⟩ := K.cells_at 32 k hk
  exact ⟨hadd _ ▸ hown.cells rfl _ _ h1, hadd _ ▸ hown.cells rfl _ _ h2, hadd _ ▸ hown.cells rfl _ _ h3⟩
theorem kinds_of (w : World) (h : Facts w) :
    Calls Tryz.prog 28 #[] w fun e w' => ∃ g cap, e = .returned (.slice (some ⟨g, 0, none⟩) 32 cap) ∧ tableAt w' g ∧ w.heap.size ≤ g ∧ g < w'.heap.size ∧ Below w.heap.size w w' := by
  obtain ⟨m, hm⟩ := h.len
  exact kinds_cells w h.tab m hm
/-! ### an order's parts, letter by letter -/
def fD (p : List UInt8) (a : Int) : Int := if p.contains 100 then a / 256 % 8 else 0
def fS (p : List UInt8) (a : Int) : Int := if p.contains 115 then a / 32 % 8 else 0
def fN (p : List UInt8) (k : Nat) (a : Int) : Int := if p.contains 110 then O.nOf k a else 0
def fW (p : List UInt8) (b : Int) : Int := if p.contains 119 then b else 0
def fL (p : List UInt8) : Int := if p.contains 119 then 2 else 1
/-- The letters of an order. -/
def lets (k : Nat) : List UInt8 := (K.row k).2.1
theorem lets_ok : ∀ k, k < 32 → (lets k).all (fun c => c == 100 || c == 115 || c == 110 || c == 119) = true := by decide +kernel
theorem lets_size (k : Nat) : (K.has k).size = (lets k).length := rfl
theorem take_snoc (l : List UInt8) (j : Nat) (c : UInt8) (h : l[j]? = some c) : l.take (j + 1) = l.take j ++ [c] := by
  rw [List.take_add_one, h]; rfl
theorem step_c {l : List UInt8} {j : Nat} {c x : UInt8} (hc : l[j]? = some c) : (l.take (j + 1)).contains x = ((l.take j).contains x || c == x) := by
  rw [take_snoc l j c hc, Bool.eq_iff_iff, Bool.or_eq_true, List.contains_iff_mem, List.contains_iff_mem, List.mem_append, List.mem_singleton, beq_iff_eq]
  exact ⟨fun h => h.imp id Eq.symm, fun h => h.imp id Eq.symm⟩
theorem fD_step {l : List UInt8} {j : Nat} {c : UInt8} (hc : l[j]? = some c) (a : Int) : fD (l.take (j + 1)) a = if c == 100 then a / 256 % 8 else fD (l.take j) a := by
  unfold fD; rw [step_c hc]; cases (l.take j).contains 100 <;> cases (c == 100) <;> rfl
theorem fS_step {l : List UInt8} {j : Nat} {c : UInt8} (hc : l[j]? = some c) (a : Int) : fS (l.take (j + 1)) a = if c == 115 then a / 32 % 8 else fS (l.take j) a := by
  unfold fS; rw [step_c hc]; cases (l.take j).contains 115 <;> cases (c == 115) <;> rfl
theorem fN_step {l : List UInt8} {j : Nat} {c : UInt8} (hc : l[j]? = some c) (k : Nat) (a : Int) : fN (l.take (j + 1)) k a = if c == 110 then O.nOf k a else fN (l.take j) k a := by
  unfold fN; rw [step_c hc]; cases (l.take j).contains 110 <;> cases (c == 110) <;> rfl
theorem fW_step {l : List UInt8} {j : Nat} {c : UInt8} (hc : l[j]? = some c) (b : Int) : fW (l.take (j + 1)) b = if c == 119 then b else fW (l.take j) b := by
  unfold fW; rw [step_c hc]; cases (l.take j).contains 119 <;> cases (c == 119) <;> rfl
theorem fL_step {l : List UInt8} {j : Nat} {c : UInt8} (hc : l[j]? = some c) : fL (l.take (j + 1)) = if c == 119 then 2 else fL (l.take j) := by
  unfold fL; rw [step_c hc]; cases (l.take j).contains 119 <;> cases (c == 119) <;> rfl
theorem name_shl : ∀ k, k < 32 → ((K.name k).toList == [115, 104, 108]) = decide (k = 12) := by decide +kernel
theorem name_shr : ∀ k, k < 32 → ((K.name k).toList == [115, 104, 114]) = decide (k = 13) := by decide +kernel
theorem nOf_1 {k : Nat} (hk : k < 32) {a : Int} (h : (K.name k).toList = [115, 104, 108]) : O.nOf k a = a % 16 := by
  have := name_shl k hk
  rw [h] at this
  unfold O.nOf
  rw [if_pos (Or.inl (by simpa using this))]
theorem nOf_2 {k : Nat} (hk : k < 32) {a : Int} (h : ((K.name k).toList == [115, 104, 108]) = true ∨ ((K.name k).toList == [115, 104, 114]) = true) : O.nOf k a = a % 16 := by
  rw [name_shl k hk, name_shr k hk] at h
  unfold O.nOf
  rw [if_pos (by simpa using h)]
theorem nOf_3 {k : Nat} (hk : k < 32) {a : Int} (h : ((K.name k).toList == [115, 104, 108]) = false ∧ ((K.name k).toList == [115, 104, 114]) = false) (ha : 16 ≤ a % 32) : O.nOf k a = a % 32 - 32 := by
  rw [name_shl k hk, name_shr k hk] at h
  unfold O.nOf
  rw [if_neg (by simpa using h), if_pos ha]
theorem nOf_4 {k : Nat} (hk : k < 32) {a : Int} (h : ((K.name k).toList == [115, 104, 108]) = false ∧ ((K.name k).toList == [115, 104, 114]) = false) (ha : a % 32 < 16) : O.nOf k a = a % 32 := by
  rw [name_shl k hk, name_shr k hk] at h
  unfold O.nOf
  rw [if_neg (by simpa using h), if_neg (by omega)]
theorem newRes1 {w w1 : World} {t : TypeId} (hb1 : Below (w.alloc (.cells #[.int .i64 0, .int .i64 0, .int .i64 0, .int .i64 0, .int .i64 0] t)).heap.size (w.alloc (.cells #[.int .i64 0, .int .i64 0, .int .i64 0, .int .i64 0, .int .i64 0] t)) w1) :
    (∀ i, i < 5 → w1.cell? ⟨w.heap.size, i, none⟩ = some (.int .i64 0)) ∧ ∀ i, w1.frozen? ⟨w.heap.size, i, none⟩ = false := by
  refine ⟨fun i hi => ?_, fun i => ?_⟩
  · rw [hb1.cell (by simp), cell_new _ _ _ _ rfl]
    have hc : i = 0 ∨ i = 1 ∨ i = 2 ∨ i = 3 ∨ i = 4 := by omega
    rcases hc with rfl | rfl | rfl | rfl | rfl <;> rfl
  · rw [hb1.frozen (by simp)]
    simp
theorem orderOf_30 (a b : Int) (ha : 0 ≤ a ∧ a ≤ 65535) (hb : 0 ≤ b ∧ b ≤ 65535) (h30 : a / 2048 = 30) (w : World) :
    Calls Tryz.prog 27 #[.int .u16 a, .int .u16 b] w fun e w' => e = .returned (.tuple #[.agg #[.int .i64 31, .int .i64 0, .int .i64 0, .int .i64 0, .int .i64 0], .int .i64 1]) ∧ Below w.heap.size w w' := by
  obtain ⟨ha1, ha2⟩ := ha
  go_enter Tryz.func27, Tryz.ntmps27
  go_wp2
  exact bodyPost_ret (v := .tuple #[.agg #[.int .i64 31, .int .i64 0, .int .i64 0, .int .i64 0, .int .i64 0], .int .i64 1]) (by simp [results, Tryz.results27, go_sem]) rfl ⟨rfl, stA (st0 _) _⟩
/-- The world in a round: the order's kind, the order so far, the letters' reader. -/
def rw0 (w1 : World) (k : Nat) (x : Int) (p : List UInt8) (a b : Int) : World :=
  (w1.alloc (.cells #[.string (K.name k), .string (K.has k), .int .i64 (K.cyc k)] 68)).alloc (.cells #[.int .i64 x, .int .i64 (fD p a), .int .i64 (fS p a), .int .i64 (fN p k a), .int .i64 (fW p b)] 64)
theorem iter_eq (w : World) (s : ByteArray) (i : Nat) : w.iter s i = w.alloc (.stringIter s i) := rfl
theorem next_c (w : World) (B : Nat) (hB : B = w.heap.size) (s : ByteArray) (i : Nat) (c : UInt8) (hi : i < s.size) (hc : s[i]'hi = c) (ha : c.toNat < 128) (ty : TypeId) : (Instr.next (.pointer (some ⟨B, 0, none⟩)) true ty).run Tryz.prog (w.alloc (.stringIter s i)) =
    .ok (.tuple #[.bool true, .int .i64 i, .int .i32 c.toNat]) (w.alloc (.stringIter s (i + 1))) := by
  subst hB
  have := run_next_ascii (P := Tryz.prog) w s i ty hi (by rw [hc]; exact ha)
  rw [hc] at this
  exact this
theorem next_e (w : World) (B : Nat) (hB : B = w.heap.size) (s : ByteArray) (i : Nat) (hi : ¬ i < s.size) (ty : TypeId) : (Instr.next (.pointer (some ⟨B, 0, none⟩)) true ty).run Tryz.prog (w.alloc (.stringIter s i)) = .ok (.tuple #[.bool false]) (w.alloc (.stringIter s i)) := by
  subst hB
  exact run_next_end (P := Tryz.prog) w s i ty hi
theorem lets_at (k j : Nat) (hi : j < (K.has k).size) : (lets k)[j]? = some ((K.has k)[j]'hi) := by
  have h : j < (lets k).length := hi
  rw [List.getElem?_eq_getElem h]
  rfl
theorem lets_or (k j : Nat) (hk : k < 32) (hi : j < (K.has k).size) : (K.has k)[j]'hi = 100 ∨ (K.has k)[j]'hi = 115 ∨ (K.has k)[j]'hi = 110 ∨ (K.has k)[j]'hi = 119 := by
  have := List.all_eq_true.1 (lets_ok k hk) _ (List.mem_of_getElem? (lets_at k j hi))
  simpa [or_assoc] using this
/-- Where the reader in block B stands. -/
def posOf (w : World) (B : Nat) : Nat := match w.heap[B]? with | some (.stringIter _ i) => i | _ => 0
theorem posOf_at (w : World) (B : Nat) (s : ByteArray) (i : Nat) (hB : B = w.heap.size) : posOf (w.alloc (.stringIter s i)) B = i := by
  subst hB
  unfold posOf
  rw [show (w.alloc (.stringIter s i)).heap[w.heap.size]? = some (.stringIter s i) from World.iter_heap w s i]
theorem rw0_size (w1 : World) (k : Nat) (x : Int) (p : List UInt8) (a b : Int) : w1.heap.size + 1 + 1 = (rw0 w1 k x p a b).heap.size := by unfold rw0; simp
set_option maxRecDepth 100000 in
set_option maxHeartbeats 1600000 in
theorem orderOf_k (k : Nat) (hk : k < 32) (h30 : k ≠ 30) (a b : Int) (ha : 0 ≤ a ∧ a ≤ 65535) (hb : 0 ≤ b ∧ b ≤ 65535) (hak : a / 2048 = k) (w : World) (hF : Facts w) :
    Calls Tryz.prog 27 #[.int .u16 a, .int .u16 b] w fun e w' => e = .returned (.tuple #[.agg #[.int .i64 k, .int .i64 (fD (lets k) a), .int .i64 (fS (lets k) a), .int .i64 (fN (lets k) k a), .int .i64 (fW (lets k) b)], .int .i64 (fL (lets k))]) ∧ Below w.heap.size w w' := by
  obtain ⟨ha1, ha2⟩ := ha
  obtain ⟨hb1', hb2'⟩ := hb
  have h30' : ((k : Int) == 30) = false := by simp; omega
  have HF := hid hF
  have hit := iter_eq
  clear hF
  go_enter Tryz.func27, Tryz.ntmps27
  go_wp2_with (go_at_call 28; refine (kinds_of _ (HF.out.kept (stA (st0 _) _))).mono ?_; rintro e w1 ⟨g, cap, rfl, htb, hg1, hg2, hb1⟩; obtain ⟨c0, c1, c2⟩ := htb k hk; have hz1 := lt_box hb1; clear htb)
  go_loopw [10] (fun L wr => ∃ j : Nat, j ≤ (lets k).length ∧ L = .int .i64 (fL ((lets k).take j)) ∧ wr = (rw0 w1 k k ((lets k).take j) a b).alloc (.stringIter (K.has k) j)) (fun _ wr => (lets k).length - posOf wr (w1.heap.size + 1 + 1))
  case atStart => exact ⟨0, by omega, rfl, rfl⟩
  case round =>
    obtain ⟨j, hj, rfl, rfl⟩ := hrel
    by_cases hlt : j < (lets k).length
    · have hi : j < (K.has k).size := hlt
      rcases lets_or k j hk hi with hc | hc | hc | hc
      · have hcl : (lets k)[j]? = some 100 := by rw [lets_at k j hi, hc]
        have hnx := next_c (rw0 w1 k k ((lets k).take j) a b) (w1.heap.size + 1 + 1) (rw0_size ..) (K.has k) j 100 hi hc (by decide)
        have HC := hid hcl
        clear hcl hc
        unfold rw0 at hnx ⊢
        go_wp2
        all_goals
          have eD := (fD_step HC.out a).trans (if_pos (by decide))
          have eS := (fS_step HC.out a).trans (if_neg (by decide))
          have eN := ((fN_step HC.out k a).trans (if_neg (by decide)))
          have eW := (fW_step HC.out b).trans (if_neg (by decide))
          have eL := (fL_step HC.out).trans (if_neg (by decide))
          refine ⟨⟨j + 1, by omega, by rw [eL], by rw [eD, eS, eN, eW]⟩, ?_⟩
          rw [posOf_at _ _ _ _ (by simp), posOf_at _ _ _ _ (by simp)]
          omega
      · have hcl : (lets k)[j]? = some 115 := by rw [lets_at k j hi, hc]
        have hnx := next_c (rw0 w1 k k ((lets k).take j) a b) (w1.heap.size + 1 + 1) (rw0_size ..) (K.has k) j 115 hi hc (by decide)
        have HC := hid hcl
        clear hcl hc
        unfold rw0 at hnx ⊢
        go_wp2
        all_goals
          have eD := (fD_step HC.out a).trans (if_neg (by decide))
          have eS := (fS_step HC.out a).trans (if_pos (by decide))
          have eN := ((fN_step HC.out k a).trans (if_neg (by decide)))
          have eW := (fW_step HC.out b).trans (if_neg (by decide))
          have eL := (fL_step HC.out).trans (if_neg (by decide))
          refine ⟨⟨j + 1, by omega, by rw [eL], by rw [eD, eS, eN, eW]⟩, ?_⟩
          rw [posOf_at _ _ _ _ (by simp), posOf_at _ _ _ _ (by simp)]
          omega
      · have hcl : (lets k)[j]? = some 110 := by rw [lets_at k j hi, hc]
        have hnx := next_c (rw0 w1 k k ((lets k).take j) a b) (w1.heap.size + 1 + 1) (rw0_size ..) (K.has k) j 110 hi hc (by decide)
        have HC := hid hcl
        clear hcl hc
        unfold rw0 at hnx ⊢
        go_wp2
        all_goals
          have eD := (fD_step HC.out a).trans (if_neg (by decide))
          have eS := (fS_step HC.out a).trans (if_neg (by decide))
          have eN := ((fN_step HC.out k a).trans (if_pos (by decide)))
          have eW := (fW_step HC.out b).trans (if_neg (by decide))
          have eL := (fL_step HC.out).trans (if_neg (by decide))
          have eN2 := eN.trans (by first | exact nOf_1 hk (by assumption) | exact nOf_2 hk (by assumption) | exact nOf_3 hk (by assumption) (by assumption) | exact nOf_4 hk (by assumption) (by assumption))
          refine ⟨⟨j + 1, by omega, by rw [eL], by rw [eD, eS, eN2, eW]⟩, ?_⟩
          rw [posOf_at _ _ _ _ (by simp), posOf_at _ _ _ _ (by simp)]
          omega
      · have hcl : (lets k)[j]? = some 119 := by rw [lets_at k j hi, hc]
        have hnx := next_c (rw0 w1 k k ((lets k).take j) a b) (w1.heap.size + 1 + 1) (rw0_size ..) (K.has k) j 119 hi hc (by decide)
        have HC := hid hcl
        clear hcl hc
        unfold rw0 at hnx ⊢
        go_wp2
        all_goals
          have eD := (fD_step HC.out a).trans (if_neg (by decide))
          have eS := (fS_step HC.out a).trans (if_neg (by decide))
          have eN := ((fN_step HC.out k a).trans (if_neg (by decide)))
          have eW := (fW_step HC.out b).trans (if_pos (by decide))
          have eL := (fL_step HC.out).trans (if_pos (by decide))
          refine ⟨⟨j + 1, by omega, by rw [eL], by rw [eD, eS, eN, eW]⟩, ?_⟩
          rw [posOf_at _ _ _ _ (by simp), posOf_at _ _ _ _ (by simp)]
          omega
    · obtain rfl : j = (lets k).length := by omega
      have hnx := next_e (rw0 w1 k k ((lets k).take (lets k).length) a b) (w1.heap.size + 1 + 1) (rw0_size ..) (K.has k) (lets k).length (by rw [lets_size]; omega)
      obtain ⟨r1, r2⟩ := newRes1 hb1
      have hz2 : w.heap.size < w1.heap.size + 1 := by omega
      have hz3 : w.heap.size < w1.heap.size + 1 + 1 := by omega
      rw [List.take_length] at hnx ⊢
      unfold rw0 at hnx ⊢
      go_wp2
      refine bodyPost_ret (v := .tuple #[.agg #[.int .i64 k, .int .i64 (fD (lets k) a), .int .i64 (fS (lets k) a), .int .i64 (fN (lets k) k a), .int .i64 (fW (lets k) b)], .int .i64 (fL (lets k))]) (by simp [results, Tryz.results27, go_sem, r1, hz1, hz2, hz3]) rfl ⟨rfl, ?_⟩
      exact stA (stA (stA ((((((stp (stA (st0 _) _) hb1).setCell (Nat.le_refl _) _).setCell (Nat.le_refl _) _).setCell (Nat.le_refl _) _).setCell (Nat.le_refl _) _).setCell (Nat.le_refl _) _) _) _) _
theorem orderOf_any (a b : Int) (ha : 0 ≤ a ∧ a ≤ 65535) (hb : 0 ≤ b ∧ b ≤ 65535) (w : World) (hF : Facts w) :
    Calls Tryz.prog 27 #[.int .u16 a, .int .u16 b] w fun e w' => e = .returned (.tuple #[.agg #[.int .i64 (O.rOp a), .int .i64 (O.rD a), .int .i64 (O.rS a), .int .i64 (O.rN a), .int .i64 (O.rW a b)], .int .i64 (O.rLen a)]) ∧ Below w.heap.size w w' := by
  by_cases h30 : a / 2048 = 30
  · have hr : O.rk a = 31 := by unfold O.rk O.rOp; rw [if_pos h30]; rfl
    have e : O.rD a = 0 ∧ O.rS a = 0 ∧ O.rN a = 0 ∧ O.rW a b = 0 ∧ O.rLen a = 1 := by
      have h : O.hasC 31 100 = false ∧ O.hasC 31 115 = false ∧ O.hasC 31 110 = false ∧ O.hasC 31 119 = false := by decide +kernel
      unfold O.rD O.rS O.rN O.rW O.rLen
      rw [hr, h.1, h.2.1, h.2.2.1, h.2.2.2]
      exact ⟨rfl, rfl, rfl, rfl, rfl⟩
    have e0 : O.rOp a = 31 := by unfold O.rOp; rw [if_pos h30]
    rw [e0, e.1, e.2.1, e.2.2.1, e.2.2.2.1, e.2.2.2.2]
    exact orderOf_30 a b ha hb h30 w
  · obtain ⟨k, hk⟩ := Int.eq_ofNat_of_zero_le (show 0 ≤ a / 2048 by omega)
    have hr : O.rOp a = (k : Int) := by unfold O.rOp; rw [if_neg h30, hk]
    have hkk : O.rk a = k := by unfold O.rk; rw [hr]; rfl
    unfold O.rD O.rS O.rN O.rW O.rLen
    rw [hkk, hr]
    exact orderOf_k k (by omega) (by omega) a b ha hb hk w hF
section
variable {σ : Type} {m : C.Mem σ} {B bs : Nat} {I : World → σ → Prop} {T : σ → Nat → Prop}
theorem QS.kept (R : QS m B bs I T) {w w' : World} {s : σ} (h : I w s) (hb : Below w.heap.size w w') : I w' s := R.keep h hb.size (fun k hk => hb.block k (R.lt h k hk))
theorem QS.same (R : QS m B bs I T) {w w' : World} {s : σ} (h : I w s) (e : w'.heap = w.heap) : I w' s := R.keep h (by rw [e]; exact Nat.le_refl _) (fun k _ => by rw [e])
theorem QS.out (R : QS m B bs I T) {w : World} {s : σ} (h : I w s) {k : Nat} (hk : w.heap.size ≤ k) : ¬ T s k := fun ht => by have := R.lt h k ht; omega
theorem QS.word (R : QS m B bs I T) (s : σ) (a : Int) : 0 ≤ (m.rdw s a).1 ∧ (m.rdw s a).1 ≤ 65535 := by
  have h1 := R.byte s a
  have h2 := R.byte (m.rd s a).2 ((a + 1) % 65536)
  unfold C.Mem.rdw
  simp only
  omega
/-- A block of one's own reads as it did. -/
theorem QS.box (R : QS m B bs I T) {w w1 : World} {s : σ} {cs : Array Value} {t : TypeId} {T' : Nat → Prop} (h : I w s) (hm : Mv B (T s) T' (w.alloc (.cells cs t)) w1) : w.heap.size < w1.heap.size ∧ ∀ o, w1.cell? ⟨w.heap.size, o, none⟩ = cs[o]? := by
  refine ⟨by have := hm.size; simp at this; omega, fun o => ?_⟩
  rw [hm.cell (by simp) (R.out h (Nat.le_refl _)) o]
  exact cell_new _ _ _ _ rfl
set_option maxHeartbeats 1600000 in
theorem rword_any (R : QS m B bs I T) (a : Int) (ha : 0 ≤ a) (ha' : a ≤ 65535) (w : World) (s : σ) (hI : I w s) :
    Calls Tryz.prog 25 #[.agg #[gv bs, pv bs], .int .u16 a] w fun e w' => e = .returned (.int .u16 (m.rdw s a).1) ∧ I w' (m.rdw s a).2 ∧ Mv B (T s) (T (m.rdw s a).2) w w' := by
  have HI := hid hI
  have HR := hid R
  have hB := R.big hI
  have b1 := R.byte s a
  have b2 := R.byte (m.rd s a).2 ((a + 1) % 65536)
  have e1 : IntKind.u16.wrap (m.rd s a).1 = (m.rd s a).1 := by rw [u16w]; omega
  have e2 : IntKind.u16.wrap ((m.rd s a).1 * 256) = (m.rd s a).1 * 256 := by rw [u16w]; omega
  have e3 : IntKind.u16.wrap (m.rd (m.rd s a).2 ((a + 1) % 65536)).1 = (m.rd (m.rd s a).2 ((a + 1) % 65536)).1 := by rw [u16w]; omega
  have e4 : IntKind.u16.wrap ((m.rd s a).1 * 256 + (m.rd (m.rd s a).2 ((a + 1) % 65536)).1) = (m.rd s a).1 * 256 + (m.rd (m.rd s a).2 ((a + 1) % 65536)).1 := by rw [u16w]; omega
  clear hI R b1 b2
  unfold C.Mem.rdw
  have hw : IntKind.u16.wrap (a + 1) = (a + 1) % 65536 := IntKind.wrap_u16 _
  go_enter Tryz.func25, Tryz.ntmps25
  go_wp2_with (go_at_call 34; first
        | (refine (HR.out.get _ (m.rd s a).2 ((a + 1) % 65536) (by omega) (by omega) HI1.out).mono ?_; rintro e w2 ⟨rfl, hI2, hm2⟩)
        | (refine (HR.out.get _ s a ha ha' (HR.out.kept HI.out (stA (st0 _) _))).mono ?_; rintro e w1 ⟨rfl, hI1, hm1⟩; obtain ⟨hz1, hc1⟩ := HR.out.box HI.out hm1; have c0 := hc1 0; have c1 := hc1 1; have HI1 := hid hI1; clear hc1 hI1))
  go_ret
  exact ⟨rfl, hI2, (hm1.trans hm2).unbox hB⟩
set_option maxRecDepth 100000 in
set_option maxHeartbeats 1600000 in
theorem rput_any (R : QS m B bs I T) (a n : Int) (ha : 0 ≤ a) (ha' : a ≤ 65535) (hn : 0 ≤ n) (hn' : n ≤ 65535) (w : World) (s : σ) (hI : I w s) :
    Calls Tryz.prog 23 #[.agg #[gv bs, pv bs], .int .u16 a, .int .u16 n] w fun e w' => e = .returned (.tuple #[]) ∧ I w' (m.wrw s a n) ∧ Mv B (T s) (T (m.wrw s a n)) w w' := by
  have HI := hid hI
  have HR := hid R
  have hB := R.big hI
  clear hI R
  unfold C.Mem.wrw
  have hw : IntKind.u16.wrap (a + 1) = (a + 1) % 65536 := IntKind.wrap_u16 _
  have e1 : IntKind.u16.wrap (n.tdiv 256) = n / 256 := by rw [Int.tdiv_eq_ediv_of_nonneg hn, u16w]; omega
  have e2 : n / 256 % 256 = n / 256 := by omega
  have e3 : IntKind.u16.wrap (n.tmod 256) = n % 256 := by rw [Int.tmod_eq_emod_of_nonneg hn, u16w]; omega
  go_enter Tryz.func23, Tryz.ntmps23
  go_wp2_with (go_at_call 35; first
        | (refine (HR.out.put _ (m.wr s a (n / 256)) ((a + 1) % 65536) (n % 256) (by omega) (by omega) (by omega) (by omega) HI1.out).mono ?_; rintro e w2 ⟨rfl, hI2, hm2⟩)
        | (refine (HR.out.put _ s a (n / 256) ha ha' (by omega) (by omega) (HR.out.kept HI.out (stA (st0 _) _))).mono ?_; rintro e w1 ⟨rfl, hI1, hm1⟩; obtain ⟨hz1, hc1⟩ := HR.out.box HI.out hm1; have c0 := hc1 0; have c1 := hc1 1; have HI1 := hid hI1; clear hc1 hI1))
  go_end0
  exact ⟨rfl, hI2, (hm1.trans hm2).unbox hB⟩
/-- The processor's cells behind a call of what it comes to. -/
theorem QC.after {w : World} {p q : Nat} {x : C.St σ} (h : QC B bs I T w p q x) {w0 w1 : World} {T' : Nat → Prop} (hm : Mv B (T x.s) T' w0 w1) (e : w0.heap = w.heap) : (∀ i, w1.cell? ⟨p, i, none⟩ = w.cell? ⟨p, i, none⟩) ∧ (∀ i, w1.frozen? ⟨p, i, none⟩ = false) ∧ p < w1.heap.size := by
  have hb : w1.heap[p]? = w.heap[p]? := by rw [hm.block p (by rw [e]; exact h.lt) h.own, e]
  exact ⟨fun i => World.cell?_of_block (w := w) hb, fun i => Lib.frozen_of_heap (hb.trans h.blk) i, Nat.lt_of_lt_of_le (by rw [e]; exact h.lt) hm.size⟩
theorem QC.movedS (R : QS m B bs I T) {w : World} {p q : Nat} {x : C.St σ} (h : QC B bs I T w p q x) {w0 w1 : World} {s' : σ} (hI : I w1 s') (hm : Mv B (T x.s) (T s') w0 w1) (e : w0.heap = w.heap) : QC B bs I T w1 p q ⟨x.c, s', x.n⟩ := (h.same R e).moved hI hm
theorem QC.invS (R : QS m B bs I T) {w : World} {p q : Nat} {x : C.St σ} (h : QC B bs I T w p q x) {w' : World} (e : w'.heap = w.heap) : I w' x.s := (h.same R e).inv
set_option maxRecDepth 100000 in
set_option maxHeartbeats 1600000 in
theorem rpush_any (R : QS m B bs I T) (n : Int) (hn : 0 ≤ n) (hn' : n ≤ 65535) (w : World) (p q : Nat) (x : C.St σ) (hP : QC B bs I T w p q x) :
    Calls Tryz.prog 22 #[.int .u16 n, .pointer (some ⟨p, 0, none⟩), .pointer (some ⟨q, 0, none⟩)] w fun e w' => e = .returned (.tuple #[]) ∧ QC B bs I T w' p q (C.push m x n) ∧ PM B T p x.s (C.push m x n).s w w' := by
  have h7 := hP.reg 7 (by omega)
  have hlt := hP.lt
  have hltq := hP.ltq
  obtain ⟨m0, m1⟩ := hP.mem
  have ne1 := hP.ne
  have ne2 := Ne.symm ne1
  have hf := hP.frozen 7
  have hr := C.Cpu.r_bd hP.ok 7
  have hw := u16w (x.c.r 7 - 2)
  have HP := hid hP
  have HR := hid R
  have HP1 := hid (hP.putR R 7 (by omega) ((x.c.r 7 - 2) % 65536) (by omega) (by omega))
  clear hP R
  go_enter Tryz.func22, Tryz.ntmps22
  go_wp2_with (go_at_call 23; refine (rput_any HR.out _ _ (by omega) (by omega) hn hn' _ x.s HP1.out.inv).mono ?_; rintro e w1 ⟨rfl, hI1, hm1⟩)
  go_end0
  exact ⟨rfl, HP1.out.moved hI1 hm1, ((PM.refl B T p x.s w).set HP.out.big 7 _).moved hm1⟩
set_option maxRecDepth 100000 in
set_option maxHeartbeats 1600000 in
theorem rpop_any (R : QS m B bs I T) (w : World) (p q : Nat) (x : C.St σ) (hP : QC B bs I T w p q x) :
    Calls Tryz.prog 24 #[.pointer (some ⟨q, 0, none⟩), .pointer (some ⟨p, 0, none⟩)] w fun e w' => e = .returned (.int .u16 (C.popV m x)) ∧ QC B bs I T w' p q (C.pop m x) ∧ PM B T p x.s (C.pop m x).s w w' := by
  have h7 : w.cell? ⟨p, 7, none⟩ = some (.int .u16 (x.c.r 7)) := hP.reg 7 (by omega)
  have hlt := hP.lt
  have hltq := hP.ltq
  obtain ⟨m0, m1⟩ := hP.mem
  have ne1 := hP.ne
  have ne2 := Ne.symm ne1
  have hr := C.Cpu.r_bd hP.ok 7
  have hr1 := hr.1
  have hr2 := hr.2
  have hw := u16w (x.c.r 7 + 2)
  have HP := hid hP
  have HR := hid R
  clear hP R hr
  go_enter Tryz.func24, Tryz.ntmps24
  go_wp2_with (go_at_call 25; refine (rword_any HR.out (x.c.r 7) hr1 hr2 _ x.s HP.out.inv).mono ?_; rintro e w1 ⟨rfl, hI1, hm1⟩; obtain ⟨k1, f1, z1⟩ := HP.out.after hm1 rfl; have HP1 := hid (((HP.out.moved hI1 hm1).putR HR.out 7 (by omega) ((x.c.r 7 + 2) % 65536) (by omega) (by omega))))
  go_ret
  exact ⟨rfl, HP1.out, (((PM.refl B T p x.s w).moved hm1).set HP.out.big 7 _)⟩
end
def sgB (z n c v m : Bool) (k : Nat) : Bool := [z, n, c, v, m].getD k false
def sgV (k : Nat) : Int := [1, 2, 4, 8, 16].getD k 0
def sgN (z n c v m : Bool) : Nat → Int
  | 0 => 0
  | k + 1 => sgN z n c v m k + (if sgB z n c v m k then sgV k else 0)
theorem sgN_bd (z n c v m : Bool) (k : Nat) (hk : k < 5) : 0 ≤ sgN z n c v m k ∧ sgN z n c v m k ≤ 31 := by
  have h : k = 0 ∨ k = 1 ∨ k = 2 ∨ k = 3 ∨ k = 4 := by omega
  rcases h with rfl | rfl | rfl | rfl | rfl <;> cases z <;> cases n <;> cases c <;> cases v <;> cases m <;> decide
set_option maxRecDepth 100000 in
set_option maxHeartbeats 3200000 in
theorem rsign_of (a0 a1 a2 a3 a4 a5 a6 a7 PC : Int) (z n c v m w0 : Bool) (w : World) :
    Calls Tryz.prog 11 #[.agg #[.int .u16 a0, .int .u16 a1, .int .u16 a2, .int .u16 a3, .int .u16 a4, .int .u16 a5, .int .u16 a6, .int .u16 a7, .int .u16 PC, .bool z, .bool n, .bool c, .bool v, .bool m, .bool w0]] w fun e w' => e = .returned (.int .u16 (sgN z n c v m 5)) ∧ Below w.heap.size w w' := by
  go_enter Tryz.func11, Tryz.ntmps11
  go_wp2
  refine cutW (fun W => Below w.heap.size w W ∧ w.heap.size + 1 < W.heap.size ∧ ∀ j, W.cell? ⟨w.heap.size + 1, j, none⟩ = (#[.bool z, .int .u16 1, .bool n, .int .u16 2, .bool c, .int .u16 4, .bool v, .int .u16 8, .bool m, .int .u16 16] : Array Value)[j]?) ⟨stA (stA (st0 w) _) _, by simp, fun j => cell_new _ _ _ _ (by simp)⟩ ?_
  rintro W ⟨hbW, hzW, hcW⟩
  have HB := hid hbW
  have HC := hid hcW
  clear hbW hcW
  go_loopw [3, 23] (fun a i wr => ∃ k : Nat, k ≤ 5 ∧ a = .int .u16 (sgN z n c v m k) ∧ i = .int .i64 k ∧ Below W.heap.size W wr) (fun _ i _ => 5 - (intOf i).toNat)
  case atStart => exact ⟨0, by omega, rfl, rfl, Below.refl _ _⟩
  case round =>
    obtain ⟨k, hk, rfl, rfl, hb⟩ := hrel
    by_cases h5 : k < 5
    · have hbd := sgN_bd z n c v m k h5
      have hcell : ∀ j, wr.cell? ⟨w.heap.size + 1, j, none⟩ = (#[.bool z, .int .u16 1, .bool n, .int .u16 2, .bool c, .int .u16 4, .bool v, .int .u16 8, .bool m, .int .u16 16] : Array Value)[j]? := fun j => (hb.cell (p := ⟨w.heap.size + 1, j, none⟩) hzW).trans (HC.out j)
      have hzr := Nat.lt_of_lt_of_le hzW hb.size
      have HBr := hid hb
      clear hb
      have h : k = 0 ∨ k = 1 ∨ k = 2 ∨ k = 3 ∨ k = 4 := by omega
      rcases h with rfl | rfl | rfl | rfl | rfl
      · have c0 : wr.cell? ⟨w.heap.size + 1, 0, none⟩ = some (.bool z) := hcell 0
        have c1 : wr.cell? ⟨w.heap.size + 1, 1, none⟩ = some (.int .u16 1) := hcell 1
        clear hcell
        cases z
        all_goals
          go_wp2
          exact ⟨⟨1, by omega, by simp [sgN, sgB, sgV], rfl, stA HBr.out _⟩, by simp [intOf]⟩
      · have c0 : wr.cell? ⟨w.heap.size + 1, 2, none⟩ = some (.bool n) := hcell 2
        have c1 : wr.cell? ⟨w.heap.size + 1, 3, none⟩ = some (.int .u16 2) := hcell 3
        clear hcell
        cases n
        all_goals
          go_wp2
          exact ⟨⟨2, by omega, by simp [sgN, sgB, sgV], rfl, stA HBr.out _⟩, by simp [intOf]⟩
      · have c0 : wr.cell? ⟨w.heap.size + 1, 4, none⟩ = some (.bool c) := hcell 4
        have c1 : wr.cell? ⟨w.heap.size + 1, 5, none⟩ = some (.int .u16 4) := hcell 5
        clear hcell
        cases c
        all_goals
          go_wp2
          exact ⟨⟨3, by omega, by simp [sgN, sgB, sgV], rfl, stA HBr.out _⟩, by simp [intOf]⟩
      · have c0 : wr.cell? ⟨w.heap.size + 1, 6, none⟩ = some (.bool v) := hcell 6
        have c1 : wr.cell? ⟨w.heap.size + 1, 7, none⟩ = some (.int .u16 8) := hcell 7
        clear hcell
        cases v
        all_goals
          go_wp2
          exact ⟨⟨4, by omega, by simp [sgN, sgB, sgV], rfl, stA HBr.out _⟩, by simp [intOf]⟩
      · have c0 : wr.cell? ⟨w.heap.size + 1, 8, none⟩ = some (.bool m) := hcell 8
        have c1 : wr.cell? ⟨w.heap.size + 1, 9, none⟩ = some (.int .u16 16) := hcell 9
        clear hcell
        cases m
        all_goals
          go_wp2
          exact ⟨⟨5, by omega, by simp [sgN, sgB, sgV], rfl, stA HBr.out _⟩, by simp [intOf]⟩
    · obtain rfl : k = 5 := by omega
      have HBr := hid hb
      clear hb
      go_wp2
      go_ret
      exact ⟨rfl, stp HB.out HBr.out⟩
theorem sgN_sign (c : C.Cpu) : sgN c.Z c.N c.C c.V c.May 5 = C.sign c := by
  unfold C.sign
  simp [sgN, sgB, sgV]
theorem rsign_any (c : C.Cpu) (w : World) :
    Calls Tryz.prog 11 #[cpuV c] w fun e w' => e = .returned (.int .u16 (C.sign c)) ∧ Below w.heap.size w w' := by
  rw [← sgN_sign]
  exact rsign_of _ _ _ _ _ _ _ _ _ _ _ _ _ _ _ w
section
variable {σ : Type} {m : C.Mem σ} {B bs : Nat} {I : World → σ → Prop} {T : σ → Nat → Prop}
/-- The box that holds push. -/
abbrev pushV (p q : Nat) : Value := fv 22 #[.pointer (some ⟨p, 0, none⟩), .pointer (some ⟨q, 0, none⟩)]
theorem PM.block {w w' : World} {s s' : σ} {p : Nat} (h : PM B T p s s' w w') {k : Nat} (hk : k < w.heap.size) (hp : k ≠ p) (ht : ¬ T s k) : w'.heap[k]? = w.heap[k]? := Mv.block h k hk (fun e => e.elim hp ht)
theorem PM.out {w w' : World} {s s' : σ} {p : Nat} (h : PM B T p s s' w w') {k : Nat} (hk : k < w.heap.size) (ht : ¬ T s k) (hp : k ≠ p) : ¬ T s' k := fun e => by
  rcases Mv.fresh h k (Or.inr e) with (x | x) | x
  · exact hp x
  · exact ht x
  · omega
set_option maxRecDepth 100000 in
set_option maxHeartbeats 3200000 in
theorem rleave_any (R : QS m B bs I T) (a : Int) (ha : 0 ≤ a) (ha' : a ≤ 65535) (w : World) (p q b : Nat) (x : C.St σ) (hP : QC B bs I T w p q x) (hb : w.cell? ⟨b, 0, none⟩ = some (pushV p q)) (hbp : b ≠ p) (hbT : ¬ T x.s b) :
    Calls Tryz.prog 26 #[.int .u16 a, .pointer (some ⟨b, 0, none⟩), .pointer (some ⟨p, 0, none⟩), .pointer (some ⟨q, 0, none⟩)] w fun e w' => e = .returned (.tuple #[]) ∧ QC B bs I T w' p q (C.leave m x a) ∧ PM B T p x.s (C.leave m x a).s w w' := by
  obtain ⟨c8, _⟩ := hP.cells
  have hlt := hP.lt
  have hpc := hP.ok.2.2
  have hbl := World.block_lt_of_cell? w _ hb
  have HP := hid hP
  have HR := hid R
  clear hP R
  go_enter Tryz.func26, Tryz.ntmps26
  go_wp2_with (go_at_call 22; refine (rpush_any HR.out _ hpc.1 hpc.2 _ _ _ _ HP.out).mono ?_; rintro e w1 ⟨rfl, hQ1, hm1⟩)
  have hb1 : w1.cell? ⟨b, 0, none⟩ = some (pushV p q) := (PM.cell hm1 hbl hbp hbT 0).trans hb
  have hbT1 : Hid (¬ T (C.push m x x.c.PC).s b) := hid (PM.out hm1 hbl hbT hbp)
  have hbl1 : b < w1.heap.size := Nat.lt_of_lt_of_le hbl (Mv.size hm1)
  have HM1 := hid hm1
  have HQ1 := hid hQ1
  clear hm1 hQ1 hb c8 hpc hlt hbT hbl
  generalize hy : C.push m x x.c.PC = y at HQ1 HM1 hbT1
  have HY := hid hy
  clear hy
  obtain ⟨r0, r1, r2, r3, r4, r5, r6, r7⟩ := HQ1.out.regs
  obtain ⟨r8, r9, r10, r11, r12, r13, r14⟩ := HQ1.out.cells
  have hz1 := HQ1.out.lt
  have hB0 : B ≤ w1.heap.size := HQ1.out.hB HR.out
  have hBB : B ≤ w1.drew.heap.size := hB0
  clear hB0
  have hsg := C.sign_bd y.c
  have hsg2 : 0 ≤ C.sign y.c ∧ C.sign y.c ≤ 65535 := by omega
  clear hsg
  go_region_with (first
    | (go_at_call 11; refine (rsign_any y.c _).mono ?_; rintro e w2 ⟨rfl, hb2⟩; have hQ2 := hid ((HQ1.out.same HR.out (w' := w1.drew) rfl).kept HR.out hb2); have hc2 : w2.cell? ⟨b, 0, none⟩ = some (pushV p q) := (hb2.cell (p := ⟨b, 0, none⟩) hbl1).trans hb1)
    | (go_at_call 22; refine (rpush_any HR.out _ hsg2.1 hsg2.2 _ _ _ _ hQ2.out).mono ?_; rintro e w3 ⟨rfl, hQ3, hm3⟩))
  all_goals
    have HQ3 := hid hQ3
    have HM3 := hid (HM1.out.drew.trans (Mv.trans (Mv.of_below (T := fun k => k = p ∨ T y.s k) hBB hb2) hm3))
    have hz3 := hQ3.lt
    have hzq3 := hQ3.ltq
    have f3 := hQ3.frozen
    obtain ⟨_, _, _, _, _, s13, s14⟩ := hQ3.cells
    clear hQ3 hm3 hb2 hQ2 hc2 r0 r1 r2 r3 r4 r5 r6 r7 r8 r9 r10 r11 r12 r13 r14 hb1
    generalize hzz : C.push m y (C.sign y.c) = z at *
    have HZ := hid hzz
    clear hzz
    have HQ4 := hid ((HQ3.out.putMay HR.out false).putWaits HR.out false)
    have HM4 := hid ((HM3.out.set HQ3.out.big 13 (.bool false)).set HQ3.out.big 14 (.bool false))
    obtain ⟨m0, m1⟩ := HQ3.out.mem
    have ne1 := HQ3.out.ne
    have ne2 := Ne.symm ne1
    go_wp2_with (go_at_call 25; refine (rword_any HR.out a ha ha' _ z.s HQ4.out.inv).mono ?_; rintro e w5 ⟨rfl, hI5, hm5⟩; obtain ⟨k5, f5, z5⟩ := HQ4.out.after hm5 rfl; have HQ5 := hid (HQ4.out.moved hI5 hm5); obtain ⟨t8, _⟩ := HQ5.out.cells; have HQ6 := hid (HQ5.out.putPC HR.out _ (HR.out.word z.s a).1 (HR.out.word z.s a).2); clear k5)
    go_end0
    have hy := HY.out
    have hz := HZ.out
    subst hy
    subst hz
    exact ⟨rfl, HQ6.out, (HM4.out.moved hm5).set HQ3.out.big 8 _⟩
end
section
variable {σ : Type} {m : C.Mem σ} {B bs : Nat} {I : World → σ → Prop} {T : σ → Nat → Prop}
set_option maxRecDepth 100000 in
set_option maxHeartbeats 1600000 in
theorem rset_any (R : QS m B bs I T) (n : Int) (hn : 0 ≤ n) (hn' : n ≤ 65535) (d : Nat) (hd : d < 8) (w : World) (p q bo : Nat) (x : C.St σ) (hP : QC B bs I T w p q x) (ho : w.cell? ⟨bo, 1, none⟩ = some (.int .i64 d)) :
    Calls Tryz.prog 29 #[.int .u16 n, .pointer (some ⟨p, 0, none⟩), .pointer (some ⟨bo, 0, none⟩)] w fun e w' => e = .returned (.tuple #[]) ∧ QC B bs I T w' p q ⟨x.c.set d n, x.s, x.n⟩ ∧ PM B T p x.s x.s w w' := by
  have hd1 : (d : Int) < 8 := by omega
  have hd0 : (0 : Int) ≤ d := by omega
  have hr := hP.reg d hd
  have hlt := hP.lt
  have hf := hP.frozen d
  have hbl := World.block_lt_of_cell? w _ ho
  have HP := hid hP
  have HP1 := hid (hP.putR R d hd n hn hn')
  clear hP R
  go_enter Tryz.func29, Tryz.ntmps29
  go_wp2
  go_end0
  exact ⟨rfl, HP1.out, (PM.refl B T p x.s w).set HP.out.big d _⟩
set_option maxRecDepth 100000 in
set_option maxHeartbeats 1600000 in
theorem rsigns_any (R : QS m B bs I T) (n : Int) (hn : 0 ≤ n) (hn' : n ≤ 65535) (ca ov : Bool) (w : World) (p q : Nat) (x : C.St σ) (hP : QC B bs I T w p q x) :
    Calls Tryz.prog 30 #[.int .u16 n, .bool ca, .bool ov, .pointer (some ⟨p, 0, none⟩)] w fun e w' => e = .returned (.tuple #[]) ∧ QC B bs I T w' p q (C.signs x n ca ov) ∧ PM B T p x.s x.s w w' := by
  obtain ⟨c8, c9, c10, c11, c12, c13, c14⟩ := hP.cells
  have hlt := hP.lt
  have hf := hP.frozen
  have HP := hid hP
  have HR := hid R
  clear hP R
  go_enter Tryz.func30, Tryz.ntmps30
  go_wp2
  go_end0
  exact ⟨rfl, (((HP.out.putZ HR.out _).putN HR.out _).putC HR.out _).putV HR.out _, ((((PM.refl B T p x.s w).set HP.out.big 9 _).set HP.out.big 10 _).set HP.out.big 11 _).set HP.out.big 12 _⟩
end
/-- A processor's cells, written out. -/
abbrev cpuA (c : C.Cpu) : Array Value := #[.int .u16 (c.r 0), .int .u16 (c.r 1), .int .u16 (c.r 2), .int .u16 (c.r 3), .int .u16 (c.r 4), .int .u16 (c.r 5), .int .u16 (c.r 6), .int .u16 (c.r 7), .int .u16 c.PC, .bool c.Z, .bool c.N, .bool c.C, .bool c.V, .bool c.May, .bool c.Waits]
abbrev cpuZ : Array Value := #[.int .u16 0, .int .u16 0, .int .u16 0, .int .u16 0, .int .u16 0, .int .u16 0, .int .u16 0, .int .u16 0, .int .u16 0, .bool false, .bool false, .bool false, .bool false, .bool false, .bool false]
theorem rnew_at (W : World) (o : Obj) (b : Nat) (h : b = W.heap.size) : (W.alloc o).heap[b]? = some o := by subst h; exact heap_alloc_new W o
section
variable {σ : Type} {m : C.Mem σ} {B bs : Nat} {I : World → σ → Prop} {T : σ → Nat → Prop}
/-- StepOf's boxes: the processor's, its memory's, the answer's, push's; w is where it began. -/
structure SW (B bs : Nat) (I : World → σ → Prop) (T : σ → Nat → Prop) (w : World) (s0 : σ) (W : World) (x : C.St σ) : Prop where
  qc : QC B bs I T W w.heap.size (w.heap.size + 1) x
  mv : Mv B (T s0) (T x.s) w W
  push : W.heap[w.heap.size + 3]? = some (.cells #[pushV w.heap.size (w.heap.size + 1)] 60 (0, 0))
  nopush : ¬ T x.s (w.heap.size + 3)
  res : ∃ cs, cs.size = 15 ∧ W.heap[w.heap.size + 2]? = some (.cells cs 25 (0, 0))
  nores : ¬ T x.s (w.heap.size + 2)
theorem SW.start (R : QS m B bs I T) (c : C.Cpu) (hc : c.ok) (w : World) (s : σ) (hI : I w s) (n : Int) :
    SW B bs I T w s ((((w.alloc (.cells (cpuA c) 25)).alloc (.cells #[gv bs, pv bs] 42)).alloc (.cells cpuZ 25)).alloc (.cells #[pushV w.heap.size (w.heap.size + 1)] 60)) ⟨c, s, n⟩ := by
  have hB := R.big hI
  have hb : Below w.heap.size w ((((w.alloc (.cells (cpuA c) 25)).alloc (.cells #[gv bs, pv bs] 42)).alloc (.cells cpuZ 25)).alloc (.cells #[pushV w.heap.size (w.heap.size + 1)] 60)) := stA (stA (stA (stA (st0 w) _) _) _) _
  have no : ∀ k, w.heap.size ≤ k → ¬ T s k := fun k hk => R.out hI hk
  refine ⟨⟨R.kept hI hb, no _ (Nat.le_refl _), no _ (by omega), by omega, hB, by omega, ?_, ?_, hc⟩, Mv.of_below hB hb, ?_, no _ (by omega), ⟨cpuZ, rfl, ?_⟩, no _ (by omega)⟩
  · rw [qcells_of hc.1]
    exact (heap_alloc_old _ _ (by simp <;> omega)).trans ((heap_alloc_old _ _ (by simp <;> omega)).trans ((heap_alloc_old _ _ (by simp)).trans (heap_alloc_new w _)))
  · exact (heap_alloc_old _ _ (by simp <;> omega)).trans ((heap_alloc_old _ _ (by simp)).trans (rnew_at _ _ _ (by simp)))
  · exact rnew_at _ _ _ (by simp)
  · exact (heap_alloc_old _ _ (by simp)).trans (rnew_at _ _ _ (by simp))
end
section
variable {σ : Type} {m : C.Mem σ} {B bs : Nat} {I : World → σ → Prop} {T : σ → Nat → Prop}
theorem SW.there {w W : World} {s0 : σ} {x : C.St σ} (h : SW B bs I T w s0 W x) : W.there (w.heap.size + 2) 0 15 := by
  obtain ⟨cs, hs, hr⟩ := h.res
  intro j hj
  refine ⟨?_, Lib.frozen_of_heap hr _⟩
  rw [Lib.cell_of_heap hr, Array.getElem?_eq_getElem (by omega)]
  rfl
/-- The answer's box is written. -/
theorem SW.fin (R : QS m B bs I T) {w W : World} {s0 : σ} {x : C.St σ} (h : SW B bs I T w s0 W x) (hB : B ≤ w.heap.size) (L : List Value) (hL : L.length = 15) :
    I (W.setCells (w.heap.size + 2) 0 L) x.s ∧ Mv B (T s0) (T x.s) w (W.setCells (w.heap.size + 2) 0 L) ∧ (W.setCells (w.heap.size + 2) 0 L).rangeAt (w.heap.size + 2) 0 L := by
  have hs := setCells_size (w.heap.size + 2) L 0 W
  have hh := setCells_heap (w.heap.size + 2) L 0 W
  have hb := below_setCells (n := B) (a := w) (b := w.heap.size + 2) (by omega) L 0 W h.mv.below
  have hr := World.rangeAt_setCells_same W (w.heap.size + 2) 0 L (by rw [hL]; exact h.there)
  have hT := h.nores
  have hI := h.qc.inv
  have hm := h.mv
  generalize W.setCells (w.heap.size + 2) 0 L = X at *
  exact ⟨R.keep (w' := X) hI (Nat.le_of_eq hs.symm) (fun k hk => hh k (fun e => hT (e ▸ hk))), ⟨hb, fun k hk ht => (hh k (by omega)).trans (hm.block k hk ht), hm.fresh⟩, hr⟩
set_option maxRecDepth 100000 in
set_option maxHeartbeats 3200000 in
theorem rstep_waits0 (R : QS m B bs I T) (c : C.Cpu) (hc : c.ok) (w : World) (s : σ) (hI : I w s) (hw : c.Waits = true) :
    Calls Tryz.prog 13 #[cpuV c, .agg #[gv bs, pv bs], .bool false] w fun e w' => e = .returned (.tuple #[cpuV c, .int .i64 1]) ∧ I w' s ∧ Mv B (T s) (T s) w w' := by
  have hB := R.big hI
  have HI := hid hI
  have HR := hid R
  clear hI R
  go_enter Tryz.func13, Tryz.ntmps13
  go_wp2
  refine bodyPost_ret (v := .tuple #[cpuV c, .int .i64 1]) (by simp [results, Tryz.results13, go_sem, hw]) rfl ⟨rfl, HR.out.kept HI.out (stA (stA (stA (stA (st0 w) _) _) _) _), Mv.of_below hB (stA (stA (stA (stA (st0 w) _) _) _) _)⟩
/-! ### what a step leaves of the boxes -/
variable {w W W' : World} {s0 : σ} {x x' : C.St σ}
theorem SW.kept (R : QS m B bs I T) (h : SW B bs I T w s0 W x) (hb : Below W.heap.size W W') : SW B bs I T w s0 W' x := by
  have hB := h.qc.hB R
  obtain ⟨cs, hs, hr⟩ := h.res
  have l1 := (Array.getElem?_eq_some_iff.1 h.push).1
  have l2 := (Array.getElem?_eq_some_iff.1 hr).1
  exact ⟨h.qc.kept R hb, h.mv.trans (Mv.of_below hB hb), (hb.block _ l1).trans h.push, h.nopush, ⟨cs, hs, (hb.block _ l2).trans hr⟩, h.nores⟩
theorem SW.moved (h : SW B bs I T w s0 W x) {s' : σ} (hI : I W' s') (hm : Mv B (T x.s) (T s') W W') : SW B bs I T w s0 W' ⟨x.c, s', x.n⟩ := by
  obtain ⟨cs, hs, hr⟩ := h.res
  have l1 := (Array.getElem?_eq_some_iff.1 h.push).1
  have l2 := (Array.getElem?_eq_some_iff.1 hr).1
  exact ⟨h.qc.moved hI hm, h.mv.trans hm, (hm.block _ l1 h.nopush).trans h.push, fun e => (hm.fresh _ e).elim h.nopush (fun y => by omega), ⟨cs, hs, (hm.block _ l2 h.nores).trans hr⟩, fun e => (hm.fresh _ e).elim h.nores (fun y => by omega)⟩
theorem SW.step (h : SW B bs I T w s0 W x) (hq : QC B bs I T W' w.heap.size (w.heap.size + 1) x') (hm : PM B T w.heap.size x.s x'.s W W') : SW B bs I T w s0 W' x' := by
  obtain ⟨cs, hs, hr⟩ := h.res
  have l1 := (Array.getElem?_eq_some_iff.1 h.push).1
  have l2 := (Array.getElem?_eq_some_iff.1 hr).1
  have hl := h.qc.lt
  have ff : ∀ k, k ≠ w.heap.size → k < W.heap.size → ¬ T x.s k → ¬ T x'.s k := fun k hp hk ht e => by
    rcases Mv.fresh hm k (Or.inr e) with (y | y) | y
    · exact hp y
    · exact ht y
    · omega
  refine ⟨hq, ⟨h.mv.below.trans hm.below, fun k hk ht => ?_, fun k hk => ?_⟩, (PM.block hm l1 (by omega) h.nopush).trans h.push, ff _ (by omega) l1 h.nopush, ⟨cs, hs, (PM.block hm l2 (by omega) h.nores).trans hr⟩, ff _ (by omega) l2 h.nores⟩
  · have h1 : k < W.heap.size := Nat.lt_of_lt_of_le hk h.mv.size
    rw [PM.block hm h1 (by omega) (fun e => (h.mv.fresh k e).elim ht (fun y => by omega)), h.mv.block k hk ht]
  · rcases Mv.fresh hm k (Or.inr hk) with (y | y) | y
    · exact Or.inr (by omega)
    · exact h.mv.fresh k y
    · exact Or.inr (Nat.le_trans h.mv.size y)
theorem SW.same (R : QS m B bs I T) (h : SW B bs I T w s0 W x) (e : W'.heap = W.heap) (he : Below W.heap.size W W') : SW B bs I T w s0 W' x := h.kept R he
theorem SW.cyc (h : SW B bs I T w s0 W x) (n : Int) : SW B bs I T w s0 W ⟨x.c, x.s, n⟩ := ⟨h.qc.cyc n, h.mv, h.push, h.nopush, h.res, h.nores⟩
/-- A store into the processor. -/
theorem SW.putPC (R : QS m B bs I T) (h : SW B bs I T w s0 W x) (v : Int) (h0 : 0 ≤ v) (h1 : v ≤ 65535) : SW B bs I T w s0 (W.setCell ⟨w.heap.size, 8, none⟩ (.int .u16 v)) ⟨{ x.c with PC := v }, x.s, x.n⟩ :=
  h.step (h.qc.putPC R v h0 h1) ((PM.refl B T _ x.s W).set h.qc.big 8 _)
theorem SW.putMay (R : QS m B bs I T) (h : SW B bs I T w s0 W x) (v : Bool) : SW B bs I T w s0 (W.setCell ⟨w.heap.size, 13, none⟩ (.bool v)) ⟨{ x.c with May := v }, x.s, x.n⟩ :=
  h.step (h.qc.putMay R v) ((PM.refl B T _ x.s W).set h.qc.big 13 _)
theorem SW.putWaits (R : QS m B bs I T) (h : SW B bs I T w s0 W x) (v : Bool) : SW B bs I T w s0 (W.setCell ⟨w.heap.size, 14, none⟩ (.bool v)) ⟨{ x.c with Waits := v }, x.s, x.n⟩ :=
  h.step (h.qc.putWaits R v) ((PM.refl B T _ x.s W).set h.qc.big 14 _)
/-- A store into a box of one's own. -/
theorem SW.box (R : QS m B bs I T) (h : SW B bs I T w s0 W x) {b o : Nat} (hb : w.heap.size + 4 ≤ b) (hT : ¬ T x.s b) (v : Value) : SW B bs I T w s0 (W.setCell ⟨b, o, none⟩ v) x := by
  obtain ⟨cs, hs, hr⟩ := h.res
  have ne : ∀ k, k ≠ b → (W.setCell ⟨b, o, none⟩ v).heap[k]? = W.heap[k]? := fun k hk => Below.heap_setCell _ _ _ _ hk
  have hq := h.qc
  have hB := hq.big
  refine ⟨⟨R.keep hq.inv (by rw [setCell_size]; exact Nat.le_refl _) (fun k hk => ne k (fun e => hT (e ▸ hk))), hq.own, hq.ownq, hq.ne, hq.big, hq.bigq, (ne _ (by omega)).trans hq.blk, (ne _ (by omega)).trans hq.blkq, hq.ok⟩, h.mv.setCell (p := ⟨b, o, none⟩) (show B ≤ b by omega) (Or.inr (show w.heap.size ≤ b by omega)) v, (ne _ (by omega)).trans h.push, h.nopush, ⟨cs, hs, (ne _ (by omega)).trans hr⟩, h.nores⟩
end
section
variable {σ : Type} {m : C.Mem σ} {B bs : Nat} {I : World → σ → Prop} {T : σ → Nat → Prop}
/-- What a step's call leaves. -/
def RP (B : Nat) (I : World → σ → Prop) (T : σ → Nat → Prop) (w : World) (s : σ) (z : C.St σ) (e : Ending) (w' : World) : Prop := e = .returned (.tuple #[cpuV z.c, .int .i64 z.n]) ∧ I w' z.s ∧ Mv B (T s) (T z.s) w w'
/-- StepOf's boxes behind its look-up. -/
structure KW (B bs : Nat) (I : World → σ → Prop) (T : σ → Nat → Prop) (w : World) (s0 : σ) (bo kb k : Nat) (d e n v : Int) (W : World) (x : C.St σ) : Prop where
  sw : SW B bs I T w s0 W x
  ob : W.heap[bo]? = some (.cells #[.int .i64 k, .int .i64 d, .int .i64 e, .int .i64 n, .int .i64 v] 64 (0, 0))
  kd : W.heap[kb]? = some (.cells #[.string (K.name k), .string (K.has k), .int .i64 (K.cyc k)] 68 (0, 0))
  lo : w.heap.size + 4 ≤ bo
  lk : w.heap.size + 4 ≤ kb
  no : ¬ T x.s bo
  nk : ¬ T x.s kb
variable {w W W' : World} {s0 : σ} {x x' : C.St σ} {bo kb k : Nat} {d e n v : Int}
theorem KW.ltO (h : KW B bs I T w s0 bo kb k d e n v W x) : bo < W.heap.size := (Array.getElem?_eq_some_iff.1 h.ob).1
theorem KW.ltK (h : KW B bs I T w s0 bo kb k d e n v W x) : kb < W.heap.size := (Array.getElem?_eq_some_iff.1 h.kd).1
theorem KW.cells (h : KW B bs I T w s0 bo kb k d e n v W x) : W.cell? ⟨bo, 0, none⟩ = some (.int .i64 k) ∧ W.cell? ⟨bo, 1, none⟩ = some (.int .i64 d) ∧ W.cell? ⟨bo, 2, none⟩ = some (.int .i64 e) ∧ W.cell? ⟨bo, 3, none⟩ = some (.int .i64 n) ∧ W.cell? ⟨bo, 4, none⟩ = some (.int .i64 v) ∧
    W.cell? ⟨kb, 0, none⟩ = some (.string (K.name k)) ∧ W.cell? ⟨kb, 1, none⟩ = some (.string (K.has k)) ∧ W.cell? ⟨kb, 2, none⟩ = some (.int .i64 (K.cyc k)) :=
  ⟨Lib.cell_of_heap h.ob 0, Lib.cell_of_heap h.ob 1, Lib.cell_of_heap h.ob 2, Lib.cell_of_heap h.ob 3, Lib.cell_of_heap h.ob 4, Lib.cell_of_heap h.kd 0, Lib.cell_of_heap h.kd 1, Lib.cell_of_heap h.kd 2⟩
theorem KW.kept (R : QS m B bs I T) (h : KW B bs I T w s0 bo kb k d e n v W x) (hb : Below W.heap.size W W') : KW B bs I T w s0 bo kb k d e n v W' x :=
  ⟨h.sw.kept R hb, (hb.block _ h.ltO).trans h.ob, (hb.block _ h.ltK).trans h.kd, h.lo, h.lk, h.no, h.nk⟩
theorem KW.moved (h : KW B bs I T w s0 bo kb k d e n v W x) {s' : σ} (hI : I W' s') (hm : Mv B (T x.s) (T s') W W') : KW B bs I T w s0 bo kb k d e n v W' ⟨x.c, s', x.n⟩ :=
  ⟨h.sw.moved hI hm, (hm.block _ h.ltO h.no).trans h.ob, (hm.block _ h.ltK h.nk).trans h.kd, h.lo, h.lk, fun y => (hm.fresh _ y).elim h.no (fun z => by have := h.ltO; omega), fun y => (hm.fresh _ y).elim h.nk (fun z => by have := h.ltK; omega)⟩
theorem KW.step (h : KW B bs I T w s0 bo kb k d e n v W x) (hq : QC B bs I T W' w.heap.size (w.heap.size + 1) x') (hm : PM B T w.heap.size x.s x'.s W W') : KW B bs I T w s0 bo kb k d e n v W' x' := by
  have l1 := h.lo
  have l2 := h.lk
  have z1 := h.ltO
  have z2 := h.ltK
  have ff : ∀ k, k ≠ w.heap.size → k < W.heap.size → ¬ T x.s k → ¬ T x'.s k := fun k hp hk ht e => by
    rcases Mv.fresh hm k (Or.inr e) with (y | y) | y
    · exact hp y
    · exact ht y
    · omega
  exact ⟨h.sw.step hq hm, (PM.block hm z1 (by omega) h.no).trans h.ob, (PM.block hm z2 (by omega) h.nk).trans h.kd, l1, l2, ff _ (by omega) z1 h.no, ff _ (by omega) z2 h.nk⟩
theorem KW.cyc (h : KW B bs I T w s0 bo kb k d e n v W x) (i : Int) : KW B bs I T w s0 bo kb k d e n v W ⟨x.c, x.s, i⟩ := ⟨h.sw.cyc i, h.ob, h.kd, h.lo, h.lk, h.no, h.nk⟩
theorem KW.out (R : QS m B bs I T) (h : SW B bs I T w s0 W x) {j : Nat} (hj : W.heap.size ≤ j) : ¬ T x.s j := R.out h.qc.inv hj
theorem SW.room (h : SW B bs I T w s0 W x) : w.heap.size + 4 ≤ W.heap.size := by have := (Array.getElem?_eq_some_iff.1 h.push).1; omega
/-- The kind is looked up, then boxed. -/
theorem KW.meetA (R : QS m B bs I T) (h : SW B bs I T w s0 W x) {w4 : World}
    (hb : Below (W.alloc (.cells #[.int .i64 k, .int .i64 d, .int .i64 e, .int .i64 n, .int .i64 v] 64)).drew.heap.size (W.alloc (.cells #[.int .i64 k, .int .i64 d, .int .i64 e, .int .i64 n, .int .i64 v] 64)).drew w4) :
    KW B bs I T w s0 W.heap.size w4.heap.size k d e n v (w4.alloc (.cells #[.string (K.name k), .string (K.has k), .int .i64 (K.cyc k)] 68)) x := by
  have hb' : Below W.heap.size W w4 := stp (stA (st0 W) _).drew hb
  have hb2 : Below W.heap.size W (w4.alloc (.cells #[.string (K.name k), .string (K.has k), .int .i64 (K.cyc k)] 68)) := stA hb' _
  have hr := h.room
  have hz : W.heap.size < w4.heap.size := Nat.lt_of_lt_of_le (by simp) hb.size
  refine ⟨h.kept R hb2, ?_, heap_alloc_new w4 _, hr, by omega, KW.out R h (Nat.le_refl _), KW.out R h (by omega)⟩
  exact (heap_alloc_old _ _ hz).trans ((hb.block W.heap.size (by simp)).trans (heap_alloc_new W _))
/-- The kind's box is made, then it is looked up. -/
theorem KW.meetB (R : QS m B bs I T) (h : SW B bs I T w s0 W x) {w4 : World} {z0 z1 z2 : Value}
    (hb : Below ((W.alloc (.cells #[.int .i64 k, .int .i64 d, .int .i64 e, .int .i64 n, .int .i64 v] 64)).alloc (.cells #[z0, z1, z2] 68)).drew.heap.size ((W.alloc (.cells #[.int .i64 k, .int .i64 d, .int .i64 e, .int .i64 n, .int .i64 v] 64)).alloc (.cells #[z0, z1, z2] 68)).drew w4) :
    KW B bs I T w s0 W.heap.size (W.heap.size + 1) k d e n v (((w4.setCell ⟨W.heap.size + 1, 0, none⟩ (.string (K.name k))).setCell ⟨W.heap.size + 1, 1, none⟩ (.string (K.has k))).setCell ⟨W.heap.size + 1, 2, none⟩ (.int .i64 (K.cyc k))) x := by
  have hb' : Below W.heap.size W w4 := stp (stA (stA (st0 W) _) _).drew hb
  have hr := h.room
  have hk : w4.heap[W.heap.size + 1]? = some (.cells #[z0, z1, z2] 68 (0, 0)) := (hb.block (W.heap.size + 1) (by simp)).trans (rnew_at _ _ _ (by simp))
  have ho : w4.heap[W.heap.size]? = some (.cells #[.int .i64 k, .int .i64 d, .int .i64 e, .int .i64 n, .int .i64 v] 64 (0, 0)) := (hb.block W.heap.size (by simp <;> omega)).trans ((heap_alloc_old _ _ (by simp)).trans (heap_alloc_new W _))
  have hT : ¬ T x.s (W.heap.size + 1) := KW.out R h (by omega)
  have h4 := h.kept R hb'
  have hs := ((h4.box R (b := W.heap.size + 1) (o := 0) (by omega) hT (.string (K.name k))).box R (b := W.heap.size + 1) (o := 1) (by omega) hT (.string (K.has k))).box R (b := W.heap.size + 1) (o := 2) (by omega) hT (.int .i64 (K.cyc k))
  refine ⟨hs, ?_, ?_, hr, by omega, KW.out R h (Nat.le_refl _), hT⟩
  · exact (Below.heap_setCell _ _ _ _ (by simp)).trans ((Below.heap_setCell _ _ _ _ (by simp)).trans ((Below.heap_setCell _ _ _ _ (by simp)).trans ho))
  · rw [setCell_blk (setCell_blk (setCell_blk hk _) _) _]
    rfl
/-- The same, where the order's box lies there already. -/
theorem KW.meetA2 (R : QS m B bs I T) (h : SW B bs I T w s0 W x) (ho : W.heap[bo]? = some (.cells #[.int .i64 k, .int .i64 d, .int .i64 e, .int .i64 n, .int .i64 v] 64 (0, 0))) (lo : w.heap.size + 4 ≤ bo) (no : ¬ T x.s bo) {w4 : World}
    (hb : Below W.drew.heap.size W.drew w4) :
    KW B bs I T w s0 bo w4.heap.size k d e n v (w4.alloc (.cells #[.string (K.name k), .string (K.has k), .int .i64 (K.cyc k)] 68)) x := by
  have hb' : Below W.heap.size W w4 := stp (st0 W).drew hb
  have hb2 : Below W.heap.size W (w4.alloc (.cells #[.string (K.name k), .string (K.has k), .int .i64 (K.cyc k)] 68)) := stA hb' _
  have hr := h.room
  have hz := hb'.size
  have hl := (Array.getElem?_eq_some_iff.1 ho).1
  exact ⟨h.kept R hb2, (hb2.block _ hl).trans ho, heap_alloc_new w4 _, lo, by omega, no, KW.out R h hz⟩
theorem KW.meetB2 (R : QS m B bs I T) (h : SW B bs I T w s0 W x) (ho : W.heap[bo]? = some (.cells #[.int .i64 k, .int .i64 d, .int .i64 e, .int .i64 n, .int .i64 v] 64 (0, 0))) (lo : w.heap.size + 4 ≤ bo) (no : ¬ T x.s bo) {w4 : World} {z0 z1 z2 : Value} {kb : Nat} (hkb : kb = W.heap.size)
    (hb : Below (W.alloc (.cells #[z0, z1, z2] 68)).drew.heap.size (W.alloc (.cells #[z0, z1, z2] 68)).drew w4) :
    KW B bs I T w s0 bo kb k d e n v (((w4.setCell ⟨kb, 0, none⟩ (.string (K.name k))).setCell ⟨kb, 1, none⟩ (.string (K.has k))).setCell ⟨kb, 2, none⟩ (.int .i64 (K.cyc k))) x := by
  subst hkb
  have hb' : Below W.heap.size W w4 := stp (stA (st0 W) _).drew hb
  have hr := h.room
  have hl := (Array.getElem?_eq_some_iff.1 ho).1
  have hk : w4.heap[W.heap.size]? = some (.cells #[z0, z1, z2] 68 (0, 0)) := (hb.block W.heap.size (by simp)).trans (heap_alloc_new W _)
  have hT : ¬ T x.s W.heap.size := KW.out R h (Nat.le_refl _)
  have hs := (((h.kept R hb').box R (b := W.heap.size) (o := 0) hr hT (.string (K.name k))).box R (b := W.heap.size) (o := 1) hr hT (.string (K.has k))).box R (b := W.heap.size) (o := 2) hr hT (.int .i64 (K.cyc k))
  have ne : bo ≠ W.heap.size := by omega
  refine ⟨hs, ?_, ?_, lo, hr, no, hT⟩
  · exact (Below.heap_setCell _ _ _ _ ne).trans ((Below.heap_setCell _ _ _ _ ne).trans ((Below.heap_setCell _ _ _ _ ne).trans ((hb'.block _ hl).trans ho)))
  · rw [setCell_blk (setCell_blk (setCell_blk hk _) _) _]
    rfl
theorem KW.meetA' (R : QS m B bs I T) (h : SW B bs I T w s0 W x) {w4 : World} {bo : Nat} (hbo : bo = W.heap.size)
    (hb : Below (W.alloc (.cells #[.int .i64 k, .int .i64 d, .int .i64 e, .int .i64 n, .int .i64 v] 64)).drew.heap.size (W.alloc (.cells #[.int .i64 k, .int .i64 d, .int .i64 e, .int .i64 n, .int .i64 v] 64)).drew w4) :
    KW B bs I T w s0 bo w4.heap.size k d e n v (w4.alloc (.cells #[.string (K.name k), .string (K.has k), .int .i64 (K.cyc k)] 68)) x := by
  subst hbo
  exact KW.meetA R h hb
theorem KW.meetB' (R : QS m B bs I T) (h : SW B bs I T w s0 W x) {w4 : World} {z0 z1 z2 : Value} {bo : Nat} (hbo : bo = W.heap.size)
    (hb : Below ((W.alloc (.cells #[.int .i64 k, .int .i64 d, .int .i64 e, .int .i64 n, .int .i64 v] 64)).alloc (.cells #[z0, z1, z2] 68)).drew.heap.size ((W.alloc (.cells #[.int .i64 k, .int .i64 d, .int .i64 e, .int .i64 n, .int .i64 v] 64)).alloc (.cells #[z0, z1, z2] 68)).drew w4) :
    KW B bs I T w s0 bo (bo + 1) k d e n v (((w4.setCell ⟨bo + 1, 0, none⟩ (.string (K.name k))).setCell ⟨bo + 1, 1, none⟩ (.string (K.has k))).setCell ⟨bo + 1, 2, none⟩ (.int .i64 (K.cyc k))) x := by
  subst hbo
  exact KW.meetB R h hb
end
/-- The code behind so many statements. -/
def cSec : Code → Code
  | .seq _ b => b
  | c => c
def cTl : Nat → Code → Code
  | 0, c => c
  | n + 1, c => cTl n (cSec c)
section
variable {σ : Type} {m : C.Mem σ} {B bs : Nat} {I : World → σ → Prop} {T : σ → Nat → Prop}
/-- What the code behind the look-up of an order's kind leaves, whatever the frame holds besides. -/
def Rest (B bs : Nat) (I : World → σ → Prop) (T : σ → Nat → Prop) (w : World) (s : σ) (k d e1 : Nat) (n v : Int) (x z : C.St σ) : Prop :=
  ∀ (bo kb : Nat) (wx : World) (u0 u1 u2 u5 u11 u13 u15 u16 u17 u18 u19 u20 u21 u22 u23 u24 u25 u26 u27 u28 u29 u30 u31 u32 u33 u34 u35 u36 u37 u38 u39 u40 u41 u42 u43 u44 u45 u46 u47 u48 u49 u50 u51 u52 u53 u54 u55 u56 u57 u58 u59 u60 u61 u62 u63 u64 u65 u66 u67 u68 u69 u70 u71 u72 u73 u74 u75 u76 u77 u78 u79 u80 u81 u82 u83 u84 u85 u86 u87 u88 u89 u90 u91 u92 u93 u94 u95 u96 u97 u98 u99 u100 u101 u102 u103 u104 u105 u106 u107 u108 u109 u110 u111 u112 u113 u114 u115 u116 u117 u118 u119 u120 u121 u122 u123 u124 u125 u126 u127 u128 u129 u130 u131 u132 u133 u134 u135 u136 u137 u138 u139 u140 u141 u142 u143 u144 u145 u146 u147 u148 u149 u150 u151 u152 u153 u154 u155 u156 u157 u158 u159 u160 u161 u162 u163 u164 u165 u166 u167 u168 u169 u170 u171 u172 u173 u174 u175 u176 u177 u178 u179 u180 u181 u182 u183 u184 u185 u186 u187 u188 u189 u190 u191 u192 u193 u194 u195 u196 u197 u198 u199 u200 u201 u202 u203 u204 u205 u206 u207 u208 u209 u210 u211 u212 u213 u214 u215 u216 u217 u218 u219 u220 u221 u222 u223 u224 u225 u226 u227 u228 u229 u230 u231 u232 u233 u234 u235 u236 u237 u238 u239 u240 u241 u242 u243 u244 u245 u246 u247 u248 u249 u250 u251 u252 u253 u254 u255 u256 u257 u258 u259 u260 u261 u262 u263 u264 u265 u266 u267 u268 u269 u270 u271 u272 u273 u274 u275 u276 u277 u278 u279 u280 u281 u282 u283 u284 u285 u286 u287 u288 u289 u290 u291 u292 u293 u294 u295 u296 u297 u298 u299 u300 : Value), KW B bs I T w s bo kb k d e1 n v wx x → Code.wp Tryz.prog (cTl 11 (Tryz.f13.body.getD .skip)) (bodyPost Tryz.prog Tryz.f13 (RP B I T w s z)) { tmps := #[u0, u1, u2, .pointer (some ⟨w.heap.size, 0, none⟩), .pointer (some ⟨w.heap.size + 1, 0, none⟩), u5, .pointer (some ⟨w.heap.size + 1 + 1, 0, none⟩), .int .i64 0, .pointer (some ⟨w.heap.size + 1 + 1 + 1, 0, none⟩), .func (.func 24) #[] #[.pointer (some ⟨w.heap.size + 1, 0, none⟩), .pointer (some ⟨w.heap.size, 0, none⟩)], .func (.func 26) #[] #[.pointer (some ⟨w.heap.size + 1 + 1 + 1, 0, none⟩), .pointer (some ⟨w.heap.size, 0, none⟩), .pointer (some ⟨w.heap.size + 1, 0, none⟩)], u11, .pointer (some ⟨bo, 0, none⟩), u13, .pointer (some ⟨kb, 0, none⟩), u15, u16, u17, u18, u19, u20, u21, u22, u23, u24, u25, u26, u27, u28, u29, u30, u31, u32, u33, u34, u35, u36, u37, u38, u39, u40, u41, u42, u43, u44, u45, u46, u47, u48, u49, u50, u51, u52, u53, u54, u55, u56, u57, u58, u59, u60, u61, u62, u63, u64, u65, u66, u67, u68, u69, u70, u71, u72, u73, u74, u75, u76, u77, u78, u79, u80, u81, u82, u83, u84, u85, u86, u87, u88, u89, u90, u91, u92, u93, u94, u95, u96, u97, u98, u99, u100, u101, u102, u103, u104, u105, u106, u107, u108, u109, u110, u111, u112, u113, u114, u115, u116, u117, u118, u119, u120, u121, u122, u123, u124, u125, u126, u127, u128, u129, u130, u131, u132, u133, u134, u135, u136, u137, u138, u139, u140, u141, u142, u143, u144, u145, u146, u147, u148, u149, u150, u151, u152, u153, u154, u155, u156, u157, u158, u159, u160, u161, u162, u163, u164, u165, u166, u167, u168, u169, u170, u171, u172, u173, u174, u175, u176, u177, u178, u179, u180, u181, u182, u183, u184, u185, u186, u187, u188, u189, u190, u191, u192, u193, u194, u195, u196, u197, u198, u199, u200, u201, u202, u203, u204, u205, u206, u207, u208, u209, u210, u211, u212, u213, u214, u215, u216, u217, u218, u219, u220, u221, u222, u223, u224, u225, u226, u227, u228, u229, u230, u231, u232, u233, u234, u235, u236, u237, u238, u239, u240, u241, u242, u243, u244, u245, u246, u247, u248, u249, u250, u251, u252, u253, u254, u255, u256, u257, u258, u259, u260, u261, u262, u263, u264, u265, u266, u267, u268, u269, u270, u271, u272, u273, u274, u275, u276, u277, u278, u279, u280, u281, u282, u283, u284, u285, u286, u287, u288, u289, u290, u291, u292, u293, u294, u295, u296, u297, u298, u299, u300], defers := [] } wx
set_option maxRecDepth 100000 in
set_option maxHeartbeats 3200000 in
theorem rpre1_false (R : QS m B bs I T) (c : C.Cpu) (hc : c.ok) (w : World) (s s1 : σ) (a : Int) (hI : I w s) (hw : c.Waits = false)
    (h1 : ∀ W, I W s → Calls Tryz.prog 25 #[.agg #[gv bs, pv bs], .int .u16 c.PC] W fun e w' => e = .returned (.int .u16 a) ∧ I w' s1 ∧ Mv B (T s) (T s1) W w')
    (k d e1 : Nat) (n : Int) (hk : k < 32)
    (h2 : ∀ W, Facts W → Calls Tryz.prog 27 #[.int .u16 a, .int .u16 0] W fun e w' => e = .returned (.tuple #[.agg #[.int .i64 k, .int .i64 d, .int .i64 e1, .int .i64 n, .int .i64 0], .int .i64 1]) ∧ Below W.heap.size W w')
    (z : C.St σ) (HZ : Rest B bs I T w s k d e1 n 0 ⟨{ c with PC := (c.PC + 2) % 65536 }, s1, 0⟩ z) :
    Calls Tryz.prog 13 #[cpuV c, .agg #[gv bs, pv bs], .bool false] w (RP B I T w s z) := by
  have hB := R.big hI
  have hs0 := SW.start R c hc w s hI 0
  have hpc := hc.2.2
  have hw8 : IntKind.u16.wrap (c.PC + 2) = (c.PC + 2) % 65536 := u16w _
  simp only [cpuA] at hs0
  unfold cpuV
  generalize hcc : ({ c with PC := (c.PC + 2) % 65536 } : C.Cpu) = cc at HZ
  have HCC := hid hcc
  rw [hw] at hs0 ⊢
  have HS := hid hs0
  have HR := hid R
  have H1 := hid h1
  have H2 := hid h2
  have hki : (0 : Int) ≤ k := by omega
  have hki2 : (k : Int) < 32 := by omega
  clear hI R hs0 h1 h2 hw hcc
  go_enter Tryz.func13, Tryz.ntmps13
  go_upto_region 14 with (first
    | (go_at_call 25; refine (H1.out _ HS.out.qc.inv).mono ?_; rintro e w1 ⟨rfl, hI1, hm1⟩; have S1 := hid (HS.out.moved hI1 hm1); clear hI1 hm1)
    | (go_at_call 27; refine (H2.out _ (HR.out.facts S1.out.qc.inv)).mono ?_; rintro e w2 ⟨rfl, hb2⟩; have S2 := hid (S1.out.kept HR.out hb2); obtain ⟨c8, _⟩ := S2.out.qc.cells; have z2 := S2.out.qc.lt; have f2 := S2.out.qc.frozen; clear hb2))
  have S3 : Hid (SW B bs I T w s (w2.setCell ⟨w.heap.size, 8, none⟩ (.int .u16 ((c.PC + 2) % 65536))) ⟨cc, s1, 0⟩) := by
    have h := S2.out.putPC HR.out ((c.PC + 2) % 65536) (by omega) (by omega)
    rw [← HCC.out]
    exact h
  go_cut [14] (fun p wx => ∃ kb, p = .pointer (some ⟨kb, 0, none⟩) ∧ KW B bs I T w s w2.heap.size kb k d e1 n 0 wx ⟨cc, s1, 0⟩)
  case first =>
    have ne2 : w.heap.size ≠ w2.heap.size := Nat.ne_of_lt z2
    have ne3 := Ne.symm ne2
    have o0 : ((w2.setCell ⟨w.heap.size, 8, none⟩ (.int .u16 ((c.PC + 2) % 65536))).alloc (.cells #[.int .i64 k, .int .i64 d, .int .i64 e1, .int .i64 n, .int .i64 0] 64)).cell? ⟨w2.heap.size, 0, none⟩ = some (.int .i64 k) := cell_new _ _ _ _ (by simp)
    have hz2 : w2.heap.size < ((w2.setCell ⟨w.heap.size, 8, none⟩ (.int .u16 ((c.PC + 2) % 65536))).alloc (.cells #[.int .i64 k, .int .i64 d, .int .i64 e1, .int .i64 n, .int .i64 0] 64)).heap.size := by simp
    go_region_with (go_at_call 28; refine (kinds_of _ ?_).mono ?_; (first | exact HR.out.facts (HR.out.same (HR.out.kept S3.out.qc.inv (stA (st0 _) _)) rfl) | exact HR.out.facts (HR.out.same (HR.out.kept S3.out.qc.inv (stA (stA (st0 _) _) _)) rfl)); rintro e w4 ⟨g, cap, rfl, htb, hg1, hg2, hb4⟩; obtain ⟨t0, t1, t2⟩ := htb k hk; clear htb; obtain ⟨hcX, hfX⟩ := bcell hb4; have o4 : w4.cell? ⟨w2.heap.size, 0, none⟩ = some (.int .i64 k) := (hcX _ _ (by simp <;> omega)).trans (by first | exact o0 | exact (World.cell?_alloc_lt _ _ _ hz2).trans o0); have z4 : w2.heap.size < w4.heap.size := Nat.lt_of_lt_of_le (by simp <;> omega) hb4.size; have HB4 := hid hb4; clear hb4)
    all_goals (go_wp2_with fail; go_meet)
    all_goals first
      | exact ⟨_, rfl, KW.meetA' HR.out S3.out (by simp) HB4.out⟩
      | exact ⟨_, rfl, KW.meetB' HR.out S3.out (by simp) HB4.out⟩
  case rest =>
    obtain ⟨kb, rfl, hK⟩ := hcut
    refine (by assumption : ∀ (a : Act) (w : World), Code.wp _ _ _ a w → _) _ _ ?_
    exact HZ _ _ _ _ _ _ _ _ _ _ _ _ _ _ _ _ _ _ _ _ _ _ _ _ _ _ _ _ _ _ _ _ _ _ _ _ _ _ _ _ _ _ _ _ _ _ _ _ _ _ _ _ _ _ _ _ _ _ _ _ _ _ _ _ _ _ _ _ _ _ _ _ _ _ _ _ _ _ _ _ _ _ _ _ _ _ _ _ _ _ _ _ _ _ _ _ _ _ _ _ _ _ _ _ _ _ _ _ _ _ _ _ _ _ _ _ _ _ _ _ _ _ _ _ _ _ _ _ _ _ _ _ _ _ _ _ _ _ _ _ _ _ _ _ _ _ _ _ _ _ _ _ _ _ _ _ _ _ _ _ _ _ _ _ _ _ _ _ _ _ _ _ _ _ _ _ _ _ _ _ _ _ _ _ _ _ _ _ _ _ _ _ _ _ _ _ _ _ _ _ _ _ _ _ _ _ _ _ _ _ _ _ _ _ _ _ _ _ _ _ _ _ _ _ _ _ _ _ _ _ _ _ _ _ _ _ _ _ _ _ _ _ _ _ _ _ _ _ _ _ _ _ _ _ _ _ _ _ _ _ _ _ _ _ _ _ _ _ _ _ _ _ _ _ _ _ _ _ _ _ _ _ _ _ _ _ _ _ _ _ _ _ _ _ _ hK
end
section
variable {σ : Type} {m : C.Mem σ} {B bs : Nat} {I : World → σ → Prop} {T : σ → Nat → Prop}
/-- What the switch and what is behind it leave, whatever the frame holds besides. -/
def Rest2 (B bs : Nat) (I : World → σ → Prop) (T : σ → Nat → Prop) (w : World) (s : σ) (k d e1 : Nat) (n v : Int) (x z : C.St σ) : Prop :=
  ∀ (bo kb : Nat) (wx : World) (u0 u1 u2 u5 u11 u13 u20 u21 u22 u23 u24 u26 u27 u28 u29 u30 u31 u32 u33 u34 u35 u36 u37 u38 u39 u40 u41 u42 u43 u44 u45 u46 u47 u48 u49 u50 u51 u52 u53 u54 u55 u56 u57 u58 u59 u60 u61 u62 u63 u64 u65 u66 u67 u68 u69 u70 u71 u72 u73 u74 u75 u76 u77 u78 u79 u80 u81 u82 u83 u84 u85 u86 u87 u88 u89 u90 u91 u92 u93 u94 u95 u96 u97 u98 u99 u100 u101 u102 u103 u104 u105 u106 u107 u108 u109 u110 u111 u112 u113 u114 u115 u116 u117 u118 u119 u120 u121 u122 u123 u124 u125 u126 u127 u128 u129 u130 u131 u132 u133 u134 u135 u136 u137 u138 u139 u140 u141 u142 u143 u144 u145 u146 u147 u148 u149 u150 u151 u152 u153 u154 u155 u156 u157 u158 u159 u160 u161 u162 u163 u164 u165 u166 u167 u168 u169 u170 u171 u172 u173 u174 u175 u176 u177 u178 u179 u180 u181 u182 u183 u184 u185 u186 u187 u188 u189 u190 u191 u192 u193 u194 u195 u196 u197 u198 u199 u200 u201 u202 u203 u204 u205 u206 u207 u208 u209 u210 u211 u212 u213 u214 u215 u216 u217 u218 u219 u220 u221 u222 u223 u224 u225 u226 u227 u228 u229 u230 u231 u232 u233 u234 u235 u236 u237 u238 u239 u240 u241 u242 u243 u244 u245 u246 u247 u248 u249 u250 u251 u252 u253 u254 u255 u256 u257 u258 u259 u260 u261 u262 u263 u264 u265 u266 u267 u268 u269 u270 u271 u272 u273 u274 u275 u276 u277 u278 u279 u280 u281 u282 u283 u284 u285 u286 u287 u288 u289 u290 u291 u292 u293 u294 u295 u296 u297 u298 u299 u300 : Value), KW B bs I T w s bo kb k d e1 n v wx x → Code.wp Tryz.prog (cTl 19 (Tryz.f13.body.getD .skip)) (bodyPost Tryz.prog Tryz.f13 (RP B I T w s z)) { tmps := #[u0, u1, u2, .pointer (some ⟨w.heap.size, 0, none⟩), .pointer (some ⟨w.heap.size + 1, 0, none⟩), u5, .pointer (some ⟨w.heap.size + 1 + 1, 0, none⟩), .int .i64 0, .pointer (some ⟨w.heap.size + 1 + 1 + 1, 0, none⟩), .func (.func 24) #[] #[.pointer (some ⟨w.heap.size + 1, 0, none⟩), .pointer (some ⟨w.heap.size, 0, none⟩)], .func (.func 26) #[] #[.pointer (some ⟨w.heap.size + 1 + 1 + 1, 0, none⟩), .pointer (some ⟨w.heap.size, 0, none⟩), .pointer (some ⟨w.heap.size + 1, 0, none⟩)], u11, .pointer (some ⟨bo, 0, none⟩), u13, .pointer (some ⟨kb, 0, none⟩), .int .i64 (K.cyc k), .int .u16 (x.c.r d), .int .u16 (x.c.r e1), .func (.func 29) #[] #[.pointer (some ⟨w.heap.size, 0, none⟩), .pointer (some ⟨bo, 0, none⟩)], .func (.func 30) #[] #[.pointer (some ⟨w.heap.size, 0, none⟩)], u20, u21, u22, u23, u24, .int .u16 ((x.c.r e1 + n) % 65536), u26, u27, u28, u29, u30, u31, u32, u33, u34, u35, u36, u37, u38, u39, u40, u41, u42, u43, u44, u45, u46, u47, u48, u49, u50, u51, u52, u53, u54, u55, u56, u57, u58, u59, u60, u61, u62, u63, u64, u65, u66, u67, u68, u69, u70, u71, u72, u73, u74, u75, u76, u77, u78, u79, u80, u81, u82, u83, u84, u85, u86, u87, u88, u89, u90, u91, u92, u93, u94, u95, u96, u97, u98, u99, u100, u101, u102, u103, u104, u105, u106, u107, u108, u109, u110, u111, u112, u113, u114, u115, u116, u117, u118, u119, u120, u121, u122, u123, u124, u125, u126, u127, u128, u129, u130, u131, u132, u133, u134, u135, u136, u137, u138, u139, u140, u141, u142, u143, u144, u145, u146, u147, u148, u149, u150, u151, u152, u153, u154, u155, u156, u157, u158, u159, u160, u161, u162, u163, u164, u165, u166, u167, u168, u169, u170, u171, u172, u173, u174, u175, u176, u177, u178, u179, u180, u181, u182, u183, u184, u185, u186, u187, u188, u189, u190, u191, u192, u193, u194, u195, u196, u197, u198, u199, u200, u201, u202, u203, u204, u205, u206, u207, u208, u209, u210, u211, u212, u213, u214, u215, u216, u217, u218, u219, u220, u221, u222, u223, u224, u225, u226, u227, u228, u229, u230, u231, u232, u233, u234, u235, u236, u237, u238, u239, u240, u241, u242, u243, u244, u245, u246, u247, u248, u249, u250, u251, u252, u253, u254, u255, u256, u257, u258, u259, u260, u261, u262, u263, u264, u265, u266, u267, u268, u269, u270, u271, u272, u273, u274, u275, u276, u277, u278, u279, u280, u281, u282, u283, u284, u285, u286, u287, u288, u289, u290, u291, u292, u293, u294, u295, u296, u297, u298, u299, u300], defers := [] } wx
set_option maxRecDepth 100000 in
set_option maxHeartbeats 3200000 in
theorem rmid (R : QS m B bs I T) (w : World) (s : σ) (k d e1 : Nat) (n v : Int) (hd : d < 8) (he : e1 < 8) (hn : -16 ≤ n ∧ n ≤ 15) (hk : k < 32) (hna : ((K.name k).toList == [97, 100, 100, 105]) = false)
    (q7 : ((k : Int) == 7) = false) (q15 : ((k : Int) == 15) = false) (q8 : ((k : Int) == 8) = false) (q14 : ((k : Int) == 14) = false) (q9 : ((k : Int) == 9) = false) (q10 : ((k : Int) == 10) = false) (q11 : ((k : Int) == 11) = false) (q28 : ((k : Int) == 28) = false)
    (x z : C.St σ) (HZ : Rest2 B bs I T w s k d e1 n v x z) : Rest B bs I T w s k d e1 n v x z := by
  intro bo kb wx u0 u1 u2 u5 u11 u13 u15 u16 u17 u18 u19 u20 u21 u22 u23 u24 u25 u26 u27 u28 u29 u30 u31 u32 u33 u34 u35 u36 u37 u38 u39 u40 u41 u42 u43 u44 u45 u46 u47 u48 u49 u50 u51 u52 u53 u54 u55 u56 u57 u58 u59 u60 u61 u62 u63 u64 u65 u66 u67 u68 u69 u70 u71 u72 u73 u74 u75 u76 u77 u78 u79 u80 u81 u82 u83 u84 u85 u86 u87 u88 u89 u90 u91 u92 u93 u94 u95 u96 u97 u98 u99 u100 u101 u102 u103 u104 u105 u106 u107 u108 u109 u110 u111 u112 u113 u114 u115 u116 u117 u118 u119 u120 u121 u122 u123 u124 u125 u126 u127 u128 u129 u130 u131 u132 u133 u134 u135 u136 u137 u138 u139 u140 u141 u142 u143 u144 u145 u146 u147 u148 u149 u150 u151 u152 u153 u154 u155 u156 u157 u158 u159 u160 u161 u162 u163 u164 u165 u166 u167 u168 u169 u170 u171 u172 u173 u174 u175 u176 u177 u178 u179 u180 u181 u182 u183 u184 u185 u186 u187 u188 u189 u190 u191 u192 u193 u194 u195 u196 u197 u198 u199 u200 u201 u202 u203 u204 u205 u206 u207 u208 u209 u210 u211 u212 u213 u214 u215 u216 u217 u218 u219 u220 u221 u222 u223 u224 u225 u226 u227 u228 u229 u230 u231 u232 u233 u234 u235 u236 u237 u238 u239 u240 u241 u242 u243 u244 u245 u246 u247 u248 u249 u250 u251 u252 u253 u254 u255 u256 u257 u258 u259 u260 u261 u262 u263 u264 u265 u266 u267 u268 u269 u270 u271 u272 u273 u274 u275 u276 u277 u278 u279 u280 u281 u282 u283 u284 u285 u286 u287 u288 u289 u290 u291 u292 u293 u294 u295 u296 u297 u298 u299 u300 hK
  have HR := hid R
  obtain ⟨o0, o1, o2, o3, o4, k0, k1, k2⟩ := hK.cells
  have zo := hK.ltO
  have zk := hK.ltK
  have zp := hK.sw.qc.lt
  have rd := hK.sw.qc.reg d hd
  have re := hK.sw.qc.reg e1 he
  have bd := C.Cpu.r_bd hK.sw.qc.ok d
  have be := C.Cpu.r_bd hK.sw.qc.ok e1
  have hd0 : (0 : Int) ≤ d := by omega
  have hd1 : (d : Int) < 8 := by omega
  have he0 : (0 : Int) ≤ e1 := by omega
  have he1 : (e1 : Int) < 8 := by omega
  have HK := hid hK
  clear hK R
  have HZ2 := hid HZ
  clear HZ
  conv =>
    arg 2
    dsimp only [cTl, cSec, Tryz.f13, Option.getD]
  go_wp2
  go_region_held3 (fun w' => w'.cell? ⟨bo, 1, none⟩ = some (.int .i64 d) ∧ w'.cell? ⟨bo, 2, none⟩ = some (.int .i64 e1) ∧ w'.cell? ⟨w.heap.size, d, none⟩ = some (.int .u16 (x.c.r d)) ∧ w'.cell? ⟨w.heap.size, e1, none⟩ = some (.int .u16 (x.c.r e1)))
    ((go_keep; done))
    (fail)
  have KD := hid (HK.out.kept HR.out (st0 wx).drew)
  go_upto_region 28 with (go_at_call 31; refine (res_none k _ _ _ q7 q15 q8 q14 q9 q10 q11 q28).mono ?_; rintro e w5 ⟨rfl, hg5⟩; have K5 := hid (KD.out.kept HR.out hg5); obtain ⟨p0, p1, p2, p3, p4, l0, l1, l2⟩ := K5.out.cells; have yo := K5.out.ltO; have yk := K5.out.ltK)
  have ho : IntKind.u16.wrap (x.c.r d + IntKind.u16.wrap n) = (x.c.r d + n) % 65536 := by rw [u16w, u16w]; omega
  have hf : IntKind.u16.wrap (x.c.r e1 + IntKind.u16.wrap n) = (x.c.r e1 + n) % 65536 := by rw [u16w, u16w]; omega
  go_cut [25] (fun o wy => o = .int .u16 ((x.c.r e1 + n) % 65536) ∧ KW B bs I T w s bo kb k d e1 n v wy x)
  case first =>
    go_wp2_with fail
    go_meet
    exact ⟨rfl, K5.out⟩
  case rest =>
    obtain ⟨rfl, hK⟩ := hcut
    refine (by assumption : ∀ (a : Act) (w : World), Code.wp _ _ _ a w → _) _ _ ?_
    exact HZ2.out _ _ _ _ _ _ _ _ _ _ _ _ _ _ _ _ _ _ _ _ _ _ _ _ _ _ _ _ _ _ _ _ _ _ _ _ _ _ _ _ _ _ _ _ _ _ _ _ _ _ _ _ _ _ _ _ _ _ _ _ _ _ _ _ _ _ _ _ _ _ _ _ _ _ _ _ _ _ _ _ _ _ _ _ _ _ _ _ _ _ _ _ _ _ _ _ _ _ _ _ _ _ _ _ _ _ _ _ _ _ _ _ _ _ _ _ _ _ _ _ _ _ _ _ _ _ _ _ _ _ _ _ _ _ _ _ _ _ _ _ _ _ _ _ _ _ _ _ _ _ _ _ _ _ _ _ _ _ _ _ _ _ _ _ _ _ _ _ _ _ _ _ _ _ _ _ _ _ _ _ _ _ _ _ _ _ _ _ _ _ _ _ _ _ _ _ _ _ _ _ _ _ _ _ _ _ _ _ _ _ _ _ _ _ _ _ _ _ _ _ _ _ _ _ _ _ _ _ _ _ _ _ _ _ _ _ _ _ _ _ _ _ _ _ _ _ _ _ _ _ _ _ _ _ _ _ _ _ _ _ _ _ _ _ _ _ _ _ _ _ _ _ _ _ _ _ _ _ _ _ _ _ _ _ _ _ _ _ _ hK
end
end Go.Proofs.YtombboeonffejaaGreatDoor
