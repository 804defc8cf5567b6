/-
  What a processor of package cpu does with words: it reads and writes them, pushes and pops; over whatever it comes to.
-/
import Derived.Test.YtombboeonffejaaGreatDoorCpuA
import Derived.Test.YtombboeonffejaaGreatDoorWordB
import Derived.Deep.RegionHeld3
namespace Go.Proofs.YtombboeonffejaaGreatDoor
open Go.ChangeShapes Go.WideShapes Go.ChangeAt Go.RowKit
set_option linter.unusedVariables false

section
variable {σ : Type} {m : C.Mem σ} {B nr nw : Nat} {cr cw : Array Value} {I : World → σ → Prop} {T : σ → Nat → Prop}
theorem RS.kept (R : RS m B nr nw cr cw I T) {w w' : World} {s : σ} (h : I w s) (hb : Below w.heap.size w w') : I w' s := R.keep h hb.size (fun k hk => hb.block k (R.lt h k hk))
theorem RS.out (R : RS m B nr nw cr cw I T) {w : World} {s : σ} (h : I w s) {k : Nat} (hk : w.heap.size ≤ k) : ¬ T s k := fun ht => by have := R.lt h k ht; omega
/-- A block of one's own reads as it did. -/
theorem RS.box (R : RS m B nr nw cr cw I T) {w w1 : World} {s : σ} {cs : Array Value} {t : TypeId} {T' : Nat → Prop} (h : I w s) (hm : Mv B (T s) T' (w.alloc (.cells cs t)) w1) : w.heap.size < w1.heap.size ∧ ∀ o, w1.cell? ⟨w.heap.size, o, none⟩ = cs[o]? := by
  refine ⟨by have := hm.size; simp at this; omega, fun o => ?_⟩
  rw [hm.cell (by simp) (R.out h (Nat.le_refl _)) o]
  exact cell_new _ _ _ _ rfl
theorem Mv.unbox {B : Nat} {T T' : Nat → Prop} {w w' : World} {o : Obj} (h : Mv B T T' (w.alloc o) w') (hB : B ≤ w.heap.size) : Mv B T T' w w' := ((Mv.refl B T w).alloc hB o).trans h
set_option maxHeartbeats 1600000 in
theorem wordAt_any (R : RS m B nr nw cr cw I T) (a : Int) (ha : 0 ≤ a) (ha' : a ≤ 65535) (w : World) (s : σ) (hI : I w s) :
    Calls Tryz.prog 54 #[.agg #[fv nr cr, fv nw cw], .int .u16 a] w fun e w' => e = .returned (.int .u16 (m.rdw s a).1) ∧ I w' (m.rdw s a).2 ∧ Mv B (T s) (T (m.rdw s a).2) w w' := by
  have HI := hid hI
  have HR := hid R
  have hB := R.big hI
  clear hI R
  unfold C.Mem.rdw
  have hw : IntKind.u16.wrap (a + 1) = (a + 1) % 65536 := IntKind.wrap_u16 _
  go_enter Tryz.func54, Tryz.ntmps54
  go_wp2_with (first
    | (go_at_call 65; first
        | (refine (HR.out.read _ (m.rd s a).2 ((a + 1) % 65536) (by omega) (by omega) HI1.out).mono ?_; rintro e w2 ⟨rfl, hI2, hm2⟩)
        | (refine (HR.out.read _ s a ha ha' (HR.out.kept HI.out (stA (st0 _) _))).mono ?_; rintro e w1 ⟨rfl, hI1, hm1⟩; obtain ⟨hz1, hc1⟩ := HR.out.box HI.out hm1; have c0 := hc1 0; have c1 := hc1 1; have HI1 := hid hI1; clear hc1 hI1))
    | (go_at_call 66; refine (of_any _ _ _ (HR.out.byte _ _).1 (HR.out.byte _ _).2 (HR.out.byte _ _).1 (HR.out.byte _ _).2).mono ?_; rintro e w' ⟨rfl, rfl⟩))
  go_ret
  exact ⟨rfl, hI2, (hm1.trans hm2).unbox hB⟩
set_option maxHeartbeats 1600000 in
theorem putWord_any (R : RS m B nr nw cr cw I T) (a n : Int) (ha : 0 ≤ a) (ha' : a ≤ 65535) (hn : 0 ≤ n) (hn' : n ≤ 65535) (w : World) (s : σ) (hI : I w s) :
    Calls Tryz.prog 78 #[.agg #[fv nr cr, fv nw cw], .int .u16 a, .int .u16 n] w fun e w' => e = .returned (.tuple #[]) ∧ I w' (m.wrw s a n) ∧ Mv B (T s) (T (m.wrw s a n)) w w' := by
  have HI := hid hI
  have HR := hid R
  have hB := R.big hI
  clear hI R
  unfold C.Mem.wrw
  have hw : IntKind.u16.wrap (a + 1) = (a + 1) % 65536 := IntKind.wrap_u16 _
  go_enter Tryz.func78, Tryz.ntmps78
  go_wp2_with (first
    | (go_at_call 81; first
        | (refine (HR.out.write _ (m.wr s a (n / 256)) ((a + 1) % 65536) (n % 256) (by omega) (by omega) (by omega) (by omega) HI1.out).mono ?_; rintro e w2 ⟨rfl, hI2, hm2⟩)
        | (refine (HR.out.write _ s a (n / 256) ha ha' (by omega) (by omega) (HR.out.kept HI.out (stA (st0 _) _))).mono ?_; rintro e w1 ⟨rfl, hI1, hm1⟩; obtain ⟨hz1, hc1⟩ := HR.out.box HI.out hm1; have c0 := hc1 0; have c1 := hc1 1; have HI1 := hid hI1; clear hc1 hI1))
    | (go_at_call 116; refine (bytes_any n _ hn hn').mono ?_; rintro e w' ⟨rfl, rfl⟩))
  go_end0
  exact ⟨rfl, hI2, (hm1.trans hm2).unbox hB⟩
theorem RS.word (R : RS m B nr nw cr cw I T) (s : σ) (a : Int) : 0 ≤ (m.rdw s a).1 ∧ (m.rdw s a).1 ≤ 65535 := by
  have h1 := R.byte s a
  have h2 := R.byte (m.rd s a).2 ((a + 1) % 65536)
  unfold C.Mem.rdw
  simp only
  omega
theorem u16w (x : Int) : IntKind.u16.wrap x = x % 65536 := IntKind.wrap_u16 x
set_option maxRecDepth 100000 in
set_option maxHeartbeats 1600000 in
theorem push_any (R : RS m B nr nw cr cw I T) (n : Int) (hn : 0 ≤ n) (hn' : n ≤ 65535) (w : World) (p : Nat) (x : C.St σ) (hP : PI B nr nw cr cw I T w p x) :
    Calls Tryz.prog 67 #[.pointer (some ⟨p, 0, none⟩), .int .u16 n] w fun e w' => e = .returned (.tuple #[]) ∧ PI B nr nw cr cw I T w' p (C.push m x n) ∧ PM B T p x.s (C.push m x n).s w w' := by
  have h7 := hP.reg 7 (by omega)
  have hlt := hP.lt
  have hf := hP.frozen 7
  have hr := C.Cpu.r_bd hP.ok 7
  have hw := u16w (x.c.r 7 - 2)
  have HP := hid hP
  have HR := hid R
  have HP1 := hid (hP.putR R 7 (by omega) ((x.c.r 7 - 2) % 65536) (by omega) (by omega))
  clear hP R
  go_enter Tryz.func67, Tryz.ntmps67
  go_wp2
  go_region
  go_wp2
  refine cutW (fun W => PI B nr nw cr cw I T W p ⟨x.c.set (7 : Nat) ((x.c.r 7 - 2) % 65536), x.s, x.n⟩ ∧ PM B T p x.s x.s w W) ⟨HP1.out.same HR.out rfl, ((PM.refl B T p x.s w).set HP.out.big 7 _).drew⟩ ?_
  rintro W ⟨hW, hmW⟩
  have q7 := hW.reg 7 (by omega)
  rw [C.Cpu.r_set HP.out.ok 7 (by omega)] at q7
  obtain ⟨_, _, _, _, _, _, _, q15, q16, _⟩ := hW.cells
  have hltW := hW.lt
  have HW := hid hW
  have HM := hid hmW
  clear hW hmW h7 hlt hf hw HP1
  go_region_held3 (fun w' => w'.cell? ⟨p, 7, none⟩ = some (.int .u16 ((x.c.r 7 - 2) % 65536)) ∧ w'.cell? ⟨p, 15, none⟩ = some (fv nr cr) ∧ w'.cell? ⟨p, 16, none⟩ = some (fv nw cw))
    ((go_keep; done))
    ((go_at_call 78; refine (putWord_any HR.out _ _ (by omega) (by omega) hn hn' _ x.s ?_).mono ?_; (exact HW.out.invS HR.out rfl); rintro e w1 ⟨rfl, hI1, hm1⟩; obtain ⟨k1, f1, z1⟩ := HW.out.after hm1 rfl))
  go_wp2
  go_end0
  exact ⟨rfl, HW.out.movedS HR.out hI1 hm1 rfl, HM.out.drew.moved hm1⟩
set_option maxRecDepth 100000 in
set_option maxHeartbeats 1600000 in
/-- What is popped, and what is then. -/
theorem pop_any (R : RS m B nr nw cr cw I T) (w : World) (p : Nat) (x : C.St σ) (hP : PI B nr nw cr cw I T w p x) :
    Calls Tryz.prog 96 #[.pointer (some ⟨p, 0, none⟩)] w fun e w' => e = .returned (.int .u16 (C.popV m x)) ∧ PI B nr nw cr cw I T w' p (C.pop m x) ∧ PM B T p x.s (C.pop m x).s w w' := by
  have h7 : w.cell? ⟨p, 7, none⟩ = some (.int .u16 (x.c.r 7)) := hP.reg 7 (by omega)
  obtain ⟨_, _, _, _, _, _, _, c15, c16, _⟩ := hP.cells
  have hlt := hP.lt
  have hr := C.Cpu.r_bd hP.ok 7
  have hr1 := hr.1
  have hr2 := hr.2
  have HP := hid hP
  have HR := hid R
  clear hP R hr
  go_enter Tryz.func96, Tryz.ntmps96
  go_wp2
  go_region_held3 (fun w' => w'.cell? ⟨p, 7, none⟩ = some (.int .u16 (x.c.r 7)) ∧ w'.cell? ⟨p, 15, none⟩ = some (fv nr cr) ∧ w'.cell? ⟨p, 16, none⟩ = some (fv nw cw))
    ((go_keep; done))
    ((go_at_call 54; refine (wordAt_any HR.out (x.c.r 7) hr1 hr2 _ x.s ?_).mono ?_; (exact HP.out.invS HR.out rfl); rintro e w1 ⟨rfl, hI1, hm1⟩; obtain ⟨k1, f1, z1⟩ := HP.out.after hm1 rfl))
  have hP1 := HP.out.movedS HR.out hI1 hm1 rfl
  have HP1 := hid (hP1.putR HR.out 7 (by omega) ((x.c.r 7 + 2) % 65536) (by omega) (by omega))
  have hw := u16w (x.c.r 7 + 2)
  clear hP1
  go_wp2
  go_region
  go_wp2
  go_ret
  exact ⟨rfl, HP1.out.same HR.out rfl, (((PM.refl B T p x.s w).drew.moved hm1).set HP.out.big 7 _).drew⟩
end
end Go.Proofs.YtombboeonffejaaGreatDoor
