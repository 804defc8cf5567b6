/-
  What the acts of jumps leave, and which act stands at which order.
-/
import Derived.Test.YtombboeonffejaaGreatDoorCpuL
namespace Go.Proofs.YtombboeonffejaaGreatDoor
open Go.ChangeShapes Go.WideShapes Go.ChangeAt Go.RowKit
set_option linter.unusedVariables false

section
variable {σ : Type} {m : C.Mem σ} {B nr nw : Nat} {cr cw : Array Value} {I : World → σ → Prop} {T : σ → Nat → Prop}
theorem actj_16 (R : RS m B nr nw cr cw I T) (d s : Nat) (n v : Int) (hv : 0 ≤ v) (hv' : v ≤ 65535) (b : Nat) (w : World) (p : Nat) (x : C.St σ) (hx0 : 0 ≤ x.n) (hx1 : x.n ≤ 100) (hP : PI B nr nw cr cw I T w p x) (hb : w.cell? ⟨b, 0, none⟩ = some (fv 90 #[])) :
    Calls Tryz.prog 121 #[.pointer (some ⟨p, 0, none⟩), ordV 16 d s n v, .pointer (some ⟨b, 0, none⟩)] w (AP B nr nw cr cw I T w p x (C.act m x 16 d s n v)) := by
  exact jt_true R 16 d s n v hv hv' b w p x hx0 hx1 hP hb rfl
theorem actj_17 (R : RS m B nr nw cr cw I T) (d s : Nat) (n v : Int) (hv : 0 ≤ v) (hv' : v ≤ 65535) (b : Nat) (w : World) (p : Nat) (x : C.St σ) (hx0 : 0 ≤ x.n) (hx1 : x.n ≤ 100) (hP : PI B nr nw cr cw I T w p x) (hb : w.cell? ⟨b, 0, none⟩ = some (fv 91 #[])) :
    Calls Tryz.prog 121 #[.pointer (some ⟨p, 0, none⟩), ordV 17 d s n v, .pointer (some ⟨b, 0, none⟩)] w (AP B nr nw cr cw I T w p x (C.act m x 17 d s n v)) := by
  cases h : x.c.Z
  · have e : C.act m x 17 d s n v = x := by simp [C.act, h]
    rw [e]; exact jz_false R 17 d s n v hv hv' b w p x hx0 hx1 hP hb h
  · have e : C.act m x 17 d s n v = C.jump x v := by simp [C.act, h]
    rw [e]; exact jz_true R 17 d s n v hv hv' b w p x hx0 hx1 hP hb h
theorem actj_18 (R : RS m B nr nw cr cw I T) (d s : Nat) (n v : Int) (hv : 0 ≤ v) (hv' : v ≤ 65535) (b : Nat) (w : World) (p : Nat) (x : C.St σ) (hx0 : 0 ≤ x.n) (hx1 : x.n ≤ 100) (hP : PI B nr nw cr cw I T w p x) (hb : w.cell? ⟨b, 0, none⟩ = some (fv 92 #[])) :
    Calls Tryz.prog 121 #[.pointer (some ⟨p, 0, none⟩), ordV 18 d s n v, .pointer (some ⟨b, 0, none⟩)] w (AP B nr nw cr cw I T w p x (C.act m x 18 d s n v)) := by
  cases h : x.c.N
  · have e : C.act m x 18 d s n v = x := by simp [C.act, h]
    rw [e]; exact jn_false R 18 d s n v hv hv' b w p x hx0 hx1 hP hb h
  · have e : C.act m x 18 d s n v = C.jump x v := by simp [C.act, h]
    rw [e]; exact jn_true R 18 d s n v hv hv' b w p x hx0 hx1 hP hb h
theorem actj_19 (R : RS m B nr nw cr cw I T) (d s : Nat) (n v : Int) (hv : 0 ≤ v) (hv' : v ≤ 65535) (b : Nat) (w : World) (p : Nat) (x : C.St σ) (hx0 : 0 ≤ x.n) (hx1 : x.n ≤ 100) (hP : PI B nr nw cr cw I T w p x) (hb : w.cell? ⟨b, 0, none⟩ = some (fv 93 #[])) :
    Calls Tryz.prog 121 #[.pointer (some ⟨p, 0, none⟩), ordV 19 d s n v, .pointer (some ⟨b, 0, none⟩)] w (AP B nr nw cr cw I T w p x (C.act m x 19 d s n v)) := by
  cases h : x.c.C
  · have e : C.act m x 19 d s n v = x := by simp [C.act, h]
    rw [e]; exact jc_false R 19 d s n v hv hv' b w p x hx0 hx1 hP hb h
  · have e : C.act m x 19 d s n v = C.jump x v := by simp [C.act, h]
    rw [e]; exact jc_true R 19 d s n v hv hv' b w p x hx0 hx1 hP hb h
theorem actj_29 (R : RS m B nr nw cr cw I T) (d s : Nat) (n v : Int) (hv : 0 ≤ v) (hv' : v ≤ 65535) (b : Nat) (w : World) (p : Nat) (x : C.St σ) (hx0 : 0 ≤ x.n) (hx1 : x.n ≤ 100) (hP : PI B nr nw cr cw I T w p x) (hb : w.cell? ⟨b, 0, none⟩ = some (fv 104 #[])) :
    Calls Tryz.prog 121 #[.pointer (some ⟨p, 0, none⟩), ordV 29 d s n v, .pointer (some ⟨b, 0, none⟩)] w (AP B nr nw cr cw I T w p x (C.act m x 29 d s n v)) := by
  cases h : x.c.Z
  · have e : C.act m x 29 d s n v = C.jump x v := by simp [C.act, h]
    rw [e]; exact jnz_true R 29 d s n v hv hv' b w p x hx0 hx1 hP hb (by rw [h]; rfl)
  · have e : C.act m x 29 d s n v = x := by simp [C.act, h]
    rw [e]; exact jnz_false R 29 d s n v hv hv' b w p x hx0 hx1 hP hb (by rw [h]; rfl)
theorem acts_at0 (b12 b13 b16 b17 b18 b19 b29 : Nat) (w : World) : (Instr.index 104 (.agg (actsL b12 b13 b16 b17 b18 b19 b29)) (.int .i64 0)).run Tryz.prog w = .ok (fv 72 #[]) w := by kernel_rfl
theorem acts_at1 (b12 b13 b16 b17 b18 b19 b29 : Nat) (w : World) : (Instr.index 104 (.agg (actsL b12 b13 b16 b17 b18 b19 b29)) (.int .i64 1)).run Tryz.prog w = .ok (fv 73 #[]) w := by kernel_rfl
theorem acts_at2 (b12 b13 b16 b17 b18 b19 b29 : Nat) (w : World) : (Instr.index 104 (.agg (actsL b12 b13 b16 b17 b18 b19 b29)) (.int .i64 2)).run Tryz.prog w = .ok (fv 74 #[]) w := by kernel_rfl
theorem acts_at3 (b12 b13 b16 b17 b18 b19 b29 : Nat) (w : World) : (Instr.index 104 (.agg (actsL b12 b13 b16 b17 b18 b19 b29)) (.int .i64 3)).run Tryz.prog w = .ok (fv 75 #[]) w := by kernel_rfl
theorem acts_at4 (b12 b13 b16 b17 b18 b19 b29 : Nat) (w : World) : (Instr.index 104 (.agg (actsL b12 b13 b16 b17 b18 b19 b29)) (.int .i64 4)).run Tryz.prog w = .ok (fv 77 #[]) w := by kernel_rfl
theorem acts_at5 (b12 b13 b16 b17 b18 b19 b29 : Nat) (w : World) : (Instr.index 104 (.agg (actsL b12 b13 b16 b17 b18 b19 b29)) (.int .i64 5)).run Tryz.prog w = .ok (fv 79 #[]) w := by kernel_rfl
theorem acts_at6 (b12 b13 b16 b17 b18 b19 b29 : Nat) (w : World) : (Instr.index 104 (.agg (actsL b12 b13 b16 b17 b18 b19 b29)) (.int .i64 6)).run Tryz.prog w = .ok (fv 80 #[]) w := by kernel_rfl
theorem acts_at7 (b12 b13 b16 b17 b18 b19 b29 : Nat) (w : World) : (Instr.index 104 (.agg (actsL b12 b13 b16 b17 b18 b19 b29)) (.int .i64 7)).run Tryz.prog w = .ok (fv 82 #[]) w := by kernel_rfl
theorem acts_at8 (b12 b13 b16 b17 b18 b19 b29 : Nat) (w : World) : (Instr.index 104 (.agg (actsL b12 b13 b16 b17 b18 b19 b29)) (.int .i64 8)).run Tryz.prog w = .ok (fv 82 #[]) w := by kernel_rfl
theorem acts_at9 (b12 b13 b16 b17 b18 b19 b29 : Nat) (w : World) : (Instr.index 104 (.agg (actsL b12 b13 b16 b17 b18 b19 b29)) (.int .i64 9)).run Tryz.prog w = .ok (fv 82 #[]) w := by kernel_rfl
theorem acts_at10 (b12 b13 b16 b17 b18 b19 b29 : Nat) (w : World) : (Instr.index 104 (.agg (actsL b12 b13 b16 b17 b18 b19 b29)) (.int .i64 10)).run Tryz.prog w = .ok (fv 82 #[]) w := by kernel_rfl
theorem acts_at11 (b12 b13 b16 b17 b18 b19 b29 : Nat) (w : World) : (Instr.index 104 (.agg (actsL b12 b13 b16 b17 b18 b19 b29)) (.int .i64 11)).run Tryz.prog w = .ok (fv 82 #[]) w := by kernel_rfl
theorem acts_at12 (b12 b13 b16 b17 b18 b19 b29 : Nat) (w : World) : (Instr.index 104 (.agg (actsL b12 b13 b16 b17 b18 b19 b29)) (.int .i64 12)).run Tryz.prog w = .ok (fv 117 #[.pointer (some ⟨b12, 0, none⟩)]) w := by kernel_rfl
theorem acts_at13 (b12 b13 b16 b17 b18 b19 b29 : Nat) (w : World) : (Instr.index 104 (.agg (actsL b12 b13 b16 b17 b18 b19 b29)) (.int .i64 13)).run Tryz.prog w = .ok (fv 117 #[.pointer (some ⟨b13, 0, none⟩)]) w := by kernel_rfl
theorem acts_at14 (b12 b13 b16 b17 b18 b19 b29 : Nat) (w : World) : (Instr.index 104 (.agg (actsL b12 b13 b16 b17 b18 b19 b29)) (.int .i64 14)).run Tryz.prog w = .ok (fv 86 #[]) w := by kernel_rfl
theorem acts_at15 (b12 b13 b16 b17 b18 b19 b29 : Nat) (w : World) : (Instr.index 104 (.agg (actsL b12 b13 b16 b17 b18 b19 b29)) (.int .i64 15)).run Tryz.prog w = .ok (fv 88 #[]) w := by kernel_rfl
theorem acts_at16 (b12 b13 b16 b17 b18 b19 b29 : Nat) (w : World) : (Instr.index 104 (.agg (actsL b12 b13 b16 b17 b18 b19 b29)) (.int .i64 16)).run Tryz.prog w = .ok (fv 121 #[.pointer (some ⟨b16, 0, none⟩)]) w := by kernel_rfl
theorem acts_at17 (b12 b13 b16 b17 b18 b19 b29 : Nat) (w : World) : (Instr.index 104 (.agg (actsL b12 b13 b16 b17 b18 b19 b29)) (.int .i64 17)).run Tryz.prog w = .ok (fv 121 #[.pointer (some ⟨b17, 0, none⟩)]) w := by kernel_rfl
theorem acts_at18 (b12 b13 b16 b17 b18 b19 b29 : Nat) (w : World) : (Instr.index 104 (.agg (actsL b12 b13 b16 b17 b18 b19 b29)) (.int .i64 18)).run Tryz.prog w = .ok (fv 121 #[.pointer (some ⟨b18, 0, none⟩)]) w := by kernel_rfl
theorem acts_at19 (b12 b13 b16 b17 b18 b19 b29 : Nat) (w : World) : (Instr.index 104 (.agg (actsL b12 b13 b16 b17 b18 b19 b29)) (.int .i64 19)).run Tryz.prog w = .ok (fv 121 #[.pointer (some ⟨b19, 0, none⟩)]) w := by kernel_rfl
theorem acts_at20 (b12 b13 b16 b17 b18 b19 b29 : Nat) (w : World) : (Instr.index 104 (.agg (actsL b12 b13 b16 b17 b18 b19 b29)) (.int .i64 20)).run Tryz.prog w = .ok (fv 94 #[]) w := by kernel_rfl
theorem acts_at21 (b12 b13 b16 b17 b18 b19 b29 : Nat) (w : World) : (Instr.index 104 (.agg (actsL b12 b13 b16 b17 b18 b19 b29)) (.int .i64 21)).run Tryz.prog w = .ok (fv 95 #[]) w := by kernel_rfl
theorem acts_at22 (b12 b13 b16 b17 b18 b19 b29 : Nat) (w : World) : (Instr.index 104 (.agg (actsL b12 b13 b16 b17 b18 b19 b29)) (.int .i64 22)).run Tryz.prog w = .ok (fv 97 #[]) w := by kernel_rfl
theorem acts_at23 (b12 b13 b16 b17 b18 b19 b29 : Nat) (w : World) : (Instr.index 104 (.agg (actsL b12 b13 b16 b17 b18 b19 b29)) (.int .i64 23)).run Tryz.prog w = .ok (fv 98 #[]) w := by kernel_rfl
theorem acts_at24 (b12 b13 b16 b17 b18 b19 b29 : Nat) (w : World) : (Instr.index 104 (.agg (actsL b12 b13 b16 b17 b18 b19 b29)) (.int .i64 24)).run Tryz.prog w = .ok (fv 99 #[]) w := by kernel_rfl
theorem acts_at25 (b12 b13 b16 b17 b18 b19 b29 : Nat) (w : World) : (Instr.index 104 (.agg (actsL b12 b13 b16 b17 b18 b19 b29)) (.int .i64 25)).run Tryz.prog w = .ok (fv 100 #[]) w := by kernel_rfl
theorem acts_at26 (b12 b13 b16 b17 b18 b19 b29 : Nat) (w : World) : (Instr.index 104 (.agg (actsL b12 b13 b16 b17 b18 b19 b29)) (.int .i64 26)).run Tryz.prog w = .ok (fv 101 #[]) w := by kernel_rfl
theorem acts_at27 (b12 b13 b16 b17 b18 b19 b29 : Nat) (w : World) : (Instr.index 104 (.agg (actsL b12 b13 b16 b17 b18 b19 b29)) (.int .i64 27)).run Tryz.prog w = .ok (fv 103 #[]) w := by kernel_rfl
theorem acts_at28 (b12 b13 b16 b17 b18 b19 b29 : Nat) (w : World) : (Instr.index 104 (.agg (actsL b12 b13 b16 b17 b18 b19 b29)) (.int .i64 28)).run Tryz.prog w = .ok (fv 82 #[]) w := by kernel_rfl
theorem acts_at29 (b12 b13 b16 b17 b18 b19 b29 : Nat) (w : World) : (Instr.index 104 (.agg (actsL b12 b13 b16 b17 b18 b19 b29)) (.int .i64 29)).run Tryz.prog w = .ok (fv 121 #[.pointer (some ⟨b29, 0, none⟩)]) w := by kernel_rfl
theorem acts_at31 (b12 b13 b16 b17 b18 b19 b29 : Nat) (w : World) : (Instr.index 104 (.agg (actsL b12 b13 b16 b17 b18 b19 b29)) (.int .i64 31)).run Tryz.prog w = .ok (fv 105 #[]) w := by kernel_rfl
end
end Go.Proofs.YtombboeonffejaaGreatDoor
