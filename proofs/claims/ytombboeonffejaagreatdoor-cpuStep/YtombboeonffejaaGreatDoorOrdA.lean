/-
  What package order's shapes answer: the shape of an Op, how many words, the limits; nothing old is written.
-/
import Derived.Test.YtombboeonffejaaGreatDoorShapes
import Derived.WalkKit
import Derived.ProofKit
import Derived.OpenShut
import Derived.WalkSpells
import Derived.Outline
import Derived.Laws.EntriesVeiled
namespace Go.Proofs.YtombboeonffejaaGreatDoor
open Go.ChangeShapes Go.WideShapes Go.ChangeAt Go.RowKit
set_option linter.unusedVariables false

theorem below_draws {B : Nat} {a w : World} (h : Below B a w) (n : Nat) : Below B a (w.drewN n) := ⟨h.os, h.tape, h.output, h.size, h.block⟩
theorem hid {p : Prop} (h : p) : Hid p := h
theorem ret_b {b b' : Bool} (h : b = b') : Ending.returned (.bool b) = .returned (.bool b') := by rw [h]
/-- One call, one new block more. -/
theorem stp {W a b : World} (h : Below W.heap.size W a) (hb : Below a.heap.size a b) : Below W.heap.size W b := h.trans (hb.mono h.size)
theorem stA {W a : World} (h : Below W.heap.size W a) (o : Obj) : Below W.heap.size W (a.alloc o) := h.alloc h.size o
theorem st0 (W : World) : Below W.heap.size W W := Below.refl _ _
theorem bcell {W w1 : World} (hb : Below W.heap.size W w1) : (∀ b o, b < W.heap.size → w1.cell? ⟨b, o, none⟩ = W.cell? ⟨b, o, none⟩) ∧ (∀ b o, b < W.heap.size → w1.frozen? ⟨b, o, none⟩ = W.frozen? ⟨b, o, none⟩) :=
  ⟨fun b o h => hb.cell (p := ⟨b, o, none⟩) h, fun b o h => hb.frozen (p := ⟨b, o, none⟩) h⟩

theorem shape_yes (k : Nat) (hk : k < 32) (h30 : k ≠ 30) (w : World) (hs : shapesAt w) :
    Calls Tryz.prog 70 #[.int .i64 k] w fun e w' => e = .returned (.tuple #[.agg #[.string (O.nameS k), .int .i64 (K.cyc k), .int .i64 (O.mask k)], .int .i64 0]) ∧ Below w.heap.size w w' := by
  have hl := hs.lt
  obtain ⟨c0, c1, c2⟩ := hs k hk
  have hn : (O.nameS k).toList.isEmpty = false := (O.nameS_empty k hk).trans (by simpa using h30)
  clear hs
  go_enter Tryz.func70, Tryz.ntmps70
  go_wp2
  exact bodyPost_ret (v := .tuple #[.agg #[.string (O.nameS k), .int .i64 (K.cyc k), .int .i64 (O.mask k)], .int .i64 0]) (by simp [results, Tryz.results70, go_sem]) rfl ⟨rfl, (Below.refl _ _).alloc (Nat.le_refl _) _⟩
theorem shape_no (op : Int) (h : O.isOp op = false) (w : World) (hs : shapesAt w) :
    Calls Tryz.prog 70 #[.int .i64 op] w fun e w' => e = .returned (.tuple #[.agg #[.string ⟨#[]⟩, .int .i64 0, .int .i64 0], .int .i64 5]) ∧ Below w.heap.size w w' := by
  have hl := hs.lt
  have h' : ¬ (0 ≤ op ∧ op ≤ 31 ∧ op ≠ 30) := fun c => by rw [(O.isOp_iff op).2 c] at h; cases h
  obtain ⟨c0, c1, c2⟩ := hs 30 (by omega)
  clear hs h
  have e30 : O.nameS 30 = ⟨#[]⟩ := rfl
  rw [e30] at c0
  clear e30
  have hc : op < 0 ∨ 31 < op ∨ op = 30 := by omega
  clear h'
  rcases hc with h | h | rfl
  · go_enter Tryz.func70, Tryz.ntmps70
    go_wp2
    exact bodyPost_ret (v := .tuple #[.agg #[.string ⟨#[]⟩, .int .i64 0, .int .i64 0], .int .i64 5]) (by simp [results, Tryz.results70, go_sem]) rfl ⟨rfl, (Below.refl _ _).alloc (Nat.le_refl _) _⟩
  · have h2 : ¬ op < 0 := by omega
    go_enter Tryz.func70, Tryz.ntmps70
    go_wp2
    exact bodyPost_ret (v := .tuple #[.agg #[.string ⟨#[]⟩, .int .i64 0, .int .i64 0], .int .i64 5]) (by simp [results, Tryz.results70, go_sem]) rfl ⟨rfl, (Below.refl _ _).alloc (Nat.le_refl _) _⟩
  · go_enter Tryz.func70, Tryz.ntmps70
    go_wp2
    exact bodyPost_ret (v := .tuple #[.agg #[.string ⟨#[]⟩, .int .i64 0, .int .i64 0], .int .i64 5]) (by simp [results, Tryz.results70, go_sem]) rfl ⟨rfl, (Below.refl _ _).alloc (Nat.le_refl _) _⟩
/-- How many words a shape's number tells. -/
def lenOf (h : Int) : Int := if h / 8 % 2 = 1 then 2 else 1
theorem words_any (a b : Value) (k : Nat) (hk : k < 32) (w : World) :
    Calls Tryz.prog 71 #[.agg #[a, b, .int .i64 (O.mask k)]] w fun e w' => e = .returned (.int .i64 (lenOf (O.mask k))) ∧ Below w.heap.size w w' := by
  rcases O.mask_or k hk with h | h | h | h | h | h | h | h | h <;> rw [h]
  all_goals
    clear h
    go_enter Tryz.func71, Tryz.ntmps71
    go_wp2
    go_ret
    exact ⟨rfl, (Below.refl _ _).alloc (Nat.le_refl _) _⟩
theorem cell_new (w : World) (cs : Array Value) (t : TypeId) (b : Nat) (h : b = w.heap.size) {k : Nat} : (w.alloc (.cells cs t)).cell? ⟨b, k, none⟩ = cs[k]? := by subst h; exact World.cell?_alloc_new ..
/-- Four limits, each of the two numbers that the shape's number tells. -/
structure Lims (h : Int) (b0 b1 b2 b3 : Nat) (w : World) : Prop where
  l0 : w.cell? ⟨b0, 0, none⟩ = some (.int .i64 (O.lo h 0))
  u0 : w.cell? ⟨b0 + 1, 0, none⟩ = some (.int .i64 (O.hi h 0))
  l1 : w.cell? ⟨b1, 0, none⟩ = some (.int .i64 (O.lo h 1))
  u1 : w.cell? ⟨b1 + 1, 0, none⟩ = some (.int .i64 (O.hi h 1))
  l2 : w.cell? ⟨b2, 0, none⟩ = some (.int .i64 (O.lo h 2))
  u2 : w.cell? ⟨b2 + 1, 0, none⟩ = some (.int .i64 (O.hi h 2))
  l3 : w.cell? ⟨b3, 0, none⟩ = some (.int .i64 (O.lo h 3))
  u3 : w.cell? ⟨b3 + 1, 0, none⟩ = some (.int .i64 (O.hi h 3))
end Go.Proofs.YtombboeonffejaaGreatDoor
