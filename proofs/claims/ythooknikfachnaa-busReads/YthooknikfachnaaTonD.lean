/-
  Package tone: Samples.
-/
import Derived.Test.YthooknikfachnaaTonC
import Derived.Test.YthooknikfachnaaByt
namespace Go.Proofs.Ythooknikfachnaa
open Go.ChangeShapes Go.WideShapes Go.ChangeAt Go.RowKit
set_option linter.unusedVariables false
set_option maxRecDepth 100000

/-- A sound's cells. -/
abbrev scs (s : Sd) : List Value := [.int .u16 s.a.p, .int .u16 s.a.c, .int .u8 s.a.l, .bool s.a.h, .int .u16 s.a.n, .int .u16 s.b.p, .int .u16 s.b.c, .int .u8 s.b.l, .bool s.b.h, .int .u16 s.b.n, .int .u16 s.c.p, .int .u16 s.c.c, .int .u8 s.c.l, .bool s.c.h, .int .u16 s.c.n, .int .i64 s.w]
abbrev zs : List Value := [.int .u16 0, .int .u16 0, .int .u8 0, .bool false, .int .u16 0, .int .u16 0, .int .u16 0, .int .u8 0, .bool false, .int .u16 0, .int .u16 0, .int .u16 0, .int .u8 0, .bool false, .int .u16 0, .int .i64 0]
theorem own_kept {w w' : World} {B n : Nat} {v : Value} {xs : List Value} (h : w.ownsRow B 5 1 v n xs) (hb : Below w.heap.size w w') : w'.ownsRow B 5 1 v n xs := own_of_block h (fun k hk => hb.block k (h.lt k hk).2)
theorem own_far {w : World} {B n b o : Nat} {v : Value} {xs : List Value} (h : w.ownsRow B 5 1 v n xs) (hb : b < B) (x : Value) : (w.setCell ⟨b, o, none⟩ x).ownsRow B 5 1 v n xs := own_of_block h (fun k hk => by
  have := h.lt k hk
  exact Below.heap_setCell w ⟨b, o, none⟩ x k (show k ≠ b by omega))
theorem own_fars {B n b : Nat} {v : Value} {xs : List Value} (hb : b < B) : ∀ (vs : List Value) (o : Nat) {w : World}, w.ownsRow B 5 1 v n xs → (w.setCells b o vs).ownsRow B 5 1 v n xs
  | [], o, w, h => h
  | x :: vs, o, w, h => own_fars hb vs (o + 1) (own_far h hb x)
theorem bl_grown {w w' : World} {B : Nat} {x : Option Nat} (h : w.grownBy w' x) (hB : B ≤ w.heap.size) (hx : ∀ k, x = some k → B ≤ k) : Below B w w' := (Below.refl B w).grown h hB hx
/-- A byte is appended. -/
theorem app1 {ops : Array Oper} {rest : List Oper} {o : Oper} {a : Act} {w : World} {Q : Exit → Act → World → Prop} (hgd : o.guard = none) (s x : Operand) (ho : o.op = .call { callee := .builtin .append, args := #[s, x], argTypes := #[22, 22] })
    (B : Nat) (v : Value) (xs : List UInt8) (hs : a.eval s = v) (hown : w.ownsRow B 5 1 v xs.length (bcs xs)) (g c : Nat) (y : UInt8) (z : Int) (hx : a.eval x = .slice (some ⟨g, 0, none⟩) 1 c) (hc : w.cell? ⟨g, 0, none⟩ = some (.int .u8 z)) (hz : z = y.toNat) (hl : xs.length ≤ 50000) (hB : B ≤ w.heap.size)
    (h : ∀ v' w', w'.ownsRow B 5 1 v' (xs ++ [y]).length (bcs (xs ++ [y])) → Below B w w' → wpList Try.prog ops Q rest (a.put o.dst v') w') : wpList Try.prog ops Q (o :: rest) a w := by
  obtain ⟨i0, hi0, hz0, hz1, hz2⟩ := info_parts info_byte
  subst hz
  refine wpList_append_own _ hgd s x _ ho B 5 i0 _ 1 1 Try.underlying22 hi0 hz0 hz1 hz2 rfl (by omega) v xs.length (bcs xs) hs hown ⟨g, 0, none⟩ 1 c [.int .u8 y.toNat] hx rfl (fun j u hj => ?_) (fun u hu => ?_) (by unfold maxLen; omega) (by omega) hB ?_
  · match j, hj with
    | 0, hj =>
      simp only [List.getElem?_cons_zero, Option.some.injEq] at hj
      rw [← hj, addr_add]; exact hc
  · simp only [List.mem_singleton] at hu; rw [hu]; rfl
  · intro v' w' hown' hgrow _
    refine h _ w' ?_ (bl_grown hgrow hB (fun k hk => (hown.lt k hk).1))
    rw [List.length_append, ← bcs_append]; exact hown'

theorem info_three : (Try.prog.info? 34).map (·.size) = some 15 := by kernel_rfl
theorem info_sound : (Try.prog.info? 36).map (·.size) = some 16 := by kernel_rfl
theorem under_three : Try.prog.underlying 34 = some (.array 3 33) := by kernel_rfl
theorem load3 {W : World} {b : Nat} {x : Sd} (h : Bx W b (scs x)) : (Instr.loadAt 34 (.pointer (some ⟨b, 0, none⟩))).run Try.prog W = .ok (.agg #[.int .u16 x.a.p, .int .u16 x.a.c, .int .u8 x.a.l, .bool x.a.h, .int .u16 x.a.n, .int .u16 x.b.p, .int .u16 x.b.c, .int .u8 x.b.l, .bool x.b.h, .int .u16 x.b.n, .int .u16 x.c.p, .int .u16 x.c.c, .int .u8 x.c.l, .bool x.c.h, .int .u16 x.c.n]) W :=
  run_loadAt_mid W b 0 34 _ _ (h.mid 0 15) under_three rfl info_three
theorem loadS {W : World} {b : Nat} {x : Sd} (h : Bx W b (scs x)) : (loadVar 36 ⟨b, 0, none⟩).run Try.prog W = .ok (.agg #[.int .u16 x.a.p, .int .u16 x.a.c, .int .u8 x.a.l, .bool x.a.h, .int .u16 x.a.n, .int .u16 x.b.p, .int .u16 x.b.c, .int .u8 x.b.l, .bool x.b.h, .int .u16 x.b.n, .int .u16 x.c.p, .int .u16 x.c.c, .int .u8 x.c.l, .bool x.c.h, .int .u16 x.c.n, .int .i64 x.w]) W :=
  run_loadVar_mid W b 0 36 _ _ h.c Try.underlying36 rfl info_sound
/-- Where samples are made. -/
structure SmW (w : World) (x : Sd) (l : List UInt8) (v : Value) (W : World) : Prop where
  low : Below w.heap.size w W
  b : Bx W w.heap.size (scs x)
  r : Bx W (w.heap.size + 1) zs
  o : W.ownsRow (w.heap.size + 2) 5 1 v l.length (bcs l)
section
variable {w W w1 : World} {x : Sd} {l : List UInt8} {v : Value}
theorem SmW.kept (h : SmW w x l v W) (hb : Below W.heap.size W w1) : SmW w x l v w1 := ⟨stp h.low hb, h.b.kept hb, h.r.kept hb, own_kept h.o hb⟩
theorem SmW.over (h : SmW w x l v W) (o : Obj) : SmW w x l v (W.alloc o) := h.kept (stA (st0 W) o)
theorem SmW.app (h : SmW w x l v W) {l' : List UInt8} {v' : Value} (hb : Below (w.heap.size + 2) W w1) (ho : w1.ownsRow (w.heap.size + 2) 5 1 v' l'.length (bcs l')) : SmW w x l' v' w1 := ⟨h.low.trans (hb.mono (by omega)), h.b.under hb (by omega), h.r.under hb (by omega), ho⟩
theorem SmW.wait (h : SmW w x l v W) (z : Int) : SmW w ⟨x.a, x.b, x.c, z⟩ l v (W.setCell ⟨w.heap.size, 15, none⟩ (.int .i64 z)) := ⟨Bl.set h.low (Nat.le_refl _) _, h.b.set 15 _ (by simp), h.r.far (by omega) _, own_far h.o (by omega) _⟩
theorem SmW.v0 (h : SmW w x l v W) (y : Vc) : SmW w ⟨y, x.b, x.c, x.w⟩ l v (((((W.setCell ⟨w.heap.size, 0, none⟩ (.int .u16 y.p)).setCell ⟨w.heap.size, 1, none⟩ (.int .u16 y.c)).setCell ⟨w.heap.size, 2, none⟩ (.int .u8 y.l)).setCell ⟨w.heap.size, 3, none⟩ (.bool y.h)).setCell ⟨w.heap.size, 4, none⟩ (.int .u16 y.n)) :=
  ⟨Bl.puts (o := 0) h.low (Nat.le_refl _) (vcs y), h.b.puts 0 (vcs y) (by simp), h.r.fars (by omega) 0 (vcs y), own_fars (by omega) (vcs y) 0 h.o⟩
theorem SmW.v1 (h : SmW w x l v W) (y : Vc) : SmW w ⟨x.a, y, x.c, x.w⟩ l v (((((W.setCell ⟨w.heap.size, 5, none⟩ (.int .u16 y.p)).setCell ⟨w.heap.size, 6, none⟩ (.int .u16 y.c)).setCell ⟨w.heap.size, 7, none⟩ (.int .u8 y.l)).setCell ⟨w.heap.size, 8, none⟩ (.bool y.h)).setCell ⟨w.heap.size, 9, none⟩ (.int .u16 y.n)) :=
  ⟨Bl.puts (o := 5) h.low (Nat.le_refl _) (vcs y), h.b.puts 5 (vcs y) (by simp), h.r.fars (by omega) 5 (vcs y), own_fars (by omega) (vcs y) 5 h.o⟩
theorem SmW.v2 (h : SmW w x l v W) (y : Vc) : SmW w ⟨x.a, x.b, y, x.w⟩ l v (((((W.setCell ⟨w.heap.size, 10, none⟩ (.int .u16 y.p)).setCell ⟨w.heap.size, 11, none⟩ (.int .u16 y.c)).setCell ⟨w.heap.size, 12, none⟩ (.int .u8 y.l)).setCell ⟨w.heap.size, 13, none⟩ (.bool y.h)).setCell ⟨w.heap.size, 14, none⟩ (.int .u16 y.n)) :=
  ⟨Bl.puts (o := 10) h.low (Nat.le_refl _) (vcs y), h.b.puts 10 (vcs y) (by simp), h.r.fars (by omega) 10 (vcs y), own_fars (by omega) (vcs y) 10 h.o⟩
theorem SmW.w15 (h : SmW w x l v W) : W.cell? ⟨w.heap.size, 15, none⟩ = some (.int .i64 x.w) := h.b.at 15 _ rfl
theorem SmW.cs (h : SmW w x l v W) : (∀ o, o < 15 → (W.cell? ⟨w.heap.size, o, none⟩).isSome = true) := fun o ho => by
  rw [h.b.at o ((scs x)[o]'(by simp; omega)) (List.getElem?_eq_getElem _)]; rfl
end
end Go.Proofs.Ythooknikfachnaa
