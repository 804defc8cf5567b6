/-
  What ToneRuns holds.
-/
import Derived.Test.YtjmmbbehjklhgaaTonU
namespace Go.Proofs.Ytjmmbbehjklhgaa
open Go.ChangeShapes Go.WideShapes Go.ChangeAt Go.RowKit
set_option linter.unusedVariables false

structure R1 (w : World) (bx : Nat) (v : Vc) (s : Sd) (x : Vc) (W : World) : Prop where
  low : Below w.heap.size w W
  v : Bx W w.heap.size (vcs v)
  s : Bx W (w.heap.size + 1) (scs s)
  x : Bx W bx (vcs x)
  bxn : w.heap.size + 2 ≤ bx
structure R2 (w : World) (bx bo : Nat) (v : Vc) (s : Sd) (x : Vc) (oc : List Value) (vl : Value) (L : List UInt8) (W : World) : Prop extends R1 w bx v s x W where
  o : Bx W bo oc
  l : sliceAt W vl L
  bon : w.heap.size + 2 ≤ bo
  lo : ∀ k, vl.ownBlock = some k → w.heap.size + 2 ≤ k
theorem setCells_size (b : Nat) : ∀ (vs : List Value) (o : Nat) (X : World), (X.setCells b o vs).heap.size = X.heap.size
  | [], o, X => rfl
  | v :: vs, o, X => by show ((X.setCell ⟨b, o, none⟩ v).setCells b (o + 1) vs).heap.size = _; rw [setCells_size b vs]; simp
theorem sliceAt.fars {W : World} {v : Value} {l : List UInt8} {b : Nat} (h : sliceAt W v l) (hb : ∀ k, v.ownBlock = some k → b ≠ k) (o : Nat) (vs : List Value) : sliceAt (W.setCells b o vs) v l := by
  rcases h with h | ⟨g, o', cap, h1, h2, h3, h4⟩
  · exact Or.inl h
  · have hne : b ≠ g := hb g (by rw [h1]; rfl)
    have hs : ∀ (vs : List Value) (o : Nat) (X : World), (X.setCells b o vs).heap.size = X.heap.size := by
      intro vs
      induction vs with
      | nil => intro o X; rfl
      | cons v vs ih => intro o X; show ((X.setCell ⟨b, o, none⟩ v).setCells b (o + 1) vs).heap.size = _; rw [ih]; simp
    exact Or.inr ⟨g, o', cap, h1, h2, by rw [hs]; exact h3, fun j c hj => (World.cell?_setCells_out _ vs o W _ (fun e => absurd e.symm hne)).trans (h4 j c hj)⟩
theorem sliceAt.under {W0 W W' : World} {v : Value} {l : List UInt8} (h0 : sliceAt W0 v l) (h : sliceAt W v l) (hb : Below W0.heap.size W W') : sliceAt W' v l := by
  rcases h with h | ⟨g, o', cap, h1, h2, h3, h4⟩
  · exact Or.inl h
  · rcases h0 with ⟨a, c, e1, e2⟩ | ⟨g0, o0, c0, e1, e2, e3, e4⟩
    · exact Or.inl ⟨a, c, e1, e2⟩
    · have hg : g < W0.heap.size := by
        rw [h1] at e1
        simp only [Value.slice.injEq, Option.some.injEq, Addr.mk.injEq] at e1
        rw [e1.1.1]; exact e3
      exact Or.inr ⟨g, o', cap, h1, h2, Nat.lt_of_lt_of_le h3 hb.size, h4.kept hb hg⟩
section
variable {w W w1 : World} {bx bo : Nat} {v v0 x : Vc} {s s0 : Sd} {oc : List Value} {vl : Value} {L : List UInt8}
theorem R1.kept (h : R1 w bx v s x W) (hb : Below W.heap.size W w1) : R1 w bx v s x w1 := ⟨stp h.low hb, h.v.kept hb, h.s.kept hb, h.x.kept hb, h.bxn⟩
theorem R2.kept (h : R2 w bx bo v s x oc vl L W) (hb : Below W.heap.size W w1) : R2 w bx bo v s x oc vl L w1 := ⟨h.toR1.kept hb, h.o.kept hb, h.l.kept hb, h.bon, h.lo⟩
theorem R2.drew (h : R2 w bx bo v s x oc vl L W) : R2 w bx bo v s x oc vl L W.drew := h.kept (st0 W).drew
theorem R2.under {W0 : World} (h : R2 w bx bo v s x oc vl L W) (hb : Below W0.heap.size W w1) (h0 : R2 w bx bo v0 s0 x oc vl L W0) : R2 w bx bo v s x oc vl L w1 := by
  have e := h0.s.z
  exact ⟨⟨h.low.trans (hb.mono (by omega)), h.v.under hb (by omega), h.s.under hb (by omega), h.x.under hb h0.x.z, h.bxn⟩, h.o.under hb h0.o.z, sliceAt.under h0.l h.l hb, h.bon, h.lo⟩
theorem R2.putv (h : R2 w bx bo v s x oc vl L W) (y : Vc) : R2 w bx bo y s x oc vl L (((((W.setCell ⟨w.heap.size, 0, none⟩ (.int .u16 y.p)).setCell ⟨w.heap.size, 1, none⟩ (.int .u16 y.c)).setCell ⟨w.heap.size, 2, none⟩ (.int .u8 y.l)).setCell ⟨w.heap.size, 3, none⟩ (.bool y.h)).setCell ⟨w.heap.size, 4, none⟩ (.int .u16 y.n)) := by
  have hx := h.bxn
  have ho := h.bon
  exact ⟨⟨Bl.puts (o := 0) h.low (Nat.le_refl _) (vcs y), h.v.puts 0 (vcs y) (by simp), h.s.fars (by omega) 0 (vcs y), h.x.fars (by omega) 0 (vcs y), h.bxn⟩, h.o.fars (by omega) 0 (vcs y), h.l.fars (fun k hk => by have := h.lo k hk; omega) 0 (vcs y), h.bon, h.lo⟩
theorem R2.puts (h : R2 w bx bo v s x oc vl L W) (y : Sd) : R2 w bx bo v y x oc vl L (W.setCells (w.heap.size + 1) 0 (scs y)) := by
  have hx := h.bxn
  have ho := h.bon
  exact ⟨⟨Bl.puts (o := 0) h.low (by omega) (scs y), h.v.fars (by omega) 0 (scs y), h.s.puts 0 (scs y) (by simp), h.x.fars (by omega) 0 (scs y), h.bxn⟩, h.o.fars (by omega) 0 (scs y), h.l.fars (fun k hk => by have := h.lo k hk; omega) 0 (scs y), h.bon, h.lo⟩
theorem r2all (h : R2 w bx bo v s x oc vl L W) : W.cell? ⟨w.heap.size, 0, none⟩ = some (.int .u16 v.p) ∧ W.cell? ⟨w.heap.size, 1, none⟩ = some (.int .u16 v.c) ∧ W.cell? ⟨w.heap.size, 2, none⟩ = some (.int .u8 v.l) ∧ W.cell? ⟨w.heap.size, 3, none⟩ = some (.bool v.h) ∧ W.cell? ⟨w.heap.size, 4, none⟩ = some (.int .u16 v.n) ∧ W.cell? ⟨w.heap.size + 1, 0, none⟩ = some (.int .u16 s.a.p) ∧ W.cell? ⟨w.heap.size + 1, 1, none⟩ = some (.int .u16 s.a.c) ∧ W.cell? ⟨w.heap.size + 1, 2, none⟩ = some (.int .u8 s.a.l) ∧ W.cell? ⟨w.heap.size + 1, 3, none⟩ = some (.bool s.a.h) ∧ W.cell? ⟨w.heap.size + 1, 4, none⟩ = some (.int .u16 s.a.n) ∧ W.cell? ⟨w.heap.size + 1, 5, none⟩ = some (.int .u16 s.b.p) ∧ W.cell? ⟨w.heap.size + 1, 6, none⟩ = some (.int .u16 s.b.c) ∧ W.cell? ⟨w.heap.size + 1, 7, none⟩ = some (.int .u8 s.b.l) ∧ W.cell? ⟨w.heap.size + 1, 8, none⟩ = some (.bool s.b.h) ∧ W.cell? ⟨w.heap.size + 1, 9, none⟩ = some (.int .u16 s.b.n) ∧ W.cell? ⟨w.heap.size + 1, 10, none⟩ = some (.int .u16 s.c.p) ∧ W.cell? ⟨w.heap.size + 1, 11, none⟩ = some (.int .u16 s.c.c) ∧ W.cell? ⟨w.heap.size + 1, 12, none⟩ = some (.int .u8 s.c.l) ∧ W.cell? ⟨w.heap.size + 1, 13, none⟩ = some (.bool s.c.h) ∧ W.cell? ⟨w.heap.size + 1, 14, none⟩ = some (.int .u16 s.c.n) ∧ W.cell? ⟨w.heap.size + 1, 15, none⟩ = some (.int .i64 s.w) ∧ R2 w bx bo v s x oc vl L W := ⟨h.v.at 0 _ rfl, h.v.at 1 _ rfl, h.v.at 2 _ rfl, h.v.at 3 _ rfl, h.v.at 4 _ rfl, h.s.at 0 _ rfl, h.s.at 1 _ rfl, h.s.at 2 _ rfl, h.s.at 3 _ rfl, h.s.at 4 _ rfl, h.s.at 5 _ rfl, h.s.at 6 _ rfl, h.s.at 7 _ rfl, h.s.at 8 _ rfl, h.s.at 9 _ rfl, h.s.at 10 _ rfl, h.s.at 11 _ rfl, h.s.at 12 _ rfl, h.s.at 13 _ rfl, h.s.at 14 _ rfl, h.s.at 15 _ rfl, h⟩
theorem r2keep (h : W.cell? ⟨w.heap.size, 0, none⟩ = some (.int .u16 v.p) ∧ W.cell? ⟨w.heap.size, 1, none⟩ = some (.int .u16 v.c) ∧ W.cell? ⟨w.heap.size, 2, none⟩ = some (.int .u8 v.l) ∧ W.cell? ⟨w.heap.size, 3, none⟩ = some (.bool v.h) ∧ W.cell? ⟨w.heap.size, 4, none⟩ = some (.int .u16 v.n) ∧ W.cell? ⟨w.heap.size + 1, 0, none⟩ = some (.int .u16 s.a.p) ∧ W.cell? ⟨w.heap.size + 1, 1, none⟩ = some (.int .u16 s.a.c) ∧ W.cell? ⟨w.heap.size + 1, 2, none⟩ = some (.int .u8 s.a.l) ∧ W.cell? ⟨w.heap.size + 1, 3, none⟩ = some (.bool s.a.h) ∧ W.cell? ⟨w.heap.size + 1, 4, none⟩ = some (.int .u16 s.a.n) ∧ W.cell? ⟨w.heap.size + 1, 5, none⟩ = some (.int .u16 s.b.p) ∧ W.cell? ⟨w.heap.size + 1, 6, none⟩ = some (.int .u16 s.b.c) ∧ W.cell? ⟨w.heap.size + 1, 7, none⟩ = some (.int .u8 s.b.l) ∧ W.cell? ⟨w.heap.size + 1, 8, none⟩ = some (.bool s.b.h) ∧ W.cell? ⟨w.heap.size + 1, 9, none⟩ = some (.int .u16 s.b.n) ∧ W.cell? ⟨w.heap.size + 1, 10, none⟩ = some (.int .u16 s.c.p) ∧ W.cell? ⟨w.heap.size + 1, 11, none⟩ = some (.int .u16 s.c.c) ∧ W.cell? ⟨w.heap.size + 1, 12, none⟩ = some (.int .u8 s.c.l) ∧ W.cell? ⟨w.heap.size + 1, 13, none⟩ = some (.bool s.c.h) ∧ W.cell? ⟨w.heap.size + 1, 14, none⟩ = some (.int .u16 s.c.n) ∧ W.cell? ⟨w.heap.size + 1, 15, none⟩ = some (.int .i64 s.w) ∧ R2 w bx bo v s x oc vl L W) (hb : Below W.heap.size W w1) : w1.cell? ⟨w.heap.size, 0, none⟩ = some (.int .u16 v.p) ∧ w1.cell? ⟨w.heap.size, 1, none⟩ = some (.int .u16 v.c) ∧ w1.cell? ⟨w.heap.size, 2, none⟩ = some (.int .u8 v.l) ∧ w1.cell? ⟨w.heap.size, 3, none⟩ = some (.bool v.h) ∧ w1.cell? ⟨w.heap.size, 4, none⟩ = some (.int .u16 v.n) ∧ w1.cell? ⟨w.heap.size + 1, 0, none⟩ = some (.int .u16 s.a.p) ∧ w1.cell? ⟨w.heap.size + 1, 1, none⟩ = some (.int .u16 s.a.c) ∧ w1.cell? ⟨w.heap.size + 1, 2, none⟩ = some (.int .u8 s.a.l) ∧ w1.cell? ⟨w.heap.size + 1, 3, none⟩ = some (.bool s.a.h) ∧ w1.cell? ⟨w.heap.size + 1, 4, none⟩ = some (.int .u16 s.a.n) ∧ w1.cell? ⟨w.heap.size + 1, 5, none⟩ = some (.int .u16 s.b.p) ∧ w1.cell? ⟨w.heap.size + 1, 6, none⟩ = some (.int .u16 s.b.c) ∧ w1.cell? ⟨w.heap.size + 1, 7, none⟩ = some (.int .u8 s.b.l) ∧ w1.cell? ⟨w.heap.size + 1, 8, none⟩ = some (.bool s.b.h) ∧ w1.cell? ⟨w.heap.size + 1, 9, none⟩ = some (.int .u16 s.b.n) ∧ w1.cell? ⟨w.heap.size + 1, 10, none⟩ = some (.int .u16 s.c.p) ∧ w1.cell? ⟨w.heap.size + 1, 11, none⟩ = some (.int .u16 s.c.c) ∧ w1.cell? ⟨w.heap.size + 1, 12, none⟩ = some (.int .u8 s.c.l) ∧ w1.cell? ⟨w.heap.size + 1, 13, none⟩ = some (.bool s.c.h) ∧ w1.cell? ⟨w.heap.size + 1, 14, none⟩ = some (.int .u16 s.c.n) ∧ w1.cell? ⟨w.heap.size + 1, 15, none⟩ = some (.int .i64 s.w) ∧ R2 w bx bo v s x oc vl L w1 := by
  obtain ⟨_, _, _, _, _, _, _, _, _, _, _, _, _, _, _, _, _, _, _, _, _, h⟩ := h
  exact r2all (h.kept hb)
end
theorem there16s {W : World} {b : Nat} {x : Sd} (h : Bx W b (scs x)) : W.there b 0 16 := h.there 0 16 (by simp)
theorem neq_voiceL (v : Vc) (w : World) : (binOp .neq 24 (.agg (vcs v).toArray) (.agg (vcs v).toArray)).run Try.prog w = .ok (.bool false) w := neq_voice v w
theorem eq_soundL (s : Sd) (w : World) : (binOp .eql 27 (.agg (scs s).toArray) (.agg (scs s).toArray)).run Try.prog w = .ok (.bool true) w := eq_sound s w
end Go.Proofs.Ytjmmbbehjklhgaa
