/-
  '==' of beams; a beam that came in; the laws' closed fact.
-/
import Derived.Test.YteanddobckpcpaaBemB
namespace Go.Proofs.Yteanddobckpcpaa
open Go.ChangeShapes Go.WideShapes Go.ChangeAt Go.RowKit
set_option linter.unusedVariables false

set_option maxRecDepth 100000 in
theorem eq_beam (l a f : Int) (g : Bool) (w : World) : (binOp .eql 23 (.agg #[.int .i64 l, .int .i64 a, .bool g, .int .i64 f]) (.agg #[.int .i64 l, .int .i64 a, .bool g, .int .i64 f])).run Try.prog w = .ok (.bool true) w := by
  have u3 := Try.underlying3
  have a3 := Try.isAgg3
  have z3 := Try.sizeOf3
  have u4 := Try.underlying4
  have a4 := Try.isAgg4
  have z4 := Try.sizeOf4
  have hS : Try.prog.underlying 23 = some (.struct (Try.prog.fieldsOf 23)) := by kernel_rfl
  have hp : Try.prog.stoodInHeld 23 = false := by kernel_rfl
  rw [run_eql_struct, show (10000 : Nat) = 9999 + 1 from rfl, run_equalIn_agg w 9999 23 _ _ hS hp]
  simp only [Program.fieldsOf, Try.underlying23]
  go_simp
theorem Bm.beamed_any (w : World) : Calls Try.prog 7 #[] w fun e w' => e = .returned (.bool true) ∧ Below w.heap.size w w' := by
  have he := eq_beam 8 0 0 true
  have he2 := eq_beam 0 0 1 false
  have h1 : BOk 7 60 0 := ⟨by omega, by omega, by omega, by omega, by omega, by omega⟩
  have h2 : BOk 9 63 0 := ⟨by omega, by omega, by omega, by omega, by omega, by omega⟩
  have q1 : bmL 7 60 4 = 8 ∧ bmA 7 60 4 = 0 ∧ bmG 7 60 false 4 = true ∧ bmF 7 60 0 4 = 0 := by decide
  have q2 : bmL 9 63 1 = 0 ∧ bmA 9 63 1 = 0 ∧ bmG 9 63 false 1 = false ∧ bmF 9 63 0 1 = 1 := by decide
  have H1 := hid h1
  have H2 := hid h2
  have Q1 := hid q1
  have Q2 := hid q2
  clear h1 h2 q1 q2
  go_enter Try.func7, Try.ntmps7
  go_wp2_with (first
    | (have zz := hb1.size; clear zz; go_at_call 5; refine (Bm.run_any 9 63 0 1 false _ H2.out (by omega)).mono ?_; rw [Q2.out.1, Q2.out.2.1, Q2.out.2.2.1, Q2.out.2.2.2]; rintro e w2 ⟨rfl, hb2⟩; obtain ⟨k2, f2⟩ := bcell hb2; have z2 : w1.heap.size < w2.heap.size := Nat.lt_of_lt_of_le (by simp) hb2.size)
    | (go_at_call 5; refine (Bm.run_any 7 60 0 4 false _ H1.out (by omega)).mono ?_; rw [Q1.out.1, Q1.out.2.1, Q1.out.2.2.1, Q1.out.2.2.2]; rintro e w1 ⟨rfl, hb1⟩))
  go_ret
  exact ⟨rfl, stA (stp (stA hb1 _) hb2) _⟩
set_option maxRecDepth 100000 in
theorem Bm.open_agg4 {H : Type} {enc : TypeId × Value → H} {P : Program} {w : World} {base : Nat} {spare : Nat → Bool} {held : Bool} {r : Reach} {b0 : Nat} {t : TypeId} {f0 f1 f2 f3 : Field} {v : Value} {d : DataW H} {p : List MemPlace}
    (hs : P.underlying t = some (.struct #[f0, f1, f2, f3])) (hone : Deep.oneCellFields P #[f0, f1, f2, f3] = true) (hC : P.cellsOf t = 4) (hv : Value.okWide P w r b0 t v) (h : DataW.Trod enc P w base spare held t v d p) :
    ∃ (v0 v1 v2 v3 : Value) (y0 y1 y2 y3 : DataW H × List MemPlace) (n : Nat), v = .agg #[v0, v1, v2, v3] ∧ d = .agg [y0.1, y1.1, y2.1, y3.1] ∧
      DataW.trod enc P w base spare held n f0.type [v0] = some y0 ∧ DataW.trod enc P w base spare held n f1.type [v1] = some y1 ∧ DataW.trod enc P w base spare held n f2.type [v2] = some y2 ∧ DataW.trod enc P w base spare held n f3.type [v3] = some y3 := by
  obtain ⟨cs, rfl, hsz⟩ := okWide_struct hs hv
  have h3 : ∃ c0 c1 c2 c3, cs = #[c0, c1, c2, c3] := by
    have := hsz.trans hC
    obtain ⟨l⟩ := cs
    match l, this with
    | [c0, c1, c2, c3], _ => exact ⟨c0, c1, c2, c3, rfl⟩
  obtain ⟨c0, c1, c2, c3, rfl⟩ := h3
  obtain ⟨fuel, hf⟩ := h
  obtain ⟨xs, n, _, hx, hl, hlen, hfs⟩ := DataW.trod_struct hs hf
  obtain ⟨o0, k0⟩ := Deep.hone_of hone 0 f0 rfl
  obtain ⟨o1, k1⟩ := Deep.hone_of hone 1 f1 rfl
  obtain ⟨o2, k2⟩ := Deep.hone_of hone 2 f2 rfl
  obtain ⟨o3, k3⟩ := Deep.hone_of hone 3 f3 rfl
  match xs, hlen with
  | [y0, y1, y2, y3], _ =>
    have g0 := hfs 0 f0 rfl
    have g1 := hfs 1 f1 rfl
    have g2 := hfs 2 f2 rfl
    have g3 := hfs 3 f3 rfl
    simp only [Prod.mk.injEq] at hx
    exact ⟨c0, c1, c2, c3, y0, y1, y2, y3, n, rfl, hx.1, by simpa [Value.cells, o0, k0] using g0, by simpa [Value.cells, o1, k1] using g1, by simpa [Value.cells, o2, k2] using g2, by simpa [Value.cells, o3, k3] using g3⟩
theorem Bm.open_beam {H : Type} {enc : TypeId × Value → H} {w : World} {base : Nat} {spare : Nat → Bool} {held : Bool} {r : Reach} {b0 : Nat} {v : Value} {d : DataW H} {p : List MemPlace}
    (hv : Value.okWide Try.prog w r b0 23 v) (h : DataW.Trod enc Try.prog w base spare held 23 v d p) :
    ∃ (l a f : Int) (g : Bool), v = .agg #[.int .i64 l, .int .i64 a, .bool g, .int .i64 f] := by
  obtain ⟨v0, v1, v2, v3, y0, y1, y2, y3, k, rfl, _, h0, h1, h2, h3⟩ := Bm.open_agg4 Try.underlying23 (by kernel_rfl) (by kernel_rfl) hv h
  obtain ⟨a0, e0, _, w0⟩ := DataW.trod_int Try.underlying3 h0
  obtain ⟨a1, e1, _, w1⟩ := DataW.trod_int Try.underlying3 h1
  obtain ⟨a2, e2, _⟩ := DataW.trod_bool Try.underlying4 h2
  obtain ⟨a3, e3, _, w3⟩ := DataW.trod_int Try.underlying3 h3
  simp only [List.cons.injEq, and_true] at e0 e1 e2 e3
  subst e0 e1 e2 e3
  exact ⟨a0, a1, a3, a2, rfl⟩
end Go.Proofs.Yteanddobckpcpaa
