/-
  Voices and sounds that came in.
-/
import Derived.Test.YtjmmbbehjklhgaaTonD
namespace Go.Proofs.Ytjmmbbehjklhgaa
open Go.ChangeShapes Go.WideShapes Go.ChangeAt Go.RowKit
set_option linter.unusedVariables false

theorem fld {H : Type} {enc : TypeId × Value → H} {P : Program} {w : World} {base : Nat} {spare : Nat → Bool} {held : Bool} {n i o : Nat} {ty : TypeId} {cs : List Value} {xs : List (DataW H × List MemPlace)}
    (h : DataW.trod enc P w base spare held n ty ((cs.drop o).take (P.cellsOf ty)) = xs[i]?) (hi : i < xs.length) (hc : P.cellsOf ty = 1) {v : Value} (hv : cs[o]? = some v) : ∃ y, DataW.trod enc P w base spare held n ty [v] = some y := by
  rw [hc, List.getElem?_eq_getElem hi] at h
  have e : (cs.drop o).take 1 = [v] := by
    rw [List.take_one, List.head?_drop, hv]
    rfl
  rw [e] at h
  exact ⟨_, h⟩
theorem fld_int {H : Type} {enc : TypeId × Value → H} {P : Program} {w : World} {base : Nat} {spare : Nat → Bool} {held : Bool} {n i o : Nat} {ty : TypeId} {cs : List Value} {xs : List (DataW H × List MemPlace)} {k : IntKind}
    (h : DataW.trod enc P w base spare held n ty ((cs.drop o).take (P.cellsOf ty)) = xs[i]?) (hi : i < xs.length) (hc : P.cellsOf ty = 1) (ht : P.underlying ty = some (.int k)) {v : Value} (hv : cs[o]? = some v) : ∃ a : Int, v = .int k a ∧ (Lit.int k a).wf = true := by
  obtain ⟨y, hy⟩ := fld h hi hc hv
  obtain ⟨a, e, _, hw⟩ := DataW.trod_int ht hy
  simp only [List.cons.injEq, and_true] at e
  exact ⟨a, e, hw⟩
theorem fld_bool {H : Type} {enc : TypeId × Value → H} {P : Program} {w : World} {base : Nat} {spare : Nat → Bool} {held : Bool} {n i o : Nat} {ty : TypeId} {cs : List Value} {xs : List (DataW H × List MemPlace)}
    (h : DataW.trod enc P w base spare held n ty ((cs.drop o).take (P.cellsOf ty)) = xs[i]?) (hi : i < xs.length) (hc : P.cellsOf ty = 1) (ht : P.underlying ty = some .bool) {v : Value} (hv : cs[o]? = some v) : ∃ a : Bool, v = .bool a := by
  obtain ⟨y, hy⟩ := fld h hi hc hv
  obtain ⟨a, e, _⟩ := DataW.trod_bool ht hy
  simp only [List.cons.injEq, and_true] at e
  exact ⟨a, e⟩
theorem trod_voice {H : Type} {enc : TypeId × Value → H} {w : World} {base : Nat} {spare : Nat → Bool} {held : Bool} {m : Nat} {c0 c1 c2 c3 c4 : Value} {x : DataW H × List MemPlace} (h : DataW.trod enc Try.prog w base spare held m 24 [c0, c1, c2, c3, c4] = some x) :
    ∃ v : Vc, [c0, c1, c2, c3, c4] = vcs v ∧ v.ok := by
  have hU : Try.prog.cellsOf 22 = 1 := by kernel_rfl
  have hB : Try.prog.cellsOf 4 = 1 := by kernel_rfl
  have hE : Try.prog.cellsOf 5 = 1 := by kernel_rfl
  obtain ⟨xs, n, _, _, _, hlen, hfs⟩ := DataW.trod_struct Try.underlying24 h
  have hl5 : xs.length = 5 := hlen
  obtain ⟨a0, rfl, w0⟩ := fld_int (ty := 22) (o := 0) (v := c0) (hfs 0 _ rfl) (by omega) hU Try.underlying22 rfl
  obtain ⟨a1, rfl, w1⟩ := fld_int (ty := 22) (o := 1) (v := c1) (hfs 1 _ rfl) (by omega) hU Try.underlying22 rfl
  obtain ⟨a2, rfl, w2⟩ := fld_int (ty := 5) (o := 2) (v := c2) (hfs 2 _ rfl) (by omega) hE Try.underlying5 rfl
  obtain ⟨b3, rfl⟩ := fld_bool (ty := 4) (o := 3) (v := c3) (hfs 3 _ rfl) (by omega) hB Try.underlying4 rfl
  obtain ⟨a4, rfl, w4⟩ := fld_int (ty := 22) (o := 4) (v := c4) (hfs 4 _ rfl) (by omega) hU Try.underlying22 rfl
  exact ⟨⟨a0, a1, a2, b3, a4⟩, rfl, bounds_u16 w0, bounds_u16 w1, bounds_u8 w2, bounds_u16 w4⟩
/-- A voice that came in. -/
theorem open_voice {H : Type} {enc : TypeId × Value → H} {w : World} {base : Nat} {spare : Nat → Bool} {held : Bool} {r : Reach} {bb : Nat} {v : Value} {d : DataW H} {p : List MemPlace}
    (hv : Value.okWide Try.prog w r bb 24 v) (h : DataW.Trod enc Try.prog w base spare held 24 v d p) : ∃ x : Vc, v = (.agg #[.int .u16 x.p, .int .u16 x.c, .int .u8 x.l, .bool x.h, .int .u16 x.n]) ∧ x.ok := by
  have hC : Try.prog.cellsOf 24 = 5 := by kernel_rfl
  obtain ⟨cs, rfl, hsz⟩ := okWide_struct Try.underlying24 hv
  have h5 : ∃ c0 c1 c2 c3 c4, cs = #[c0, c1, c2, c3, c4] := by
    have := hsz.trans hC
    obtain ⟨l⟩ := cs
    match l, this with
    | [c0, c1, c2, c3, c4], _ => exact ⟨c0, c1, c2, c3, c4, rfl⟩
  obtain ⟨c0, c1, c2, c3, c4, rfl⟩ := h5
  obtain ⟨fuel, hf⟩ := h
  obtain ⟨x, e, hx⟩ := trod_voice hf
  exact ⟨x, by rw [show (#[c0, c1, c2, c3, c4] : Array Value) = [c0, c1, c2, c3, c4].toArray from rfl, e], hx⟩
set_option maxRecDepth 100000 in
/-- A sound that came in. -/
theorem open_sound {H : Type} {enc : TypeId × Value → H} {w : World} {base : Nat} {spare : Nat → Bool} {held : Bool} {r : Reach} {bb : Nat} {v : Value} {d : DataW H} {p : List MemPlace}
    (hv : Value.okWide Try.prog w r bb 27 v) (h : DataW.Trod enc Try.prog w base spare held 27 v d p) : ∃ s : Sd, v = (.agg #[.int .u16 s.a.p, .int .u16 s.a.c, .int .u8 s.a.l, .bool s.a.h, .int .u16 s.a.n, .int .u16 s.b.p, .int .u16 s.b.c, .int .u8 s.b.l, .bool s.b.h, .int .u16 s.b.n, .int .u16 s.c.p, .int .u16 s.c.c, .int .u8 s.c.l, .bool s.c.h, .int .u16 s.c.n, .int .i64 s.w]) ∧ s.ok ∧ (Lit.int .i64 s.w).wf = true := by
  have hC : Try.prog.cellsOf 27 = 16 := by kernel_rfl
  have hV : Try.prog.cellsOf 24 = 5 := by kernel_rfl
  have hI : Try.prog.cellsOf 3 = 1 := by kernel_rfl
  have hR : Try.prog.cellsOf 25 = 15 := by kernel_rfl
  obtain ⟨cs, rfl, hsz⟩ := okWide_struct Try.underlying27 hv
  have h16 : ∃ c0 c1 c2 c3 c4 c5 c6 c7 c8 c9 c10 c11 c12 c13 c14 c15, cs = #[c0, c1, c2, c3, c4, c5, c6, c7, c8, c9, c10, c11, c12, c13, c14, c15] := by
    have := hsz.trans hC
    obtain ⟨l⟩ := cs
    match l, this with
    | [c0, c1, c2, c3, c4, c5, c6, c7, c8, c9, c10, c11, c12, c13, c14, c15], _ => exact ⟨c0, c1, c2, c3, c4, c5, c6, c7, c8, c9, c10, c11, c12, c13, c14, c15, rfl⟩
  obtain ⟨c0, c1, c2, c3, c4, c5, c6, c7, c8, c9, c10, c11, c12, c13, c14, c15, rfl⟩ := h16
  obtain ⟨fuel, hf⟩ := h
  obtain ⟨xs, n, _, _, _, hlen, hfs⟩ := DataW.trod_struct Try.underlying27 hf
  have hl2 : xs.length = 2 := hlen
  have g0 : DataW.trod enc Try.prog w base spare held n 25 (([c0, c1, c2, c3, c4, c5, c6, c7, c8, c9, c10, c11, c12, c13, c14, c15].drop 0).take (Try.prog.cellsOf 25)) = xs[0]? := hfs 0 _ rfl
  rw [List.getElem?_eq_getElem (by omega), hR] at g0
  obtain ⟨ys, m, _, _, _, hyl, hys⟩ := DataW.trod_array under_three g0
  have y0 := hys 0 (by omega)
  have y1 := hys 1 (by omega)
  have y2 := hys 2 (by omega)
  rw [hV, List.getElem?_eq_getElem (by omega)] at y0 y1 y2
  obtain ⟨va, ea, ha⟩ := trod_voice (c0 := c0) (c1 := c1) (c2 := c2) (c3 := c3) (c4 := c4) y0
  obtain ⟨vb, eb, hb⟩ := trod_voice (c0 := c5) (c1 := c6) (c2 := c7) (c3 := c8) (c4 := c9) y1
  obtain ⟨vc, ec, hc⟩ := trod_voice (c0 := c10) (c1 := c11) (c2 := c12) (c3 := c13) (c4 := c14) y2
  obtain ⟨a15, rfl, w15⟩ := fld_int (ty := 3) (o := 15) (v := c15) (hfs 1 _ rfl) (by omega) hI Try.underlying3 rfl
  simp only [List.cons.injEq, and_true] at ea eb ec
  obtain ⟨rfl, rfl, rfl, rfl, rfl⟩ := ea
  obtain ⟨rfl, rfl, rfl, rfl, rfl⟩ := eb
  obtain ⟨rfl, rfl, rfl, rfl, rfl⟩ := ec
  exact ⟨⟨va, vb, vc, a15⟩, rfl, ⟨ha, hb, hc⟩, w15⟩
end Go.Proofs.Ytjmmbbehjklhgaa
