/-
  What the walks ask of memory: the library's table of blanks, a number in the library's MaxLen, and the orders' shapes: out of a row's listed variables; and that a call that turns nothing old keeps them.
-/
import Derived.Test.YtdjhlfoapieohaaGreatDoorDoor
import Derived.Test.YtdjhlfoapieohaaGreatDoorOMath
import Derived.Lib.SmallJoins
import Derived.Deep.Strs
namespace Go.Proofs.YtdjhlfoapieohaaGreatDoor
open Go.ChangeShapes Go.WideShapes Go.ChangeAt Go.RowKit
set_option linter.unusedVariables false

/-- The variable shapes holds the table. -/
def shapesAt (w : World) : Prop := ∀ k, k < 32 → w.cell? ⟨3, k * 3, none⟩ = some (.string (O.nameS k)) ∧ w.cell? ⟨3, k * 3 + 1, none⟩ = some (.int .i64 (K.cyc k)) ∧ w.cell? ⟨3, k * 3 + 2, none⟩ = some (.int .i64 (O.mask k))
theorem shapes_of_laid {W : World} {l : List (String × DataW Unit)} (h : laidMet Tryz.prog l W) (hm : ("marquee/order.shapes", Rows.laid_marquee_order_shapes) ∈ l) : shapesAt W := by
  obtain ⟨g, t, cs, fuel, p, hg, ht, hv, hd⟩ := Lib.laidMet.reads h hm
  have e1 : Tryz.prog.globalNamed "marquee/order.shapes" = some 3 := by kernel_rfl
  have e2 : (Tryz.prog.globals[3]?).map (·.type) = some 144 := by kernel_rfl
  obtain rfl := Option.some.inj (e1.symm.trans hg)
  obtain rfl := Option.some.inj (e2.symm.trans ht)
  have e3 : (Rows.laid_marquee_order_shapes : DataW Unit) = .agg ((List.range 32).map fun k => .agg [.lit (.string (O.nameS k).data.toList), .lit (.int .i64 (K.cyc k)), .lit (.int .i64 (O.mask k))]) := by kernel_rfl
  rw [e3] at hd
  intro k hk
  obtain ⟨fuel', d, q, hdi, he⟩ := Lib.array_elem Tryz.underlying144 hd k hk
  simp only [List.getElem?_map, List.getElem?_range hk, Option.map_some, Option.some.injEq] at hdi
  subst hdi
  have c3 : Tryz.prog.cellsOf 117 = 3 := by kernel_rfl
  have c9 : Tryz.prog.cellsOf 9 = 1 := by kernel_rfl
  have c1 : Tryz.prog.cellsOf 3 = 1 := by kernel_rfl
  rw [c3] at he
  obtain ⟨y0, y1, y2, n, hx, _, h0, h1, h2⟩ := Deep.trod_struct3 Tryz.underlying117 he
  simp only [Prod.mk.injEq, DataW.agg.injEq, List.cons.injEq, and_true] at hx
  obtain ⟨⟨x0, x1, x2⟩, _⟩ := hx
  dsimp only at h0 h1 h2
  rw [c9] at h0
  rw [c1] at h1 h2
  obtain ⟨s, s0, s1, _⟩ := DataW.trod_string Tryz.underlying9 h0
  obtain ⟨a, a0, a1, _⟩ := DataW.trod_int Tryz.underlying3 h1
  obtain ⟨b, b0, b1, _⟩ := DataW.trod_int Tryz.underlying3 h2
  rw [s1] at x0; rw [a1] at x1; rw [b1] at x2
  simp only [DataW.lit.injEq, Lit.string.injEq, Lit.int.injEq, true_and] at x0 x1 x2
  have es : s = O.nameS k := ByteArray.ext (Array.toList_inj.1 x0.symm)
  subst es; subst x1; subst x2
  have f0 := congrArg (·[0]?) s0
  have f1 := congrArg (·[0]?) a0
  have f2 := congrArg (·[0]?) b0
  simp [List.getElem?_drop] at f0 f1 f2
  refine ⟨?_, ?_, ?_⟩
  · rw [World.var?_cell hg hv (k * 3), f0]
  · rw [World.var?_cell hg hv (k * 3 + 1), f1]
  · rw [World.var?_cell hg hv (k * 3 + 2), f2]
theorem shapesAt.lt {w : World} (h : shapesAt w) : 3 < w.heap.size := World.block_lt_of_cell? w _ (h 0 (by omega)).1
theorem shapesAt.kept {w w' : World} (h : shapesAt w) (hb : Below w.heap.size w w') : shapesAt w' := fun k hk => by
  have hl := h.lt
  obtain ⟨h1, h2, h3⟩ := h k hk
  exact ⟨(hb.cell hl).trans h1, (hb.cell hl).trans h2, (hb.cell hl).trans h3⟩

/-- What the reference's table and the orders' shapes ask. -/
structure Facts (w : World) : Prop where
  tab : Lib.TabIs Tryz.prog w "strings.asciiSpace" .u8 Lib.asciiSpaceTab
  len : ∃ m, w.cell? ⟨0, 0, none⟩ = some (.int .i64 m)
  shapes : shapesAt w
theorem g_space : Tryz.prog.globalNamed "strings.asciiSpace" = some 1 := by kernel_rfl
theorem Facts.kept {w w' : World} (h : Facts w) (hb : Below w.heap.size w w') : Facts w' := by
  obtain ⟨t, ⟨m, hm⟩, s⟩ := h
  exact ⟨Joins.tab_stays g_space t hb (Nat.le_refl _), ⟨m, (hb.cell (World.block_lt_of_cell? w _ hm)).trans hm⟩, s.kept hb⟩
theorem facts_of {W : World} {l : List (String × DataW Unit)} (h : laidMet Tryz.prog l W) (hs : W.ShapedOpen Tryz.prog) (h1 : ("strings.asciiSpace", Rows.laid_strings_asciiSpace) ∈ l) (h2 : ("marquee/order.shapes", Rows.laid_marquee_order_shapes) ∈ l) : Facts W :=
  ⟨tab_of_laid h h1, maxLen_cell hs, shapes_of_laid h h2⟩

/-! ### arguments: each reads behind the call as it did -/
theorem trodAll_below {H : Type} {enc : TypeId × Value → H} {P : Program} (hl : laidOutB P = true) {W W' : World} (hb : Below W.heap.size W W') :
    ∀ {ts : List TypeId} {vs : List Value} {ds : List (DataW H)} {ps : List MemPlace}, (∀ t ∈ ts, P.readableRec t = true ∧ t < P.types.size) → DataW.TrodAll enc P W 0 (fun _ => true) true ts vs ds ps → (∀ x ∈ ps, x.block < W.heap.size) →
      DataW.TrodAll enc P W' 0 (fun b => decide (b < W.heap.size)) true ts vs ds ps
  | [], vs, ds, ps, _, h, _ => by
    obtain ⟨rfl, rfl, rfl⟩ := trodAll_nil h
    exact trodAll_mk0
  | t :: ts, vs, ds, ps, hr, h, hlt => by
    obtain ⟨v, vs', d, ds', p, q, rfl, rfl, rfl, hd, hrest⟩ := trodAll_cons h
    exact ⟨p, q, Below.trod hl (hr t (by simp)).1 (hr t (by simp)).2 hd hb (fun x hx => hlt x (by simp [hx])), trodAll_below hl hb (fun t' ht' => hr t' (by simp [ht'])) hrest (fun x hx => hlt x (by simp [hx])), rfl⟩

theorem trodAll_below_all {H : Type} {enc : TypeId × Value → H} {P : Program} (hl : laidOutB P = true) {W W' : World} (hb : Below W.heap.size W W') {ts : List TypeId} {vs : List Value} {ds : List (DataW H)} {ps : List MemPlace}
    (hr : ts.all (fun t => P.readableRec t && decide (t < P.types.size)) = true) (h : DataW.TrodAll enc P W 0 (fun _ => true) true ts vs ds ps) (hlt : ∀ x ∈ ps, x.block < W.heap.size) :
    DataW.TrodAll enc P W' 0 (fun b => decide (b < W.heap.size)) true ts vs ds ps :=
  trodAll_below hl hb (fun t ht => by have := List.all_eq_true.1 hr t ht; simpa using this) h hlt

/-- A struct of five one-cell fields, by value, opened. -/
theorem open_agg5 {H : Type} {enc : TypeId × Value → H} {P : Program} {w : World} {base : Nat} {spare : Nat → Bool} {held : Bool} {r : Reach} {b0 : Nat} {t : TypeId} {f0 f1 f2 f3 f4 : Field} {v : Value} {d : DataW H} {p : List MemPlace}
    (hs : P.underlying t = some (.struct #[f0, f1, f2, f3, f4])) (hone : Deep.oneCellFields P #[f0, f1, f2, f3, f4] = true) (hC : P.cellsOf t = 5) (hv : Value.okWide P w r b0 t v) (h : DataW.Trod enc P w base spare held t v d p) :
    ∃ (v0 v1 v2 v3 v4 : Value) (y0 y1 y2 y3 y4 : DataW H × List MemPlace) (n : Nat), v = .agg #[v0, v1, v2, v3, v4] ∧ d = .agg [y0.1, y1.1, y2.1, y3.1, y4.1] ∧
      DataW.trod enc P w base spare held n f0.type [v0] = some y0 ∧ DataW.trod enc P w base spare held n f1.type [v1] = some y1 ∧ DataW.trod enc P w base spare held n f2.type [v2] = some y2 ∧ DataW.trod enc P w base spare held n f3.type [v3] = some y3 ∧ DataW.trod enc P w base spare held n f4.type [v4] = some y4 := by
  obtain ⟨cs, rfl, hsz⟩ := okWide_struct hs hv
  have h5 : ∃ c0 c1 c2 c3 c4, cs = #[c0, c1, c2, c3, c4] := by
    have := hsz.trans hC
    obtain ⟨l⟩ := cs
    match l, this with
    | [c0, c1, c2, c3, c4], _ => exact ⟨c0, c1, c2, c3, c4, rfl⟩
  obtain ⟨c0, c1, c2, c3, c4, rfl⟩ := h5
  obtain ⟨fuel, hf⟩ := h
  obtain ⟨xs, n, _, hx, hl, hlen, hfs⟩ := DataW.trod_struct hs hf
  obtain ⟨o0, k0⟩ := Deep.hone_of hone 0 f0 rfl
  obtain ⟨o1, k1⟩ := Deep.hone_of hone 1 f1 rfl
  obtain ⟨o2, k2⟩ := Deep.hone_of hone 2 f2 rfl
  obtain ⟨o3, k3⟩ := Deep.hone_of hone 3 f3 rfl
  obtain ⟨o4, k4⟩ := Deep.hone_of hone 4 f4 rfl
  match xs, hlen with
  | [y0, y1, y2, y3, y4], _ =>
    have g0 := hfs 0 f0 rfl
    have g1 := hfs 1 f1 rfl
    have g2 := hfs 2 f2 rfl
    have g3 := hfs 3 f3 rfl
    have g4 := hfs 4 f4 rfl
    simp only [Prod.mk.injEq] at hx
    exact ⟨c0, c1, c2, c3, c4, y0, y1, y2, y3, y4, n, rfl, hx.1, by simpa [Value.cells, o0, k0] using g0, by simpa [Value.cells, o1, k1] using g1, by simpa [Value.cells, o2, k2] using g2, by simpa [Value.cells, o3, k3] using g3, by simpa [Value.cells, o4, k4] using g4⟩
set_option maxRecDepth 100000 in
/-- An order that came in is five numbers. -/
theorem open_order {H : Type} {enc : TypeId × Value → H} {w : World} {base : Nat} {spare : Nat → Bool} {held : Bool} {r : Reach} {b0 : Nat} {v : Value} {d : DataW H} {p : List MemPlace}
    (hv : Value.okWide Tryz.prog w r b0 42 v) (h : DataW.Trod enc Tryz.prog w base spare held 42 v d p) :
    ∃ op dd s n ww : Int, v = .agg #[.int .i64 op, .int .i64 dd, .int .i64 s, .int .i64 n, .int .i64 ww] ∧ (Lit.int .i64 op).wf = true ∧ (Lit.int .i64 dd).wf = true ∧ (Lit.int .i64 s).wf = true ∧ (Lit.int .i64 n).wf = true ∧ (Lit.int .i64 ww).wf = true := by
  obtain ⟨v0, v1, v2, v3, v4, y0, y1, y2, y3, y4, k, rfl, _, h0, h1, h2, h3, h4⟩ := open_agg5 Tryz.underlying42 (by kernel_rfl) (by kernel_rfl) hv h
  obtain ⟨a0, e0, _, w0⟩ := DataW.trod_int Tryz.underlying3 h0
  obtain ⟨a1, e1, _, w1⟩ := DataW.trod_int Tryz.underlying3 h1
  obtain ⟨a2, e2, _, w2⟩ := DataW.trod_int Tryz.underlying3 h2
  obtain ⟨a3, e3, _, w3⟩ := DataW.trod_int Tryz.underlying3 h3
  obtain ⟨a4, e4, _, w4⟩ := DataW.trod_int Tryz.underlying3 h4
  simp only [List.cons.injEq, and_true] at e0 e1 e2 e3 e4
  subst e0 e1 e2 e3 e4
  exact ⟨a0, a1, a2, a3, a4, rfl, w0, w1, w2, w3, w4⟩
end Go.Proofs.YtdjhlfoapieohaaGreatDoor
