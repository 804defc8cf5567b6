/-
  What walks over a seat without listed variables share: chains of new blocks; arguments that read as they did; structs of one-cell fields, opened.
-/
import Derived.Test.YtbfflipcmciapaaDoorRows
import Derived.Test.YtbfflipcmciapaaDoorMath
import Derived.WalkKit
import Derived.ProofKit
import Derived.OpenShut
import Derived.WalkSpells
import Derived.Outline
import Derived.Below
import Derived.Deep.Strs
import Derived.Deep.RegionHeld3
import Derived.Deep.QuietTactic
import Derived.BigQuiet
import Derived.Laws.StructEq
import Derived.Deep.MidRow
import Derived.Deep.Fields
import Derived.Lib.Builder
import Derived.Deep.RegionWith
namespace Go.Proofs.YtbfflipcmciapaaDoor
open Go.ChangeShapes Go.WideShapes Go.ChangeAt Go.RowKit
set_option linter.unusedVariables false
set_option maxRecDepth 100000

theorem own : ownKnob Tryd.prog.godebug = none := by kernel_rfl
theorem hid {p : Prop} (h : p) : Hid p := h
theorem ret_b {b b' : Bool} (h : b = b') : Ending.returned (.bool b) = .returned (.bool b') := by rw [h]
/-- One call, one new block more. -/
theorem stp {W a b : World} (h : Below W.heap.size W a) (hb : Below a.heap.size a b) : Below W.heap.size W b := h.trans (hb.mono h.size)
theorem stA {W a : World} (h : Below W.heap.size W a) (o : Obj) : Below W.heap.size W (a.alloc o) := h.alloc h.size o
theorem st0 (W : World) : Below W.heap.size W W := Below.refl _ _
theorem bcell {W w1 : World} (hb : Below W.heap.size W w1) : (∀ b o, b < W.heap.size → w1.cell? ⟨b, o, none⟩ = W.cell? ⟨b, o, none⟩) ∧ (∀ b o, b < W.heap.size → w1.frozen? ⟨b, o, none⟩ = W.frozen? ⟨b, o, none⟩) :=
  ⟨fun b o h => hb.cell (p := ⟨b, o, none⟩) h, fun b o h => hb.frozen (p := ⟨b, o, none⟩) h⟩
/-! ### arguments: each reads behind the call as it did -/
theorem trodAll_below {H : Type} {enc : TypeId × Value → H} {P : Program} (hl : laidOutB P = true) {W W' : World} (hb : Below W.heap.size W W') :
    ∀ {ts : List TypeId} {vs : List Value} {ds : List (DataW H)} {ps : List MemPlace}, (∀ t ∈ ts, P.readableRec t = true ∧ t < P.types.size) → DataW.TrodAll enc P W 0 (fun _ => true) true ts vs ds ps → (∀ x ∈ ps, x.block < W.heap.size) →
      DataW.TrodAll enc P W' 0 (fun b => decide (b < W.heap.size)) true ts vs ds ps
  | [], vs, ds, ps, _, h, _ => by
    obtain ⟨rfl, rfl, rfl⟩ := trodAll_nil h
    exact trodAll_mk0
  | t :: ts, vs, ds, ps, hr, h, hlt => by
    obtain ⟨v, vs', d, ds', p, q, rfl, rfl, rfl, hd, hrest⟩ := trodAll_cons h
    exact ⟨p, q, Below.trod hl (hr t (by simp)).1 (hr t (by simp)).2 hd hb (fun x hx => hlt x (by simp [hx])), trodAll_below hl hb (fun t' ht' => hr t' (by simp [ht'])) hrest (fun x hx => hlt x (by simp [hx])), rfl⟩

theorem trodAll_below_all {H : Type} {enc : TypeId × Value → H} {P : Program} (hl : laidOutB P = true) {W W' : World} (hb : Below W.heap.size W W') {ts : List TypeId} {vs : List Value} {ds : List (DataW H)} {ps : List MemPlace}
    (hr : ts.all (fun t => P.readableRec t && decide (t < P.types.size)) = true) (h : DataW.TrodAll enc P W 0 (fun _ => true) true ts vs ds ps) (hlt : ∀ x ∈ ps, x.block < W.heap.size) :
    DataW.TrodAll enc P W' 0 (fun b => decide (b < W.heap.size)) true ts vs ds ps :=
  trodAll_below hl hb (fun t ht => by have := List.all_eq_true.1 hr t ht; simpa using this) h hlt

/-- One of two numbers. -/
def sel (l : Bool) (a b : Int) : Int := if l then a else b
theorem sel_ind {P : Int → Prop} (l : Bool) {a b : Int} (ha : P a) (hb : P b) : P (sel l a b) := by cases l <;> assumption
theorem Pl.new (w : World) (cs : Array Value) (t : TypeId) (b : Nat) (h : b = w.heap.size) {k : Nat} : (w.alloc (.cells cs t)).cell? ⟨b, k, none⟩ = cs[k]? := by subst h; exact World.cell?_alloc_new ..
theorem Pl.there_new (w : World) (cs : Array Value) (t : TypeId) (n b : Nat) (hb : b = w.heap.size) (h : cs.size = n) : (w.alloc (.cells cs t)).there b 0 n := fun j hj => by
  subst hb
  refine ⟨?_, Lib.frozen_of_heap (heap_alloc_new w _) _⟩
  rw [Pl.new _ _ _ _ rfl, Array.getElem?_eq_getElem (by omega)]
  rfl
theorem Pl.there_old {w w' : World} {b n : Nat} (h : w.there b 0 n) (hb : Below w.heap.size w w') (hlt : b < w.heap.size) : w'.there b 0 n := fun j hj => by
  have := h j hj
  rw [hb.cell (p := ⟨b, 0 + j, none⟩) hlt, hb.frozen (p := ⟨b, 0 + j, none⟩) hlt]
  exact this
theorem Pl.below {n : Nat} {a : World} {b : Nat} (hb : n ≤ b) : ∀ (vs : List Value) (o : Nat) (w : World), Below n a w → Below n a (w.setCells b o vs)
  | [], o, w, h => h
  | v :: vs, o, w, h => Pl.below hb vs (o + 1) _ (h.setCell hb v)
/-- A result's box is written, behind a call. -/
theorem Pl.fin {w w0 w1 : World} {b : Nat} (L : List Value) (hth : w0.there b 0 L.length) (hb0 : Below w.heap.size w w0) (hb1 : Below w0.heap.size w0 w1) (hlt : b < w0.heap.size) (hw : w.heap.size ≤ b) : Below w.heap.size w (w1.setCells b 0 L) ∧ (w1.setCells b 0 L).rangeAt b 0 L :=
  ⟨Pl.below hw L 0 w1 (stp hb0 hb1), World.rangeAt_setCells_same w1 b 0 L (Pl.there_old hth hb1 hlt)⟩
theorem Pl.cutW {P : Program} {code : Code} {Q : Exit → Act → World → Prop} {a : Act} {w : World} (K : World → Prop) (h : K w) (k : ∀ w', K w' → code.wp P Q a w') : code.wp P Q a w := k w h
theorem Pl.cutB {P : Program} {fn : Func} {R : Ending → World → Prop} {e : Exit} {a : Act} {w : World} (K : World → Prop) (h : K w) (k : ∀ w', K w' → bodyPost P fn R e a w') : bodyPost P fn R e a w := k w h
theorem Pl.spot {w : World} {a : Addr} {v : Value} (h : w.cell? a = some v) : a.spot = none := by
  unfold World.cell? at h
  split at h
  · split at h
    · cases h
    · rename_i hs
      cases hh : a.spot with
      | none => rfl
      | some x => rw [hh] at hs; simp at hs
  · cases h
/-- A slice of these numbers. -/
def isAt (k : IntKind) (w : World) (v : Value) (l : List Int) : Prop := (∃ a cap, v = .slice a 0 cap ∧ l = []) ∨ ∃ g o cap, v = .slice (some ⟨g, o, none⟩) l.length cap ∧ g < w.heap.size ∧ ∀ j x, l[j]? = some x → w.cell? ⟨g, o + j, none⟩ = some (.int k x)
theorem isAt.kept {k : IntKind} {w w' : World} {v : Value} {l : List Int} (h : isAt k w v l) (hb : Below w.heap.size w w') : isAt k w' v l := by
  rcases h with h | ⟨g, o, cap, h1, h3, h4⟩
  · exact Or.inl h
  · exact Or.inr ⟨g, o, cap, h1, Nat.lt_of_lt_of_le h3 hb.size, fun j x hj => (hb.cell (p := ⟨g, o + j, none⟩) h3).trans (h4 j x hj)⟩
theorem isAt.len {k : IntKind} {w : World} {v : Value} {l : List Int} (h : isAt k w v l) : ∃ a c, v = .slice a l.length c := by
  rcases h with ⟨a, c, h1, rfl⟩ | ⟨g, o, c, h1, _⟩
  · exact ⟨a, c, h1⟩
  · exact ⟨_, c, h1⟩
theorem isAt.at {k : IntKind} {w W : World} {a : Option Addr} {n c : Nat} {l : List Int} (h : isAt k w (.slice a n c) l) (hb : Below w.heap.size w W) {j : Nat} {x : Int} (hx : l[j]? = some x) : ∃ g o, a = some ⟨g, o, none⟩ ∧ g < w.heap.size ∧ W.cell? ⟨g, o + j, none⟩ = some (.int k x) := by
  rcases h with ⟨a', c', h1, h2⟩ | ⟨g, o, c', h1, h3, h4⟩
  · rw [h2] at hx; simp at hx
  · simp only [Value.slice.injEq] at h1
    exact ⟨g, o, h1.1, h3, (hb.cell (p := ⟨g, o + j, none⟩) h3).trans (h4 j x hx)⟩
set_option maxRecDepth 100000 in
/-- Numbers that came in. -/
theorem open_is {H : Type} {enc : TypeId × Value → H} {W : World} {base : Nat} {v : Value} {d : DataW H} {p : List MemPlace} {t e : TypeId} {k : IntKind} (ht : Tryd.prog.underlying t = some (.slice e)) (he : Tryd.prog.underlying e = some (.int k)) (c1 : Tryd.prog.cellsOf e = 1) (hv : Value.okWide Tryd.prog W .any base t v) (hd : DataW.Trod enc Tryd.prog W 0 (fun _ => true) true t v d p) :
    ∃ l : List Int, isAt k W v l ∧ l.length ≤ maxLen ∧ ∀ x ∈ l, (Lit.int k x).wf = true := by
  obtain ⟨a, len, cap, rfl⟩ := okWide_slice ht hv
  obtain ⟨fuel, hf⟩ := hd
  rcases open_ints ht he c1 hf with ⟨hc, _⟩ | ⟨ad, len', cap', zs, hc, _, hl, hm, hz, _, hcell, hwf⟩
  · have e : (Value.slice a len cap) = .slice none 0 0 := by simpa [Value.cells] using hc
    rw [e]
    exact ⟨[], Or.inl ⟨none, 0, rfl, rfl⟩, by simp, by simp⟩
  · have e : (Value.slice a len cap) = .slice (some ad) len' cap' := by simpa [Value.cells] using hc
    rw [e]
    simp only [if_true] at hz
    by_cases h0 : len' = 0
    · subst h0
      exact ⟨[], Or.inl ⟨some ad, cap', rfl, rfl⟩, by simp, by simp⟩
    · have hs := Pl.spot (hcell 0 (by omega))
      obtain ⟨g, o, sp⟩ := ad
      have hs' : sp = none := by
        cases sp with
        | none => rfl
        | some x => simp [Addr.add] at hs
      subst hs'
      have hadd : ∀ j, (⟨g, o, none⟩ : Addr).add j = ⟨g, o + j, none⟩ := fun j => by unfold Addr.add; split <;> simp_all
      refine ⟨zs.take len', Or.inr ⟨g, o, cap', by rw [List.length_take, Nat.min_eq_left (by omega)], World.block_lt_of_cell? W _ (hcell 0 (by omega)), fun j c hj => ?_⟩, by rw [List.length_take]; omega, fun x hx => hwf x (List.mem_of_mem_take hx)⟩
      have hjl : j < len' := by
        have := (List.getElem?_eq_some_iff.1 hj).1
        rw [List.length_take] at this; omega
      rw [List.getElem?_take_of_lt hjl] at hj
      have hzj : j < zs.length := (List.getElem?_eq_some_iff.1 hj).1
      have := hcell j hzj
      rw [hadd, show zs.getD j 0 = c by simp [List.getD, hj]] at this
      exact this
/-- A struct of three one-cell fields, by value, opened. -/
theorem open_agg3 {H : Type} {enc : TypeId × Value → H} {P : Program} {w : World} {base : Nat} {spare : Nat → Bool} {held : Bool} {r : Reach} {b0 : Nat} {t : TypeId} {f0 f1 f2 : Field} {v : Value} {d : DataW H} {p : List MemPlace}
    (hs : P.underlying t = some (.struct #[f0, f1, f2])) (hone : Deep.oneCellFields P #[f0, f1, f2] = true) (hC : P.cellsOf t = 3) (hv : Value.okWide P w r b0 t v) (h : DataW.Trod enc P w base spare held t v d p) :
    ∃ (v0 v1 v2 : Value) (y0 y1 y2 : DataW H × List MemPlace) (n : Nat), v = .agg #[v0, v1, v2] ∧ d = .agg [y0.1, y1.1, y2.1] ∧
      DataW.trod enc P w base spare held n f0.type [v0] = some y0 ∧ DataW.trod enc P w base spare held n f1.type [v1] = some y1 ∧ DataW.trod enc P w base spare held n f2.type [v2] = some y2 := by
  obtain ⟨cs, rfl, hsz⟩ := okWide_struct hs hv
  have h3 : ∃ c0 c1 c2, cs = #[c0, c1, c2] := by
    have := hsz.trans hC
    obtain ⟨l⟩ := cs
    match l, this with
    | [c0, c1, c2], _ => exact ⟨c0, c1, c2, rfl⟩
  obtain ⟨c0, c1, c2, rfl⟩ := h3
  obtain ⟨fuel, hf⟩ := h
  obtain ⟨xs, n, _, hx, hl, hlen, hfs⟩ := DataW.trod_struct hs hf
  obtain ⟨o0, k0⟩ := Deep.hone_of hone 0 f0 rfl
  obtain ⟨o1, k1⟩ := Deep.hone_of hone 1 f1 rfl
  obtain ⟨o2, k2⟩ := Deep.hone_of hone 2 f2 rfl
  match xs, hlen with
  | [y0, y1, y2], _ =>
    have g0 := hfs 0 f0 rfl
    have g1 := hfs 1 f1 rfl
    have g2 := hfs 2 f2 rfl
    simp only [Prod.mk.injEq] at hx
    exact ⟨c0, c1, c2, y0, y1, y2, n, rfl, hx.1, by simpa [Value.cells, o0, k0] using g0, by simpa [Value.cells, o1, k1] using g1, by simpa [Value.cells, o2, k2] using g2⟩
theorem ret_v {a b : Value} (h : a = b) : Ending.returned a = .returned b := by rw [h]
end Go.Proofs.YtbfflipcmciapaaDoor
