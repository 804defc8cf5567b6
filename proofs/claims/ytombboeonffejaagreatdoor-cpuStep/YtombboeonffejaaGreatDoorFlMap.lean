/-
  A map keyed by int that a call itself makes: what a store of a new key, and a look-up, do to it, whatever its elements are.
-/
import Derived.WalkKit
import Derived.ProofKit
import Derived.Maps.OwnOps
import Derived.ChangeMaps5
import Derived.Below
namespace Go.Proofs.YtombboeonffejaaGreatDoor
open Go.ChangeShapes Go.WideShapes Go.ChangeAt Go.RowKit
set_option linter.unusedVariables false

/-- Block b of w is a map that holds just these keys, in this order, with these elements. -/
def mapAt (w : World) (b : Nat) (l : List (Int × Value)) : Prop :=
  ∃ es clock, w.heap[b]? = some (.map es clock) ∧ es.toList.map (fun e => (e.key, e.val)) = l.map (fun p => (Value.int .i64 p.1, p.2))

theorem find_at (op : Int) : ∀ (es : List MapEntry) (l : List (Int × Value)), es.map (fun e => (e.key, e.val)) = l.map (fun p => (Value.int .i64 p.1, p.2)) → ∀ i : Nat,
    ∃ r, Instr.findNow (.int .i64) (.int .i64 op) es i = some r ∧ r.map (·.2) = (l.find? (fun p => p.1 == op)).map (·.2)
  | [], [], _, i => ⟨none, rfl, rfl⟩
  | [], _ :: _, h, _ => by cases h
  | _ :: _, [], h, _ => by cases h
  | e :: es, p :: l, h, i => by
    simp only [List.map_cons, List.cons.injEq, Prod.mk.injEq] at h
    obtain ⟨⟨hk, hv⟩, h⟩ := h
    by_cases c : p.1 = op
    · refine ⟨some (i, e.val), ?_, ?_⟩
      · simp [Instr.findNow, hk, Instr.sameNow, c]
      · simp [c, hv]
    · obtain ⟨r, h1, h2⟩ := find_at op es l h (i + 1)
      refine ⟨r, ?_, ?_⟩
      · have c' : (op == p.1) = false := by simp; omega
        simp [Instr.findNow, hk, Instr.sameNow, c', h1]
      · have c' : (p.1 == op) = false := by simp; omega
        rw [h2, List.find?_cons, c']

theorem mapAt_made (w : World) : mapAt (w.alloc (.map #[] 0)) w.heap.size [] := ⟨#[], 0, (MapKept.heap_alloc w _).1, rfl⟩
theorem mapAt.lt {w : World} {b : Nat} {l : List (Int × Value)} (h : mapAt w b l) : b < w.heap.size := by
  obtain ⟨es, c, hb, _⟩ := h
  exact (Array.getElem?_eq_some_iff.1 hb).1
theorem mapAt.alloc {w : World} {b : Nat} {l : List (Int × Value)} (h : mapAt w b l) (o : Obj) : mapAt (w.alloc o) b l := by
  have hlt := h.lt
  obtain ⟨es, c, hb, hm⟩ := h
  exact ⟨es, c, by rw [(MapKept.heap_alloc w o).2 b hlt]; exact hb, hm⟩

/-- What a store of a new key leaves as it was. -/
structure Stored (w w' : World) (b : Nat) : Prop where
  size : w'.heap.size = w.heap.size
  cell : ∀ p v, w.cell? p = some v → w'.cell? p = some v
  grown : ∀ W, Below W.heap.size W w → W.heap.size ≤ b → Below W.heap.size W w'

theorem stored_setBlock {w : World} {b : Nat} {es : Array MapEntry} {clock : Nat} (hb : w.heap[b]? = some (.map es clock)) (es' : Array MapEntry) (clock' : Nat) :
    Stored w { w with heap := w.heap.setIfInBounds b (.map es' clock') } b := by
  have hs := MapKept.heap_set (o' := .map es' clock') hb
  refine ⟨by simp, fun p v hp => ?_, fun W hg hW => hg.trans ⟨rfl, rfl, rfl, by simp, fun k hk => hs.2 k (by omega)⟩⟩
  · have hne : p.block ≠ b := by
      intro e
      simp [World.cell?, e, hb] at hp
    simp only [World.cell?] at hp ⊢
    rw [hs.2 _ hne]
    exact hp

theorem insert_run {P : Program} {t k e : TypeId} (ht : P.underlying t = some (.map k e)) (hk : P.underlying k = some (.int .i64)) {w : World} {b : Nat} {l : List (Int × Value)} (h : mapAt w b l) (x : Int) (v : Value)
    (hf : l.find? (fun p => p.1 == x) = none) : ∃ w', (Instr.mapUpdate t (.map (some b)) (.int .i64 x) v).run P w = .ok () w' ∧ mapAt w' b (l ++ [(x, v)]) ∧ Stored w w' b := by
  obtain ⟨es, c, hb, hm⟩ := h
  obtain ⟨r, h1, h2⟩ := find_at x es.toList l hm 0
  have hr : r = none := by
    cases r with
    | none => rfl
    | some q => simp [hf] at h2
  subst hr
  have hc : (Instr.checkKey false 10000 k (.int .i64 x)).run P w = .ok () w := MapKept.run_checkKey (k := .int .i64 x) hk (by simp [MapKept.IsKey]) false 9999
  refine ⟨{ w with heap := w.heap.setIfInBounds b (.map (es.push { key := .int .i64 x, val := v, born := c }) (c + 1)) }, ?_, ?_, stored_setBlock hb _ _⟩
  · simp [Instr.mapUpdate, run_underlying ht, MapKept.run_getObj_map hb, hc, MapKept.run_findKey hk h1, MapKept.run_setObj_map _ hb, Result.andThen]
  · exact ⟨_, _, (MapKept.heap_set hb).1, by simp [hm]⟩

theorem wpList_insert {P : Program} (w : World) {ops : Array Oper} {rest : List Oper} {o : Oper} {a : Act} {Q : Exit → Act → World → Prop}
    (hg : o.guard = none) (m x v : Operand) (t : TypeId) (hop : o.op = Op.insert t m x v) (k e : TypeId) (ht : P.underlying t = some (.map k e)) (hk : P.underlying k = some (.int .i64))
    (b : Nat) (l : List (Int × Value)) (hm : a.eval m = .map (some b)) (h : mapAt w b l) (key : Int) (val : Value) (hx : a.eval x = .int .i64 key) (hv : a.eval v = val) (hf : l.find? (fun p => p.1 == key) = none)
    (hK : ∀ w', mapAt w' b (l ++ [(key, val)]) → Stored w w' b → wpList P ops Q rest (a.put o.dst undef) w') : wpList P ops Q (o :: rest) a w := by
  refine wpList_plain hg fun K' hK' => ?_
  obtain ⟨w', hrun, r1, r2⟩ := insert_run ht hk h key val hf
  unfold Oper.wp
  simp [execOp, hop, hm, hx, hv, hrun, Result.andThen]
  exact hK' _ _ (hK w' r1 r2)

theorem lookup_run {P : Program} {t k e : TypeId} (ht : P.underlying t = some (.map k e)) (hk : P.underlying k = some (.int .i64)) {w : World} {b : Nat} {l : List (Int × Value)} (h : mapAt w b l) (x : Int) (z : Value)
    (hz : (zeroValue e).run P w = .ok z w) : (Instr.lookup t (.map (some b)) (.int .i64 x) true).run P w =
      .ok (.tuple #[((l.find? (fun p => p.1 == x)).map (·.2)).getD z, .bool (l.find? (fun p => p.1 == x)).isSome]) w := by
  obtain ⟨es, c, hb, hm⟩ := h
  obtain ⟨r, h1, h2⟩ := find_at x es.toList l hm 0
  have hc : ∀ em, (Instr.checkKey em 10000 k (.int .i64 x)).run P w = .ok () w := fun em => MapKept.run_checkKey (k := .int .i64 x) hk (by simp [MapKept.IsKey]) em 9999
  cases r with
  | none =>
    have hn : l.find? (fun p => p.1 == x) = none := by simpa using h2.symm
    rw [hn]
    simp [Instr.lookup, run_underlying ht, MapKept.run_getObj_map hb, hc, MapKept.run_findKey hk h1, hz, Result.andThen]
  | some q =>
    obtain ⟨i, v⟩ := q
    cases hq : l.find? (fun p => p.1 == x) with
    | none => simp [hq] at h2
    | some y =>
      simp [hq] at h2
      simp [Instr.lookup, run_underlying ht, MapKept.run_getObj_map hb, hc, MapKept.run_findKey hk h1, Result.andThen, h2]
end Go.Proofs.YtombboeonffejaaGreatDoor
