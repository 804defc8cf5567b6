/-
  A map keyed by strings, with numbers as elements, that a call itself makes: what a store of a new key, and a look-up, do to it.
-/
import Derived.WalkKit
import Derived.ProofKit
import Derived.Maps.OwnOps
import Derived.ChangeMaps5
namespace Go.Proofs.YtdjhlfoapieohaaGreatDoor
open Go.ChangeShapes Go.WideShapes Go.ChangeAt Go.RowKit
set_option linter.unusedVariables false

/-- Block b of w is a map that holds just these keys, in this order, with these elements. -/
def mapS (w : World) (b : Nat) (l : List (ByteArray × Int)) : Prop :=
  ∃ es clock, w.heap[b]? = some (.map es clock) ∧ es.toList.map (fun e => (e.key, e.val)) = l.map (fun p => (Value.string p.1, Value.int .i64 p.2))

theorem beq_s (a b : ByteArray) : (a == b) = decide (a = b) := by
  cases h : (a == b)
  · rw [eq_comm, decide_eq_false_iff_not]; intro e; rw [(MapKept.bytes_beq a b).2 e] at h; cases h
  · rw [eq_comm, decide_eq_true_eq]; exact (MapKept.bytes_beq a b).1 h
theorem find_s (op : ByteArray) : ∀ (es : List MapEntry) (l : List (ByteArray × Int)), es.map (fun e => (e.key, e.val)) = l.map (fun p => (Value.string p.1, Value.int .i64 p.2)) → ∀ i : Nat,
    ∃ r, Instr.findNow .string (.string op) es i = some r ∧ r.map (·.2) = (l.find? (fun p => p.1 == op)).map (fun p => Value.int .i64 p.2)
  | [], [], _, i => ⟨none, rfl, rfl⟩
  | [], _ :: _, h, _ => by cases h
  | _ :: _, [], h, _ => by cases h
  | e :: es, p :: l, h, i => by
    simp only [List.map_cons, List.cons.injEq, Prod.mk.injEq] at h
    obtain ⟨⟨hk, hv⟩, h⟩ := h
    by_cases c : p.1 = op
    · refine ⟨some (i, e.val), ?_, ?_⟩
      · simp [Instr.findNow, hk, Instr.sameNow, c, beq_s]
      · simp [c, hv, beq_s]
    · obtain ⟨r, h1, h2⟩ := find_s op es l h (i + 1)
      refine ⟨r, ?_, ?_⟩
      · have c' : (op == p.1) = false := by rw [beq_s, decide_eq_false_iff_not]; exact fun e => c e.symm
        simp [Instr.findNow, hk, Instr.sameNow, c', h1]
      · have c' : (p.1 == op) = false := by rw [beq_s, decide_eq_false_iff_not]; exact c
        rw [h2, List.find?_cons, c']

theorem mapS_made (w : World) : mapS (w.alloc (.map #[] 0)) w.heap.size [] := ⟨#[], 0, (MapKept.heap_alloc w _).1, rfl⟩
theorem mapS.lt {w : World} {b : Nat} {l : List (ByteArray × Int)} (h : mapS w b l) : b < w.heap.size := by
  obtain ⟨es, c, hb, _⟩ := h
  exact (Array.getElem?_eq_some_iff.1 hb).1
theorem mapS.of_block {w w' : World} {b : Nat} {l : List (ByteArray × Int)} (h : mapS w b l) (e : w'.heap[b]? = w.heap[b]?) : mapS w' b l := by
  obtain ⟨es, c, hb, hm⟩ := h
  exact ⟨es, c, e.trans hb, hm⟩
theorem mapS.below {w w' : World} {b B : Nat} {l : List (ByteArray × Int)} (h : mapS w b l) (hb : Below B w w') (hB : b < B) : mapS w' b l := h.of_block (hb.block b hB)

theorem insert_s {P : Program} {t k e : TypeId} (ht : P.underlying t = some (.map k e)) (hk : P.underlying k = some .string) {w : World} {b : Nat} {l : List (ByteArray × Int)} (h : mapS w b l) (x : ByteArray) (v : Int)
    (hf : l.find? (fun p => p.1 == x) = none) : ∃ w', (Instr.mapUpdate t (.map (some b)) (.string x) (.int .i64 v)).run P w = .ok () w' ∧ mapS w' b (l ++ [(x, v)]) ∧ w.grownBy w' (some b) := by
  obtain ⟨es, c, hb, hm⟩ := h
  obtain ⟨r, h1, h2⟩ := find_s x es.toList l hm 0
  have hr : r = none := by
    cases r with
    | none => rfl
    | some q => simp [hf] at h2
  subst hr
  have hc : (Instr.checkKey false 10000 k (.string x)).run P w = .ok () w := MapKept.run_checkKey (k := .string x) hk (by simp [MapKept.IsKey]) false 9999
  refine ⟨{ w with heap := w.heap.setIfInBounds b (.map (es.push { key := .string x, val := .int .i64 v, born := c }) (c + 1)) }, ?_, ?_, ?_⟩
  · simp [Instr.mapUpdate, run_underlying ht, MapKept.run_getObj_map hb, hc, MapKept.run_findKey hk h1, MapKept.run_setObj_map _ hb, Result.andThen]
  · exact ⟨_, _, (MapKept.heap_set hb).1, by simp [hm]⟩
  · exact ⟨rfl, rfl, rfl, by simp, fun i hi hne => (MapKept.heap_set hb).2 i (fun e => hne (by rw [e]))⟩

theorem lookup_s {P : Program} {t k e : TypeId} (ht : P.underlying t = some (.map k e)) (hk : P.underlying k = some .string) {w : World} {b : Nat} {l : List (ByteArray × Int)} (h : mapS w b l) (x : ByteArray)
    (hz : (zeroValue e).run P w = .ok (.int .i64 0) w) : (Instr.lookup t (.map (some b)) (.string x) true).run P w =
      .ok (.tuple #[.int .i64 (((l.find? (fun p => p.1 == x)).map (·.2)).getD 0), .bool (l.find? (fun p => p.1 == x)).isSome]) w := by
  obtain ⟨es, c, hb, hm⟩ := h
  obtain ⟨r, h1, h2⟩ := find_s x es.toList l hm 0
  have hc : ∀ em, (Instr.checkKey em 10000 k (.string x)).run P w = .ok () w := fun em => MapKept.run_checkKey (k := .string x) hk (by simp [MapKept.IsKey]) em 9999
  cases r with
  | none =>
    have hn : l.find? (fun p => p.1 == x) = none := by simpa using h2.symm
    rw [hn]
    simp [Instr.lookup, run_underlying ht, MapKept.run_getObj_map hb, hc, MapKept.run_findKey hk h1, hz, Result.andThen]
  | some q =>
    obtain ⟨i, v⟩ := q
    cases hq : l.find? (fun p => p.1 == x) with
    | none => simp [hq] at h2
    | some y =>
      simp [hq] at h2
      simp [Instr.lookup, run_underlying ht, MapKept.run_getObj_map hb, hc, MapKept.run_findKey hk h1, Result.andThen, h2]

theorem wpList_store_s {P : Program} (w : World) {ops : Array Oper} {rest : List Oper} {o : Oper} {a : Act} {Q : Exit → Act → World → Prop}
    (hg : o.guard = none) (m x v : Operand) (t : TypeId) (hop : o.op = Op.mapUpdate t m x v) (k e : TypeId) (ht : P.underlying t = some (.map k e)) (hk : P.underlying k = some .string)
    (b : Nat) (l : List (ByteArray × Int)) (hm : a.eval m = .map (some b)) (h : mapS w b l) (key : ByteArray) (val : Int) (hx : a.eval x = .string key) (hv : a.eval v = .int .i64 val) (hf : l.find? (fun p => p.1 == key) = none)
    (hK : ∀ w', mapS w' b (l ++ [(key, val)]) → w.grownBy w' (some b) → wpList P ops Q rest (a.put o.dst undef) w') : wpList P ops Q (o :: rest) a w := by
  refine wpList_plain hg fun K' hK' => ?_
  obtain ⟨w', hrun, r1, r2⟩ := insert_s ht hk h key val hf
  unfold Oper.wp
  simp [execOp, hop, hm, hx, hv, hrun, Result.andThen]
  exact hK' _ _ (hK w' r1 r2)
end Go.Proofs.YtdjhlfoapieohaaGreatDoor
