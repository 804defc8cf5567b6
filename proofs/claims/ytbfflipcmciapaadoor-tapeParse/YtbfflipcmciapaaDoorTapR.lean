/-
  Rows of structs that a function has made: an input appended.
-/
import Derived.Test.YtbfflipcmciapaaDoorTapE
import Derived.Deep.AppendLies
namespace Go.Proofs.YtbfflipcmciapaaDoor
open Go.ChangeShapes Go.WideShapes Go.ChangeAt Go.RowKit
set_option linter.unusedVariables false
set_option maxRecDepth 100000

theorem Tp.row_cells {w : World} {B z n : Nat} {t : TypeId} {v : Value} {xs : List Value} (h : w.ownsRow B t z v n xs) (h0 : 0 < n) : ∃ g cap, v = .slice (some ⟨g, 0, none⟩) n cap ∧ n ≤ cap ∧ g < w.heap.size ∧ ∀ j x, xs[j]? = some x → w.cell? ⟨g, j, none⟩ = some x := by
  rcases h.2 with ⟨e0, e1⟩ | ⟨g, cap, cur, e0, hb, hg, hn, hm, hs, ht⟩
  · omega
  · refine ⟨g, cap, e0, hn, (Array.getElem?_eq_some_iff.1 hg).1, fun j x hj => ?_⟩
    rw [← ht] at hj
    have hjl : j < n * z := by
      have := (List.getElem?_eq_some_iff.1 hj).1
      rw [List.length_take] at this; omega
    rw [List.getElem?_take_of_lt hjl, Array.getElem?_toList] at hj
    unfold World.cell?
    simp [hg, hj]
theorem Tp.row_len {w : World} {B z n : Nat} {t : TypeId} {v : Value} {xs : List Value} (h : w.ownsRow B t z v n xs) : ∃ a c, v = .slice a n c := by
  rcases h.2 with ⟨e0, e1⟩ | ⟨g, cap, cur, e0, _⟩
  · exact ⟨none, 0, by rw [e0, e1]⟩
  · exact ⟨_, _, e0⟩
theorem Tp.row_kept {B z n : Nat} {t : TypeId} {v : Value} {xs : List Value} {w w1 : World} (h : w.ownsRow B t z v n xs) (hb : Below w.heap.size w w1) : w1.ownsRow B t z v n xs := h.kept (Tp.grown_of_below hb) (Tp.own_none v)
theorem Tp.appOne {ops : Array Oper} {rest : List Oper} {o : Oper} {a : Act} {Q : Exit → Act → World → Prop} {ts t : TypeId} {zv : Value} {y z n B : Nat} {w : World} {v : Value} {xs : List Value} (hts : Tryd.prog.underlying ts = some (.slice t)) (hinf : (Tryd.prog.info? t).map (fun i => (i.zero, i.size, i.bytes)) = some (some zv, z, y)) (hzs : zv.cells.size = z) (hz : 0 < z)
    (hgd : o.guard = none) (s x : Operand) (ho : o.op = .call { callee := .builtin .append, args := #[s, x], argTypes := #[ts, ts] }) (hs : a.eval s = v) (hown : w.ownsRow B t z v n xs) (g c : Nat) (hx : a.eval x = .slice (some ⟨g, 0, none⟩) 1 c) {ys : List Value} (hl : ys.length = z) (hc : ∀ j u, ys[j]? = some u → w.cell? ⟨g, j, none⟩ = some u) (h1 : ∀ u ∈ ys, u.oneCell' = true) (hb : n ≤ 140737488355327) (hby : (n + 1) * y ≤ 140737488355328) (hB : B ≤ w.heap.size)
    (h : ∀ v' w', w'.ownsRow B t z v' (n + 1) (xs ++ ys) → Below B w w' → wpList Tryd.prog ops Q rest (a.put o.dst v') w') : wpList Tryd.prog ops Q (o :: rest) a w := by
  obtain ⟨i0, hi0, hz0, hz1, hz2⟩ := info_parts hinf
  refine wpList_append_lies _ hgd s x _ ho B t i0 zv z y hts hi0 hz0 hz1 hz2 hzs hz v n xs hs hown ⟨g, 0, none⟩ 1 c ys hx (by omega) (fun j u hj => by rw [addr_add, Nat.zero_add]; exact hc j u hj) h1 (by omega) (by unfold maxLen; omega) hby hB w.heap.size rfl ?_
  intro g' cap w' hown' hgrow _ _
  exact h _ w' hown' ((Below.refl B w).grown hgrow hB (fun k hk => (hown.lt k hk).1))
/-! ### inputs -/
def Tp.ics : List Tp.In → List Value
  | [] => []
  | x :: l => .int .i64 x.c :: .int .i64 x.p :: .int .u8 x.d :: Tp.ics l
theorem Tp.ics_app : ∀ l k : List Tp.In, Tp.ics (l ++ k) = Tp.ics l ++ Tp.ics k
  | [], k => rfl
  | x :: l, k => by simp only [Tp.ics, List.cons_append, Tp.ics_app l k]
theorem Tp.ics_at : ∀ (l : List Tp.In) (j : Nat) (x : Tp.In), l[j]? = some x → (Tp.ics l)[3 * j]? = some (.int .i64 x.c) ∧ (Tp.ics l)[3 * j + 1]? = some (.int .i64 x.p) ∧ (Tp.ics l)[3 * j + 2]? = some (.int .u8 x.d)
  | [], j, x, h => by simp at h
  | y :: l, 0, x, h => by
    simp only [List.getElem?_cons_zero, Option.some.injEq] at h
    subst h
    exact ⟨rfl, rfl, rfl⟩
  | y :: l, j + 1, x, h => by
    rw [List.getElem?_cons_succ] at h
    obtain ⟨h1, h2, h3⟩ := Tp.ics_at l j x h
    rw [show 3 * (j + 1) = 3 * j + 1 + 1 + 1 by omega]
    exact ⟨h1, h2, h3⟩
theorem Tp.own_in {w : World} {B : Nat} {v : Value} {l : List Tp.In} (h : w.ownsRow B 34 3 v l.length (Tp.ics l)) : Tp.InAt w.heap.size w v l := by
  by_cases h0 : l = []
  · subst h0
    obtain ⟨a, c, e⟩ := Tp.row_len h
    exact Or.inl ⟨rfl, a, c, e⟩
  · have hl : 0 < l.length := by cases l with | nil => exact absurd rfl h0 | cons _ _ => simp
    obtain ⟨g, cap, e, h1, h2, h3⟩ := Tp.row_cells h hl
    refine Or.inr ⟨g, 0, cap, e, h1, h2, h2, fun j x hj => ?_⟩
    obtain ⟨q1, q2, q3⟩ := Tp.ics_at l j x hj
    rw [Nat.zero_add]
    exact ⟨h3 _ _ q1, h3 _ _ q2, h3 _ _ q3⟩
theorem Tp.info_in3 : (Tryd.prog.info? 34).map (fun i => (i.zero, i.size, i.bytes)) = some (some (.agg #[.int .i64 0, .int .i64 0, .int .u8 0]), 3, 24) := by kernel_rfl
theorem Tp.run_bin (c p d : Int) (w : World) : (Instr.buildSlice 22 1 #[(0, .agg #[.int .i64 c, .int .i64 p, .int .u8 d])]).run Tryd.prog w = .ok (.slice (some ⟨w.heap.size, 0, none⟩) 1 1) (w.alloc (.cells #[.int .i64 c, .int .i64 p, .int .u8 d] 34)) := by kernel_rfl
theorem Tp.in_one (x : Tp.In) : ∀ u ∈ Tp.ics [x], u.oneCell' = true := fun u hu => by
  simp only [Tp.ics, List.mem_cons, List.not_mem_nil, or_false] at hu
  rcases hu with rfl | rfl | rfl <;> rfl
theorem Tp.in_cells (w : World) (x : Tp.In) (t : TypeId) {b : Nat} (hb : b = w.heap.size) : ∀ j u, (Tp.ics [x])[j]? = some u → (w.alloc (.cells #[.int .i64 x.c, .int .i64 x.p, .int .u8 x.d] t)).cell? ⟨b, j, none⟩ = some u := fun j u hj => by
  subst hb
  exact (Bx.new w [.int .i64 x.c, .int .i64 x.p, .int .u8 x.d] t (b := w.heap.size) rfl).at j u hj
end Go.Proofs.YtbfflipcmciapaaDoor
