/-
  What the library's Concat answers of two slices of bytes: a new one of both's bytes.
-/
import Derived.Test.YtknhnfpjghaopaaGreatDoorAsmU
import Derived.Laws.AppendOwnNone
namespace Go.Proofs.YtknhnfpjghaopaaGreatDoor
open Go.ChangeShapes Go.WideShapes Go.ChangeAt Go.RowKit
set_option linter.unusedVariables false

theorem append_no (B : Nat) (i : TypeInfo) (hi : Tryz.prog.info? 5 = some i) (ty : TypeId) (v : Value) (n : Nat) (xs : List Value) {w : World} (hown : w.ownsRow B 5 1 v n xs) (a : Option Addr) (c : Nat) :
    (Builtin.append_ #[22, 22] ty #[v, .slice a 0 c]).run Tryz.prog w = .ok v w := by
  have hu := run_underlying (P := Tryz.prog) Tryz.underlying22
  have hf : (Builtin.firstCells i.size 0 (.slice a 0 c)).run Tryz.prog w = .ok #[] w := by
    cases a with
    | none => exact run_firstCells_none w i.size 0 0 c
    | some a => exact run_firstCells_some w i.size 0 a 0 c [] (by simp) (fun j v hj => by simp at hj)
  rcases hown.2 with ⟨rfl, rfl⟩ | ⟨g, cap, cur, rfl, _, _, hnc, _⟩
  · simp [Builtin.append_, hu, sizeOf, typeInfo, hi, Builtin.lenOf, hf]
  · simp [Builtin.append_, hu, sizeOf, typeInfo, hi, Builtin.lenOf, hf, hnc, storeCells]
theorem wpList_append_slice {ops : Array Oper} {rest : List Oper} {o : Oper} {a : Act} {w : World} {Q : Exit → Act → World → Prop} (hgd : o.guard = none) (s x : Operand) (ho : o.op = .call { callee := .builtin .append, args := #[s, x], argTypes := #[22, 22] })
    (B : Nat) (v : Value) (xs : List UInt8) (hs : a.eval s = v) (hown : w.ownsRow B 5 1 v xs.length (Lib.byteCells xs)) (xv : Value) (hx : a.eval x = xv) (l : List UInt8) (hl : sliceAt w xv l) (hb : xs.length + l.length ≤ 1024) (hB : B ≤ w.heap.size)
    (h : ∀ v' w', w'.ownsRow B 5 1 v' (xs ++ l).length (Lib.byteCells (xs ++ l)) → Below B w w' → wpList Tryz.prog ops Q rest (a.put o.dst v') w') : wpList Tryz.prog ops Q (o :: rest) a w := by
  obtain ⟨i0, hi0, hz0, hz1, hz2⟩ := info_parts info_u8
  by_cases hl0 : l = []
  · subst hl0
    have hxv : ∃ ad c, xv = .slice ad 0 c := by
      rcases hl with ⟨ad, c, h1, _⟩ | ⟨g, o', c, h1, _⟩
      · exact ⟨ad, c, h1⟩
      · exact ⟨_, c, h1⟩
    obtain ⟨ad, c, rfl⟩ := hxv
    refine wpList_plain hgd fun K hK => ?_
    have hrun := append_no B i0 hi0 o.type v xs.length (Lib.byteCells xs) hown ad c
    unfold Oper.wp
    simp [execOp, ho, resolve, invoke, builtin, hs, hx, hrun, Result.andThen]
    exact hK _ _ (h v w (by simpa using hown) (Below.refl _ _))
  · rcases hl with ⟨ad, c, _, h2⟩ | ⟨g, o', c, h1, h2, h3, h4⟩
    · exact absurd h2 hl0
    · have hlen : 0 < l.length := by cases l with | nil => exact absurd rfl hl0 | cons _ _ => simp
      refine wpList_append_lies _ hgd s x _ ho B 5 i0 _ 1 1 Tryz.underlying22 hi0 hz0 hz1 hz2 rfl (by omega) v xs.length (Lib.byteCells xs) hs hown ⟨g, o', none⟩ l.length c (Lib.byteCells l) (hx.trans h1) (by simp [Lib.byteCells]) (fun j u hj => ?_) (fun u hu => ?_) hlen (by unfold maxLen; omega) (by omega) hB w.heap.size rfl ?_
      · simp only [Lib.byteCells, List.getElem?_map, Option.map_eq_some_iff] at hj
        obtain ⟨cc, hc1, hc2⟩ := hj
        rw [← hc2, show (⟨g, o', none⟩ : Addr).add j = ⟨g, o' + j, none⟩ by unfold Addr.add; split <;> simp_all]
        exact h4 j cc hc1
      · simp only [Lib.byteCells, List.mem_map] at hu
        obtain ⟨cc, _, rfl⟩ := hu
        rfl
      · intro g' cap w' hown' hgrow _ _
        refine h _ w' ?_ ((Below.refl B w).grown hgrow hB (fun k hk => (hown.lt k hk).1))
        rw [List.length_append, ← byteCells_append]; exact hown'
theorem slice_of_own {w : World} {B : Nat} {v : Value} {l : List UInt8} (h : w.ownsRow B 5 1 v l.length (Lib.byteCells l)) : sliceAt w v l := by
  rcases h.2 with ⟨rfl, h0⟩ | ⟨g, cap, cur, rfl, hb, hg, hn, hm, hs, ht⟩
  · exact Or.inl ⟨none, 0, rfl, List.length_eq_zero_iff.1 h0⟩
  · refine Or.inr ⟨g, 0, cap, rfl, hn, (Array.getElem?_eq_some_iff.1 hg).1, fun j c hj => ?_⟩
    have hjl := (List.getElem?_eq_some_iff.1 hj).1
    rw [Nat.zero_add, Lib.cell_of_heap hg j]
    have e : cur[j]? = (cur.toList.take (l.length * 1))[j]? := by rw [List.getElem?_take, if_pos (by omega)]; simp
    rw [e, ht, Lib.byteCells, List.getElem?_map, hj]
    rfl
theorem slice_len {w : World} {v : Value} {l : List UInt8} (h : sliceAt w v l) : ∃ a c, v = .slice a l.length c := by
  rcases h with ⟨a, c, h1, rfl⟩ | ⟨g, o, c, h1, _⟩
  · exact ⟨a, c, h1⟩
  · exact ⟨_, c, h1⟩
end Go.Proofs.YtknhnfpjghaopaaGreatDoor
