/-
  Slices of bytes at a seat without listed variables: what append, the library's Equal, Grow and Concat answer of them.
-/
import Derived.Test.YtbfflipcmciapaaDoorBx
import Derived.Laws.BytesArg
import Derived.Lib.Builder
import Derived.Laws.AppendOwnNone
import Derived.Deep.AppendLies
namespace Go.Proofs.YtbfflipcmciapaaDoor
open Go.ChangeShapes Go.WideShapes Go.ChangeAt Go.RowKit
set_option linter.unusedVariables false
set_option maxRecDepth 100000

def mk (l : List UInt8) : ByteArray := ⟨l.toArray⟩
theorem mk_toList (l : List UInt8) : (mk l).toList = l := by rw [ByteArray.toList_eq]; rfl
/-- Bytes as cells. -/
def bcs (l : List UInt8) : List Value := l.map (fun c => Value.int .u8 c.toNat)
/-- Block g of w holds these bytes, from place o on. -/
def bytesAt (w : World) (g o : Nat) (l : List UInt8) : Prop := ∀ (j : Nat) (c : UInt8), l[j]? = some c → w.cell? ⟨g, o + j, none⟩ = some (.int .u8 c.toNat)
theorem bytesAt.kept {w w' : World} {g o B : Nat} {l : List UInt8} (h : bytesAt w g o l) (hb : Below B w w') (hB : g < B) : bytesAt w' g o l := fun j c hj => (hb.cell hB).trans (h j c hj)
/-- A slice of these bytes. -/
def sliceAt (w : World) (v : Value) (l : List UInt8) : Prop := (∃ a cap, v = .slice a 0 cap ∧ l = []) ∨ ∃ g o cap, v = .slice (some ⟨g, o, none⟩) l.length cap ∧ l.length ≤ cap ∧ g < w.heap.size ∧ bytesAt w g o l
theorem sliceAt.kept {w w' : World} {v : Value} {l : List UInt8} (h : sliceAt w v l) (hb : Below w.heap.size w w') : sliceAt w' v l := by
  rcases h with h | ⟨g, o, cap, h1, h2, h3, h4⟩
  · exact Or.inl h
  · exact Or.inr ⟨g, o, cap, h1, h2, Nat.lt_of_lt_of_le h3 hb.size, h4.kept hb h3⟩
theorem slice_len {w : World} {v : Value} {l : List UInt8} (h : sliceAt w v l) : ∃ a c, v = .slice a l.length c := by
  rcases h with ⟨a, c, h1, rfl⟩ | ⟨g, o, c, h1, _⟩
  · exact ⟨a, c, h1⟩
  · exact ⟨_, c, h1⟩
theorem slice_of_own {w : World} {B : Nat} {v : Value} {l : List UInt8} (h : w.ownsRow B 5 1 v l.length (bcs l)) : sliceAt w v l := by
  rcases h.2 with ⟨rfl, h0⟩ | ⟨g, cap, cur, rfl, hb, hg, hn, hm, hs, ht⟩
  · exact Or.inl ⟨none, 0, rfl, List.length_eq_zero_iff.1 h0⟩
  · refine Or.inr ⟨g, 0, cap, rfl, hn, (Array.getElem?_eq_some_iff.1 hg).1, fun j c hj => ?_⟩
    have hjl := (List.getElem?_eq_some_iff.1 hj).1
    rw [Nat.zero_add, Lib.cell_of_heap hg j]
    have e : cur[j]? = (cur.toList.take (l.length * 1))[j]? := by rw [List.getElem?_take, if_pos (by omega)]; simp
    rw [e, ht, bcs, List.getElem?_map, hj]
    rfl
theorem own_of_block {w w' : World} {B : Nat} {v : Value} {n : Nat} {xs : List Value} (h : w.ownsRow B 5 1 v n xs) (e : ∀ k, v.ownBlock = some k → w'.heap[k]? = w.heap[k]?) : w'.ownsRow B 5 1 v n xs := by
  refine ⟨h.1, ?_⟩
  rcases h.2 with h2 | ⟨g, cap, cur, rfl, hb, hg, r⟩
  · exact Or.inl h2
  · exact Or.inr ⟨g, cap, cur, rfl, hb, (e g rfl).trans hg, r⟩
theorem getD_nums (l : List UInt8) (i : Nat) (hi : i < l.length) : ∃ c, l[i]? = some c ∧ (l.map (fun c => (c.toNat : Int))).getD i 0 = (c.toNat : Int) := by
  refine ⟨l[i], List.getElem?_eq_getElem hi, ?_⟩
  simp [List.getD, List.getElem?_eq_getElem hi]
theorem cells_nums (l : List UInt8) : (l.map (fun c => (c.toNat : Int))).map (Value.int .u8) = bcs l := by
  simp [bcs]
theorem addr_add (g o j : Nat) : (⟨g, o, none⟩ : Addr).add j = ⟨g, o + j, none⟩ := by unfold Addr.add; split <;> simp_all
theorem mk_nums (l : List UInt8) : strOfNums (l.map (fun c => (c.toNat : Int))) = mk l := by
  unfold strOfNums mk
  rw [List.map_map]
  congr 2
  have : ((fun n : Int => UInt8.ofNat n.toNat) ∘ fun c : UInt8 => (c.toNat : Int)) = id := by funext c; simp
  rw [this, List.map_id]
theorem conv_any {w : World} {v : Value} {l : List UInt8} (h : sliceAt w v l) : (convert 51 9 v).run Tryd.prog w = .ok (.string (mk l)) w := by
  rcases h with ⟨a, cap, rfl, rfl⟩ | ⟨g, o, cap, rfl, h2, h3, h4⟩
  · cases a with
    | none => exact run_convert_bytes_nil w 51 5 Tryd.underlying51 Tryd.underlying5 0 cap 9 Tryd.underlying9
    | some a =>
      have hl : (loadCells a 0).run Tryd.prog w = .ok (([] : List Int).map (Value.int .u8)).toArray w := run_loadCells_list (P := Tryd.prog) w a [] (fun j v hj => by simp at hj)
      rw [run_convert_bytes_string w 51 9 5 _ 0 cap Tryd.underlying51 Tryd.underlying5 Tryd.underlying9, run_bytesToString w a 0 cap [] hl]
      rfl
  · have := run_convert_bytes_arg (P := Tryd.prog) w 51 5 Tryd.underlying51 Tryd.underlying5 g o l.length cap (l.map (fun c => (c.toNat : Int))) (by simp) (fun i hi => by
      obtain ⟨c, hc, hg⟩ := getD_nums l i hi
      rw [hg]; exact h4 i c hc) 9 Tryd.underlying9
    rw [mk_nums] at this
    exact this
theorem info_parts {i : Option TypeInfo} {z : Value} {s y : Nat} (h : i.map (fun i => (i.zero, i.size, i.bytes)) = some (some z, s, y)) : ∃ i0, i = some i0 ∧ i0.zero = some z ∧ i0.size = s ∧ i0.bytes = y := by
  cases i with
  | none => cases h
  | some i0 =>
    simp only [Option.map_some, Option.some.injEq, Prod.mk.injEq] at h
    exact ⟨i0, rfl, h.1, h.2.1, h.2.2⟩
theorem info_byte : (Tryd.prog.info? 5).map (fun i => (i.zero, i.size, i.bytes)) = some (some (.int .u8 0), 1, 1) := by kernel_rfl
theorem bcs_append (a b : List UInt8) : bcs a ++ bcs b = bcs (a ++ b) := by simp [bcs]
theorem appendNo (B : Nat) (i : TypeInfo) (hi : Tryd.prog.info? 5 = some i) (ty : TypeId) (v : Value) (n : Nat) (xs : List Value) {w : World} (hown : w.ownsRow B 5 1 v n xs) (a : Option Addr) (c : Nat) :
    (Builtin.append_ #[51, 51] ty #[v, .slice a 0 c]).run Tryd.prog w = .ok v w := by
  have hu := run_underlying (P := Tryd.prog) Tryd.underlying51
  have hf : (Builtin.firstCells i.size 0 (.slice a 0 c)).run Tryd.prog w = .ok #[] w := by
    cases a with
    | none => exact run_firstCells_none w i.size 0 0 c
    | some a => exact run_firstCells_some w i.size 0 a 0 c [] (by simp) (fun j v hj => by simp at hj)
  rcases hown.2 with ⟨rfl, rfl⟩ | ⟨g, cap, cur, rfl, _, _, hnc, _⟩
  · simp [Builtin.append_, hu, sizeOf, typeInfo, hi, Builtin.lenOf, hf]
  · simp [Builtin.append_, hu, sizeOf, typeInfo, hi, Builtin.lenOf, hf, hnc, storeCells]
theorem wpList_appSlice {ops : Array Oper} {rest : List Oper} {o : Oper} {a : Act} {w : World} {Q : Exit → Act → World → Prop} (hgd : o.guard = none) (s x : Operand) (ho : o.op = .call { callee := .builtin .append, args := #[s, x], argTypes := #[51, 51] })
    (B : Nat) (v : Value) (xs : List UInt8) (hs : a.eval s = v) (hown : w.ownsRow B 5 1 v xs.length (bcs xs)) (xv : Value) (hx : a.eval x = xv) (l : List UInt8) (hl : sliceAt w xv l) (hb : xs.length + l.length ≤ 100000) (hB : B ≤ w.heap.size)
    (h : ∀ v' w', w'.ownsRow B 5 1 v' (xs ++ l).length (bcs (xs ++ l)) → Below B w w' → wpList Tryd.prog ops Q rest (a.put o.dst v') w') : wpList Tryd.prog ops Q (o :: rest) a w := by
  obtain ⟨i0, hi0, hz0, hz1, hz2⟩ := info_parts info_byte
  by_cases hl0 : l = []
  · subst hl0
    have hxv : ∃ ad c, xv = .slice ad 0 c := by
      rcases hl with ⟨ad, c, h1, _⟩ | ⟨g, o', c, h1, _⟩
      · exact ⟨ad, c, h1⟩
      · exact ⟨_, c, h1⟩
    obtain ⟨ad, c, rfl⟩ := hxv
    refine wpList_plain hgd fun K hK => ?_
    have hrun := appendNo B i0 hi0 o.type v xs.length (bcs xs) hown ad c
    unfold Oper.wp
    simp [execOp, ho, resolve, invoke, builtin, hs, hx, hrun, Result.andThen]
    exact hK _ _ (h v w (by simpa using hown) (Below.refl _ _))
  · rcases hl with ⟨ad, c, _, h2⟩ | ⟨g, o', c, h1, h2, h3, h4⟩
    · exact absurd h2 hl0
    · have hlen : 0 < l.length := by cases l with | nil => exact absurd rfl hl0 | cons _ _ => simp
      refine wpList_append_lies _ hgd s x _ ho B 5 i0 _ 1 1 Tryd.underlying51 hi0 hz0 hz1 hz2 rfl (by omega) v xs.length (bcs xs) hs hown ⟨g, o', none⟩ l.length c (bcs l) (hx.trans h1) (by simp [bcs]) (fun j u hj => ?_) (fun u hu => ?_) hlen (by unfold maxLen; omega) (by omega) hB w.heap.size rfl ?_
      · simp only [bcs, List.getElem?_map, Option.map_eq_some_iff] at hj
        obtain ⟨cc, hc1, hc2⟩ := hj
        rw [← hc2, show (⟨g, o', none⟩ : Addr).add j = ⟨g, o' + j, none⟩ by unfold Addr.add; split <;> simp_all]
        exact h4 j cc hc1
      · simp only [bcs, List.mem_map] at hu
        obtain ⟨cc, _, rfl⟩ := hu
        rfl
      · intro g' cap w' hown' hgrow _ _
        refine h _ w' ?_ ((Below.refl B w).grown hgrow hB (fun k hk => (hown.lt k hk).1))
        rw [List.length_append, ← bcs_append]; exact hown'

end Go.Proofs.YtbfflipcmciapaaDoor
