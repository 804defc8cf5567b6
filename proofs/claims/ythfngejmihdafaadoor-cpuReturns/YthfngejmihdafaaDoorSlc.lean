/-
  Slices of bytes: what the library's Clone and Equal answer of them.
-/
import Derived.Test.YthfngejmihdafaaDoorOrdA
import Derived.Test.YthfngejmihdafaaDoorShelf
import Derived.Laws.BytesArg
import Derived.Lib.Builder
namespace Go.Proofs.YthfngejmihdafaaDoor
open Go.ChangeShapes Go.WideShapes Go.ChangeAt Go.RowKit
set_option linter.unusedVariables false

def mk (l : List UInt8) : ByteArray := ⟨l.toArray⟩
theorem mk_toList (l : List UInt8) : (mk l).toList = l := by rw [Lib.toList_data]; rfl
/-- Bytes as cells. -/
def bcs (l : List UInt8) : List Value := l.map (fun c => Value.int .u8 c.toNat)
/-- Block g of w holds these bytes, from place o on. -/
def bytesAt (w : World) (g o : Nat) (l : List UInt8) : Prop := ∀ (j : Nat) (c : UInt8), l[j]? = some c → w.cell? ⟨g, o + j, none⟩ = some (.int .u8 c.toNat)
theorem bytesAt.kept {w w' : World} {g o B : Nat} {l : List UInt8} (h : bytesAt w g o l) (hb : Below B w w') (hB : g < B) : bytesAt w' g o l := fun j c hj => (hb.cell hB).trans (h j c hj)
/-- A slice of these bytes. -/
def sliceAt (w : World) (v : Value) (l : List UInt8) : Prop := (∃ a cap, v = .slice a 0 cap ∧ l = []) ∨ ∃ g o cap, v = .slice (some ⟨g, o, none⟩) l.length cap ∧ l.length ≤ cap ∧ g < w.heap.size ∧ bytesAt w g o l
theorem sliceAt.kept {w w' : World} {v : Value} {l : List UInt8} (h : sliceAt w v l) (hb : Below w.heap.size w w') : sliceAt w' v l := by
  rcases h with h | ⟨g, o, cap, h1, h2, h3, h4⟩
  · exact Or.inl h
  · exact Or.inr ⟨g, o, cap, h1, h2, Nat.lt_of_lt_of_le h3 hb.size, h4.kept hb h3⟩
theorem slice_len {w : World} {v : Value} {l : List UInt8} (h : sliceAt w v l) : ∃ a c, v = .slice a l.length c := by
  rcases h with ⟨a, c, h1, rfl⟩ | ⟨g, o, c, h1, _⟩
  · exact ⟨a, c, h1⟩
  · exact ⟨_, c, h1⟩
theorem slice_of_own {w : World} {B : Nat} {v : Value} {l : List UInt8} (h : w.ownsRow B 5 1 v l.length (bcs l)) : sliceAt w v l := by
  rcases h.2 with ⟨rfl, h0⟩ | ⟨g, cap, cur, rfl, hb, hg, hn, hm, hs, ht⟩
  · exact Or.inl ⟨none, 0, rfl, List.length_eq_zero_iff.1 h0⟩
  · refine Or.inr ⟨g, 0, cap, rfl, hn, (Array.getElem?_eq_some_iff.1 hg).1, fun j c hj => ?_⟩
    have hjl := (List.getElem?_eq_some_iff.1 hj).1
    rw [Nat.zero_add, Lib.cell_of_heap hg j]
    have e : cur[j]? = (cur.toList.take (l.length * 1))[j]? := by rw [List.getElem?_take, if_pos (by omega)]; simp
    rw [e, ht, bcs, List.getElem?_map, hj]
    rfl
theorem own_of_block {w w' : World} {B : Nat} {v : Value} {n : Nat} {xs : List Value} (h : w.ownsRow B 5 1 v n xs) (e : ∀ k, v.ownBlock = some k → w'.heap[k]? = w.heap[k]?) : w'.ownsRow B 5 1 v n xs := by
  refine ⟨h.1, ?_⟩
  rcases h.2 with h2 | ⟨g, cap, cur, rfl, hb, hg, r⟩
  · exact Or.inl h2
  · exact Or.inr ⟨g, cap, cur, rfl, hb, (e g rfl).trans hg, r⟩
theorem getD_nums (l : List UInt8) (i : Nat) (hi : i < l.length) : ∃ c, l[i]? = some c ∧ (l.map (fun c => (c.toNat : Int))).getD i 0 = (c.toNat : Int) := by
  refine ⟨l[i], List.getElem?_eq_getElem hi, ?_⟩
  simp [List.getD, List.getElem?_eq_getElem hi]
theorem cells_nums (l : List UInt8) : (l.map (fun c => (c.toNat : Int))).map (Value.int .u8) = bcs l := by
  simp [bcs]
theorem addr_add (g o j : Nat) : (⟨g, o, none⟩ : Addr).add j = ⟨g, o + j, none⟩ := by unfold Addr.add; split <;> simp_all
theorem clone_any (v : Value) (l : List UInt8) (w : World) (h : sliceAt w v l) (hl : l.length ≤ 100000) :
    Calls Tryd.prog 17 #[v] w fun e w' => ∃ v', e = .returned v' ∧ w'.ownsRow w.heap.size 5 1 v' l.length (bcs l) ∧ Below w.heap.size w w' := by
  rcases h with ⟨a, cap, rfl, rfl⟩ | ⟨g, o, cap, rfl, h2, h3, h4⟩
  · cases a with
    | none => exact (Tryd.bytes_Clone_nil 0 cap w).mono fun e w' hh => ⟨_, hh.1, ⟨rfl, Or.inl ⟨rfl, rfl⟩⟩, hh.2 ▸ st0 w⟩
    | some a => exact (Tryd.bytes_Clone_at a 0 cap [] w rfl (by omega) (fun i hi => by omega)).mono fun e w' ⟨v', he, ho, _, hb⟩ => ⟨v', he, ho, hb⟩
  · refine (Tryd.bytes_Clone_at ⟨g, o, none⟩ l.length cap (l.map (fun c => (c.toNat : Int))) w (by simp) (by omega) (fun i hi => ?_)).mono fun e w' ⟨v', he, ho, _, hb⟩ => ⟨v', he, by rw [cells_nums] at ho; exact ho, hb⟩
    obtain ⟨c, hc, hg⟩ := getD_nums l i hi
    rw [hg, addr_add]; exact h4 i c hc
theorem mk_nums (l : List UInt8) : strOfNums (l.map (fun c => (c.toNat : Int))) = mk l := by
  unfold strOfNums mk
  rw [List.map_map]
  congr 2
  have : ((fun n : Int => UInt8.ofNat n.toNat) ∘ fun c : UInt8 => (c.toNat : Int)) = id := by funext c; simp
  rw [this, List.map_id]
theorem conv_any {w : World} {v : Value} {l : List UInt8} (h : sliceAt w v l) : (convert 22 9 v).run Tryd.prog w = .ok (.string (mk l)) w := by
  rcases h with ⟨a, cap, rfl, rfl⟩ | ⟨g, o, cap, rfl, h2, h3, h4⟩
  · cases a with
    | none => exact run_convert_bytes_nil w 22 5 Tryd.underlying22 Tryd.underlying5 0 cap 9 Tryd.underlying9
    | some a =>
      have hl : (loadCells a 0).run Tryd.prog w = .ok (([] : List Int).map (Value.int .u8)).toArray w := run_loadCells_list (P := Tryd.prog) w a [] (fun j v hj => by simp at hj)
      rw [run_convert_bytes_string w 22 9 5 _ 0 cap Tryd.underlying22 Tryd.underlying5 Tryd.underlying9, run_bytesToString w a 0 cap [] hl]
      rfl
  · have := run_convert_bytes_arg (P := Tryd.prog) w 22 5 Tryd.underlying22 Tryd.underlying5 g o l.length cap (l.map (fun c => (c.toNat : Int))) (by simp) (fun i hi => by
      obtain ⟨c, hc, hg⟩ := getD_nums l i hi
      rw [hg]; exact h4 i c hc) 9 Tryd.underlying9
    rw [mk_nums] at this
    exact this
theorem equal_any (v1 v2 : Value) (l1 l2 : List UInt8) (w : World) (h1 : sliceAt w v1 l1) (h2 : sliceAt w v2 l2) :
    Calls Tryd.prog 16 #[v1, v2] w fun e w' => e = .returned (.bool (l1 == l2)) ∧ w = w' := by
  refine (Tryd.bytes_Equal_strs v1 v2 (mk l1) (mk l2) w (conv_any h1) (conv_any h2)).mono fun e w' hh => ⟨?_, hh.2.symm⟩
  rw [hh.1, mk_toList, mk_toList]
end Go.Proofs.YthfngejmihdafaaDoor
