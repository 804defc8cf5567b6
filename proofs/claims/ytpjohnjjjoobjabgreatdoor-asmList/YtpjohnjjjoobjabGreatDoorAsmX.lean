/-
  What the reference's OrderText answers, of any right order; nothing old is written.
-/
import Derived.Test.YtpjohnjjjoobjabGreatDoorAsmE
import Derived.Test.YtpjohnjjjoobjabGreatDoorKindsA
import Derived.Test.YtpjohnjjjoobjabGreatDoorStrMap
import Derived.Laws.RangeString
import Derived.Deep.DeepCutAuto
namespace Go.Proofs.YtpjohnjjjoobjabGreatDoor
open Go.ChangeShapes Go.WideShapes Go.ChangeAt Go.RowKit
set_option linter.unusedVariables false

/-! ### a string's reader, wherever it lies -/
theorem next_at (w : World) (B : Nat) (s : ByteArray) (i : Nat) (c : UInt8) (hb : w.heap[B]? = some (.stringIter s i)) (hi : i < s.size) (hc : s[i]'hi = c) (ha : c.toNat < 128) :
    ∃ w', (∀ ty, (Instr.next (.pointer (some ⟨B, 0, none⟩)) true ty).run Tryz.prog w = .ok (.tuple #[.bool true, .int .i64 i, .int .i32 c.toNat]) w') ∧ w'.heap[B]? = some (.stringIter s (i + 1)) ∧ w.grownBy w' (some B) := by
  subst hc
  refine ⟨{ w with heap := w.heap.setIfInBounds B (.stringIter s (i + 1)) }, fun ty => ?_, (MapKept.heap_set hb).1, ⟨rfl, rfl, rfl, by simp, fun k hk hne => (MapKept.heap_set hb).2 k (fun e => hne (by rw [e]))⟩⟩
  simp only [Instr.next, getObj, setObj, Sem.run_bind, Sem.run, hb, Result.andThen, hi, if_true, decode_ascii s i hi ha]
  simp [goInt]
theorem next_at_end (w : World) (B : Nat) (s : ByteArray) (i : Nat) (hb : w.heap[B]? = some (.stringIter s i)) (hi : ¬ i < s.size) (ty : TypeId) :
    (Instr.next (.pointer (some ⟨B, 0, none⟩)) true ty).run Tryz.prog w = .ok (.tuple #[.bool false]) w := by
  simp [Instr.next, getObj, Sem.run, hb, hi]

/-! ### the text, letter by letter -/
theorem lets_parts : ∀ k, k < 32 → (S.parts k).map S.sgn = (K.row k).2.1 := by decide +kernel
def preT (k : Nat) (o : S.Ord) (j : Nat) : S.By := (K.row k).1 ++ (if j = 0 then [] else 32 :: Lib.join (((S.parts k).take j).map (S.partText o)) S.comma)
theorem join_snoc (x : S.By) : ∀ (p : S.By) (ps : List S.By), Lib.join (p :: ps ++ [x]) S.comma = Lib.join (p :: ps) S.comma ++ [44, 32] ++ x
  | p, [] => by rw [List.cons_append, List.nil_append, S.join_cons, S.join_one, S.join_one]; simp
  | p, q :: ps => by
    have ih := join_snoc x q ps
    rw [List.cons_append, List.cons_append, S.join_cons, S.join_cons]
    rw [List.cons_append] at ih
    rw [ih]; simp
theorem preT_0 {k : Nat} {o : S.Ord} {p : Nat} (h : (S.parts k)[0]? = some p) : preT k o 1 = preT k o 0 ++ [32] ++ S.partText o p := by
  unfold preT
  rw [if_neg (by omega), if_pos rfl, List.take_add_one, h]
  simp [S.join_one]
theorem preT_step {k : Nat} {o : S.Ord} {j p : Nat} (hj : 0 < j) (h : (S.parts k)[j]? = some p) : preT k o (j + 1) = preT k o j ++ [44, 32] ++ S.partText o p := by
  unfold preT
  rw [if_neg (by omega), if_neg (by omega), List.take_add_one, h]
  have hlt := (List.getElem?_eq_some_iff.1 h).1
  cases hp : ((S.parts k).take j).map (S.partText o) with
  | nil =>
    have := congrArg List.length hp
    rw [List.length_map, List.length_take, List.length_nil] at this
    omega
  | cons q qs =>
    rw [List.map_append, hp, Option.toList_some, List.map_cons, List.map_nil, join_snoc]
    simp
theorem preT_end (k : Nat) (o : S.Ord) : preT k o (S.parts k).length = S.orderText k o := by
  unfold preT S.orderText
  rw [List.take_length]
  by_cases h : S.parts k = []
  · rw [h]; rfl
  · rw [if_neg (fun e => h (List.length_eq_zero_iff.1 e)), if_neg h]
theorem preT_len {k : Nat} (hk : k < 32) {o : S.Ord} (hok : O.okB k o.d o.s o.n o.w = true) (j : Nat) : (preT k o j).length ≤ 60 := by
  have h1 : (K.row k).1.length ≤ 4 := by
    have : ∀ k, k < 32 → (K.row k).1.length ≤ 4 := by decide +kernel
    exact this k hk
  unfold preT
  rw [List.length_append]
  split
  · simp; omega
  · have h4 := parts_le k
    have := join_len (((S.parts k).take j).map (S.partText o)) (fun p hp => by obtain ⟨q, _, rfl⟩ := List.mem_map.1 hp; exact partText_len hok q)
    rw [List.length_map, List.length_take] at this
    rw [List.length_cons]; omega
theorem has_at (k : Nat) (hk : k < 32) (j p : Nat) (h : (S.parts k)[j]? = some p) : ∃ hi : j < (K.has k).size, (K.has k)[j]'hi = S.sgn p := by
  have e := lets_parts k hk
  have hj : ((K.row k).2.1)[j]? = some (S.sgn p) := by rw [← e, List.getElem?_map, h]; rfl
  have hl := (List.getElem?_eq_some_iff.1 hj).1
  refine ⟨hl, ?_⟩
  exact bs_get (K.has k) j (S.sgn p) hj hl
theorem has_len (k : Nat) (hk : k < 32) : (K.has k).size = (S.parts k).length := by
  have e := congrArg List.length (lets_parts k hk)
  rw [List.length_map] at e
  exact e.symm
end Go.Proofs.YtpjohnjjjoobjabGreatDoor
