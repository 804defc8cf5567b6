/-
  What package asm's orderLine answers, of any right order; nothing old is written.
-/
import Derived.Test.YtdjhlfoapieohaaGreatDoorAsmC
import Derived.Test.YtdjhlfoapieohaaGreatDoorOrdE3
import Derived.Test.YtdjhlfoapieohaaGreatDoorOrdNm
import Derived.Test.YtdjhlfoapieohaaGreatDoorShelf
import Derived.Lib.SmallJoins
namespace Go.Proofs.YtdjhlfoapieohaaGreatDoor
open Go.ChangeShapes Go.WideShapes Go.ChangeAt Go.RowKit
set_option linter.unusedVariables false

/-- What package asm's walks ask of memory. -/
structure AF (w : World) : Prop where
  pow : Lib.TabIs Tryz.prog w "internal/strconv.uint64pow10" .u64 Lib.pow10Tab
  len : ∃ m, w.cell? ⟨0, 0, none⟩ = some (.int .i64 m)
  shapes : shapesAt w
theorem g_pow : Tryz.prog.globalNamed "internal/strconv.uint64pow10" = some 6 := by kernel_rfl
theorem AF.kept {w w' : World} (h : AF w) (hb : Below w.heap.size w w') : AF w' := by
  obtain ⟨t, ⟨m, hm⟩, s⟩ := h
  exact ⟨Joins.tab_stays g_pow t hb (Nat.le_refl _), ⟨m, (hb.cell (World.block_lt_of_cell? w _ hm)).trans hm⟩, s.kept hb⟩
theorem af_alloc {w : World} (h : AF w) (o : Obj) : AF (w.alloc o) := h.kept (stA (st0 _) _)
/-- Bytes as a string. -/
def mk (l : List UInt8) : ByteArray := ⟨l.toArray⟩
theorem mk_append (a b : List UInt8) : mk a ++ mk b = mk (a ++ b) := by
  unfold mk
  apply ByteArray.ext
  rw [ByteArray.data_append]
  simp
theorem mk_bs (s : ByteArray) : mk (bs s) = s := by obtain ⟨⟨l⟩⟩ := s; rfl
theorem bs_mk (l : List UInt8) : bs (mk l) = l := rfl
theorem mk_size (l : List UInt8) : (mk l).size = l.length := rfl
theorem below_grow' (w : World) (k : Nat) (os : Array Obj) : Below w.heap.size w (Sort.grow (w.drewN k) os) := by
  have h : ∀ k, Below w.heap.size w (w.drewN k) := fun k => by
    induction k with
    | zero => exact st0 w
    | succ k ih => exact ih.drew
  refine (h k).trans ⟨rfl, rfl, rfl, by simp [Sort.grow], fun i hi => ?_⟩
  have : (w.drewN k).heap.size = w.heap.size := by simp
  show ((w.drewN k).heap ++ os)[i]? = _
  rw [Array.getElem?_append_left (by omega)]
theorem itoa_any (n : Int) (h0 : -9223372036854775808 ≤ n) (h1 : n ≤ 9223372036854775807) (w : World) (h : AF w) :
    Calls Tryz.prog 68 #[.int .i64 n] w fun e w' => e = .returned (.string (mk (Lib.itoa n))) ∧ Below w.heap.size w w' := by
  refine (Tryz.strconv_Itoa n h0 h1 w h.pow).mono fun e w' ⟨he, k, os, hw⟩ => ⟨he, ?_⟩
  subst hw
  exact below_grow' w k os
def offP (p : Nat) : Nat := if p = 0 then 1 else if p = 1 then 2 else if p = 2 then 4 else 3
theorem of_any (p : Nat) (hp : p < 4) (g : Nat) (w : World) : Calls Tryz.prog 97 #[.int .i64 p, .pointer (some ⟨g, 0, none⟩)] w fun e w' => e = .returned (.pointer (some ⟨g, offP p, none⟩)) ∧ w' = w := by
  have hc : p = 0 ∨ p = 1 ∨ p = 2 ∨ p = 3 := by omega
  rcases hc with rfl | rfl | rfl | rfl
  · exact of_0 g w
  · exact of_1 g w
  · exact of_2 g w
  · exact of_3 g w
/-- An order as cells. -/
def ordCells (k : Nat) (o : S.Ord) : Array Value := #[.int .i64 k, .int .i64 o.d, .int .i64 o.s, .int .i64 o.n, .int .i64 o.w]
theorem ordCell_at (k : Nat) (o : S.Ord) (p : Nat) (hp : p < 4) : (ordCells k o)[offP p]? = some (.int .i64 (o.get p)) := by
  have hc : p = 0 ∨ p = 1 ∨ p = 2 ∨ p = 3 := by omega
  rcases hc with rfl | rfl | rfl | rfl <;> rfl
theorem pcs_at {k j : Nat} {p : Nat} (h : (S.parts k)[j]? = some p) : (pcs k 4)[j]? = some (.int .i64 p) := by
  unfold pcs
  rw [List.getElem?_map]
  have : ((List.range 4).filter (fun p => O.hasC k (S.sgn p)))[j]? = some p := h
  rw [this]; rfl
theorem pcs_len (k : Nat) : (pcs k 4).length = (S.parts k).length := by unfold pcs S.parts; rw [List.length_map]
theorem parts_lt {k j p : Nat} (h : (S.parts k)[j]? = some p) : p < 4 := by
  have := List.mem_of_getElem? h
  unfold S.parts at this
  have := (List.mem_filter.1 this).1
  simpa using this
/-- The first j parts of an order's line, as strings. -/
def tcs (k : Nat) (o : S.Ord) (j : Nat) : List Value := ((S.parts k).take j).map (fun p => Value.string (mk (S.partText o p)))
theorem tcs_len {k : Nat} {o : S.Ord} {j : Nat} (h : j ≤ (S.parts k).length) : (tcs k o j).length = j := by unfold tcs; simp; omega
theorem tcs_step {k : Nat} {o : S.Ord} {j p : Nat} (h : (S.parts k)[j]? = some p) : tcs k o (j + 1) = tcs k o j ++ [.string (mk (S.partText o p))] := by
  unfold tcs
  rw [List.take_add_one, h]; simp
theorem info_string : (Tryz.prog.info? 9).map (fun i => (i.zero, i.size, i.bytes)) = some (some (.string ⟨#[]⟩), 1, 16) := by kernel_rfl
theorem parts_le (k : Nat) : (S.parts k).length ≤ 4 := by
  unfold S.parts
  exact Nat.le_trans (List.length_filter_le _ _) (by simp)
theorem get_bd {k : Nat} {o : S.Ord} (hok : O.okB k o.d o.s o.n o.w = true) (p : Nat) : -16 ≤ o.get p ∧ o.get p ≤ 65535 := by
  obtain ⟨b1, b2, b3, b4⟩ := O.ok_bd hok
  unfold S.Ord.get
  split
  · omega
  · split
    · omega
    · split <;> omega
theorem partText_r (o : S.Ord) (p : Nat) (h : p = 0 ∨ p = 1) : mk (S.partText o p) = mk [114] ++ mk (Lib.itoa (o.get p)) := by
  unfold S.partText; rw [if_pos h, mk_append]; rfl
theorem partText_n (o : S.Ord) (p : Nat) (h : ¬ (p = 0 ∨ p = 1)) : mk (S.partText o p) = mk (Lib.itoa (o.get p)) := by
  unfold S.partText; rw [if_neg h]
theorem row_slice {w : World} {B : Nat} {t : TypeId} {v : Value} {n : Nat} {xs : List Value} (h : w.ownsRow B t 1 v n xs) (hn : 0 < n) : ∃ g cap, v = .slice (some ⟨g, 0, none⟩) n cap ∧ B ≤ g ∧ g < w.heap.size ∧ n ≤ cap ∧ ∀ j, j < n → w.cell? ⟨g, j, none⟩ = xs[j]? := by
  obtain ⟨hl, h⟩ := h
  rcases h with ⟨_, h0⟩ | ⟨g, cap, cur, rfl, hB, hb, hc, _, hs, ht⟩
  · omega
  · refine ⟨g, cap, rfl, hB, (Array.getElem?_eq_some_iff.1 hb).1, hc, fun j hj => ?_⟩
    simp only [World.cell?, hb]
    have hj' : j < cur.size := by rw [hs]; omega
    rw [← ht, List.getElem?_take_of_lt (by omega)]
    simp [hj']
theorem itoa_len (n : Int) (h : n.natAbs < 1000000) : (Lib.itoa n).length ≤ 7 := by
  have h6 : ∀ u, u < 1000000 → (Lib.decDigits u).length ≤ 6 := fun u hu => by
    have hlen : ∀ d u, u < 10 ^ (d + 1) → (Lib.decDigits u).length ≤ d + 1 := by
      intro d
      induction d with
      | zero => intro u hu; rw [S.dec_small u (by simpa using hu)]; simp
      | succ d ih =>
        intro u hu
        rw [Lib.decDigits]
        split
        · simp
        · rw [List.length_append]
          have := ih (u / 10) (by rw [Nat.pow_succ] at hu; omega)
          simp; omega
    exact hlen 5 u (by simpa using hu)
  unfold Lib.itoa
  split
  · have := h6 n.natAbs h; simp; omega
  · have := h6 n.toNat (by omega); omega
theorem join_len : ∀ ps : List S.By, (∀ p ∈ ps, p.length ≤ 10) → (Lib.join ps S.comma).length ≤ 12 * ps.length
  | [], _ => by simp [Lib.join, List.intercalate]
  | [p], h => by rw [S.join_one]; have := h p (by simp); simp; omega
  | p :: q :: ps, h => by
    have ih := join_len (q :: ps) (fun x hx => h x (List.mem_cons_of_mem _ hx))
    have hp := h p (by simp)
    rw [S.join_cons]
    simp only [List.length_append, List.length_cons] at ih ⊢
    omega
theorem partText_len {k : Nat} {o : S.Ord} (hok : O.okB k o.d o.s o.n o.w = true) (p : Nat) : (S.partText o p).length ≤ 10 := by
  have h1 := get_bd hok p
  have h2 := itoa_len (o.get p) (by omega)
  unfold S.partText
  split
  · simp; omega
  · omega
theorem join_small {k : Nat} {o : S.Ord} (hok : O.okB k o.d o.s o.n o.w = true) : (Lib.join ((S.parts k).map (S.partText o)) S.comma).length ≤ 48 := by
  have h4 := parts_le k
  have := join_len ((S.parts k).map (S.partText o)) (fun p hp => by obtain ⟨q, _, rfl⟩ := List.mem_map.1 hp; exact partText_len hok q)
  rw [List.length_map] at this
  omega
end Go.Proofs.YtdjhlfoapieohaaGreatDoor
