/-
  Inputs that came in.
-/
import Derived.Test.YtbfflipcmciapaaDoorTapC
import Derived.Deep.Slices
namespace Go.Proofs.YtbfflipcmciapaaDoor
open Go.ChangeShapes Go.WideShapes Go.ChangeAt Go.RowKit
set_option linter.unusedVariables false
set_option maxRecDepth 100000

instance : Inhabited Tp.In := ⟨⟨0, 0, 0⟩⟩
theorem Tp.list3 {s : List Value} (h : s.length = 3) : ∃ c0 c1 c2, s = [c0, c1, c2] := by
  match s, h with
  | [c0, c1, c2], _ => exact ⟨c0, c1, c2, rfl⟩
theorem Tp.fld {H : Type} {enc : TypeId × Value → H} {P : Program} {w : World} {base : Nat} {spare : Nat → Bool} {held : Bool} {n i o : Nat} {ty : TypeId} {cs : List Value} {xs : List (DataW H × List MemPlace)}
    (h : DataW.trod enc P w base spare held n ty ((cs.drop o).take (P.cellsOf ty)) = xs[i]?) (hi : i < xs.length) (hc : P.cellsOf ty = 1) {v : Value} (hv : cs[o]? = some v) : ∃ y, DataW.trod enc P w base spare held n ty [v] = some y := by
  rw [hc, List.getElem?_eq_getElem hi] at h
  have e : (cs.drop o).take 1 = [v] := by
    rw [List.take_one, List.head?_drop, hv]
    rfl
  rw [e] at h
  exact ⟨_, h⟩
theorem Tp.fld_int {H : Type} {enc : TypeId × Value → H} {P : Program} {w : World} {base : Nat} {spare : Nat → Bool} {held : Bool} {n i o : Nat} {ty : TypeId} {cs : List Value} {xs : List (DataW H × List MemPlace)} {k : IntKind}
    (h : DataW.trod enc P w base spare held n ty ((cs.drop o).take (P.cellsOf ty)) = xs[i]?) (hi : i < xs.length) (hc : P.cellsOf ty = 1) (ht : P.underlying ty = some (.int k)) {v : Value} (hv : cs[o]? = some v) : ∃ a : Int, v = .int k a ∧ (Lit.int k a).wf = true := by
  obtain ⟨y, hy⟩ := Tp.fld h hi hc hv
  obtain ⟨a, e, _, hw⟩ := DataW.trod_int ht hy
  simp only [List.cons.injEq, and_true] at e
  exact ⟨a, e, hw⟩
theorem Tp.opn_in {H : Type} {enc : TypeId × Value → H} {w : World} {base : Nat} {spare : Nat → Bool} {held : Bool} {n : Nat} {x : DataW H × List MemPlace} {s : List Value} (h : DataW.trod enc Tryd.prog w base spare held n 34 s = some x) (hs : s.length = 3) : ∃ p : Tp.In, s = [.int .i64 p.c, .int .i64 p.p, .int .u8 p.d] ∧ p.ok := by
  have hE : Tryd.prog.cellsOf 5 = 1 := by kernel_rfl
  have hI : Tryd.prog.cellsOf 3 = 1 := by kernel_rfl
  obtain ⟨c0, c1, c2, rfl⟩ := Tp.list3 hs
  obtain ⟨xs, m, _, _, _, hlen, hfs⟩ := DataW.trod_struct Tryd.underlying34 h
  have hl : xs.length = 3 := hlen
  obtain ⟨a0, rfl, wa0⟩ := Tp.fld_int (ty := 3) (o := 0) (v := c0) (hfs 0 _ rfl) (by omega) hI Tryd.underlying3 rfl
  obtain ⟨a1, rfl, wa1⟩ := Tp.fld_int (ty := 3) (o := 1) (v := c1) (hfs 1 _ rfl) (by omega) hI Tryd.underlying3 rfl
  obtain ⟨a2, rfl, wa2⟩ := Tp.fld_int (ty := 5) (o := 2) (v := c2) (hfs 2 _ rfl) (by omega) hE Tryd.underlying5 rfl
  have b2 := bounds_u8 wa2
  obtain ⟨a, rfl⟩ := Int.eq_ofNat_of_zero_le b2.1
  exact ⟨⟨a0, a1, a⟩, rfl, ⟨(bounds_i64 wa0).1, (bounds_i64 wa0).2, (bounds_i64 wa1).1, (bounds_i64 wa1).2, by show a < 256; omega⟩⟩
theorem Tp.open_inputs {H : Type} {enc : TypeId × Value → H} {W : World} {base : Nat} {v : Value} {d : DataW H} {p : List MemPlace} (hv : Value.okWide Tryd.prog W .any base 22 v) (hd : DataW.Trod enc Tryd.prog W 0 (fun _ => true) true 22 v d p) :
    ∃ l : List Tp.In, Tp.InAt W.heap.size W v l ∧ l.length ≤ maxLen ∧ ∀ x ∈ l, x.ok := by
  obtain ⟨a, len, cap, rfl⟩ := okWide_slice Tryd.underlying22 hv
  obtain ⟨fuel, hf⟩ := hd
  have c3 : Tryd.prog.cellsOf 34 = 3 := by kernel_rfl
  rcases Go.Deep.open_slice Tryd.underlying22 hf with ⟨hc, _⟩ | ⟨ad, len', cap', m, n, D, Pp, hc, _, hl, hm, hmm, _, hx⟩
  · have e : (Value.slice a len cap) = .slice none 0 0 := by simpa [Value.cells] using hc
    rw [e]
    exact ⟨[], Or.inl ⟨rfl, none, 0, rfl⟩, by simp, by simp⟩
  · have e : (Value.slice a len cap) = .slice (some ad) len' cap' := by simpa [Value.cells] using hc
    rw [e]
    simp only [if_true] at hmm
    by_cases h0 : len' = 0
    · subst h0
      exact ⟨[], Or.inl ⟨rfl, some ad, cap', rfl⟩, by simp, by simp⟩
    · have hall : ∀ i, i < len' → ∃ q : Tp.In, (W.cell? (ad.add (i * 3)) = some (.int .i64 q.c) ∧ W.cell? (ad.add (i * 3 + 1)) = some (.int .i64 q.p) ∧ W.cell? (ad.add (i * 3 + 2)) = some (.int .u8 q.d)) ∧ q.ok := fun i hi => by
        obtain ⟨cs', h1, h2⟩ := hx i (by omega)
        rw [c3] at h1
        obtain ⟨_, hlen, hcell⟩ := World.cells?_some h1
        obtain ⟨q, rfl, hq⟩ := Tp.opn_in h2 hlen
        have e0 := hcell 0 (by omega)
        have e1 := hcell 1 (by omega)
        have e2 := hcell 2 (by omega)
        rw [Go.Deep.add_add] at e0 e1 e2
        exact ⟨q, ⟨by simpa using e0, by simpa using e1, by simpa using e2⟩, hq⟩
      obtain ⟨q, hq⟩ := Go.Deep.choose_lt hall
      have hs := Pl.spot ((hq 0 (by omega)).1.1)
      obtain ⟨g, o, sp⟩ := ad
      have hs' : sp = none := by
        cases sp with
        | none => rfl
        | some x => simp [Addr.add] at hs
      subst hs'
      have hlt : g < W.heap.size := World.block_lt_of_cell? W _ ((hq 0 (by omega)).1.1)
      refine ⟨(List.range len').map q, Or.inr ⟨g, o, cap', by rw [List.length_map, List.length_range], by rw [List.length_map, List.length_range]; exact hl, hlt, hlt, fun j x hj => ?_⟩, by rw [List.length_map, List.length_range]; omega, fun x hx => ?_⟩
      · rw [List.getElem?_map] at hj
        obtain ⟨i, hi1, hi2⟩ := Option.map_eq_some_iff.1 hj
        obtain ⟨hjl, hi3⟩ := List.getElem?_eq_some_iff.1 hi1
        rw [List.length_range] at hjl
        rw [List.getElem_range] at hi3
        subst hi3
        subst hi2
        obtain ⟨⟨e0, e1, e2⟩, _⟩ := hq j hjl
        rw [addr_add] at e0 e1 e2
        rw [Nat.mul_comm 3 j]
        exact ⟨e0, e1, e2⟩
      · obtain ⟨i, hi, rfl⟩ := List.mem_map.1 hx
        exact (hq i (List.mem_range.1 hi)).2
end Go.Proofs.YtbfflipcmciapaaDoor
