/-
  Lines that came in.
-/
import Derived.Test.YtbfflipcmciapaaDoorTapK
import Derived.Test.YtbfflipcmciapaaDoorTapO
namespace Go.Proofs.YtbfflipcmciapaaDoor
open Go.ChangeShapes Go.WideShapes Go.ChangeAt Go.RowKit
set_option linter.unusedVariables false
set_option maxRecDepth 100000

instance : Inhabited Tp.Ln := ⟨⟨0, 0, fun _ => 0⟩⟩
theorem Tp.r16_at (f : Nat → Int) (i : Nat) (h : i < 16) : (Tp.r16 f)[i]? = some (.int .u8 (f i)) := by
  match i, h with
  | 0, _ => rfl
  | 1, _ => rfl
  | 2, _ => rfl
  | 3, _ => rfl
  | 4, _ => rfl
  | 5, _ => rfl
  | 6, _ => rfl
  | 7, _ => rfl
  | 8, _ => rfl
  | 9, _ => rfl
  | 10, _ => rfl
  | 11, _ => rfl
  | 12, _ => rfl
  | 13, _ => rfl
  | 14, _ => rfl
  | 15, _ => rfl
  | i + 16, h => exact absurd h (by omega)
theorem Tp.ln_ext {s : List Value} {x : Tp.Ln} (hl : s.length = 18) (h0 : s[0]? = some (.int .i64 x.f)) (h1 : s[1]? = some (.int .i64 x.l)) (h2 : ∀ i, i < 16 → s[2 + i]? = some (.int .u8 (x.px i))) : s = Tp.lnC x := by
  refine List.ext_getElem? fun j => ?_
  by_cases hj : j < 18
  · match j, hj with
    | 0, _ => exact h0
    | 1, _ => exact h1
    | j + 2, hj =>
      rw [Nat.add_comm j 2, h2 j (by omega), Nat.add_comm 2 j]
      exact (Tp.r16_at x.px j (by omega)).symm
  · rw [List.getElem?_eq_none (by omega), List.getElem?_eq_none (by rw [Tp.lnC_len]; omega)]
theorem Tp.opn_ln {H : Type} {enc : TypeId × Value → H} {w : World} {base : Nat} {spare : Nat → Bool} {held : Bool} {n : Nat} {x : DataW H × List MemPlace} {s : List Value} (h : DataW.trod enc Tryd.prog w base spare held n 60 s = some x) (hs : s.length = 18) : ∃ p : Tp.Ln, s = Tp.lnC p := by
  have hE : Tryd.prog.cellsOf 5 = 1 := by kernel_rfl
  have hI : Tryd.prog.cellsOf 3 = 1 := by kernel_rfl
  have hA : Tryd.prog.cellsOf 58 = 16 := by kernel_rfl
  obtain ⟨xs, m, _, _, _, hlen, hfs⟩ := DataW.trod_struct Tryd.underlying60 h
  have hl : xs.length = 3 := hlen
  have at_ : ∀ i, i < 18 → ∃ v, s[i]? = some v := fun i hi => ⟨_, List.getElem?_eq_getElem (by omega)⟩
  obtain ⟨v0, e0⟩ := at_ 0 (by omega)
  obtain ⟨v1, e1⟩ := at_ 1 (by omega)
  obtain ⟨a0, rfl, _⟩ := Tp.fld_int (ty := 3) (o := 0) (v := v0) (hfs 0 _ rfl) (by omega) hI Tryd.underlying3 e0
  obtain ⟨a1, rfl, _⟩ := Tp.fld_int (ty := 3) (o := 1) (v := v1) (hfs 1 _ rfl) (by omega) hI Tryd.underlying3 e1
  have g2 : DataW.trod enc Tryd.prog w base spare held m 58 ((s.drop 2).take (Tryd.prog.cellsOf 58)) = xs[2]? := hfs 2 _ rfl
  rw [List.getElem?_eq_getElem (by omega)] at g2
  obtain ⟨ys, k, _, _, _, hyl, hys⟩ := DataW.trod_array Tryd.underlying58 g2
  have hall : ∀ i, i < 16 → ∃ a : Int, s[2 + i]? = some (.int .u8 a) := fun i hi => by
    obtain ⟨v, e⟩ := at_ (2 + i) (by omega)
    have e' : ((s.drop 2).take (Tryd.prog.cellsOf 58))[i * Tryd.prog.cellsOf 5]? = some v := by
      rw [hA, hE, Nat.mul_one, List.getElem?_take_of_lt hi, List.getElem?_drop]; exact e
    obtain ⟨a, rfl, _⟩ := Tp.fld_int (o := i * Tryd.prog.cellsOf 5) (v := v) (hys i hi) (by omega) hE Tryd.underlying5 e'
    exact ⟨a, e⟩
  obtain ⟨px, hpx⟩ := Go.Deep.choose_lt hall
  exact ⟨⟨a0, a1, px⟩, Tp.ln_ext hs e0 e1 hpx⟩
theorem Tp.lncs_len : ∀ l : List Tp.Ln, (Tp.lncs l).length = l.length * 18
  | [] => rfl
  | x :: l => by rw [Tp.lncs, List.length_append, Tp.lnC_len, Tp.lncs_len l, List.length_cons]; omega
theorem Tp.open_lines {H : Type} {enc : TypeId × Value → H} {W : World} {v : Value} {x : DataW H × List MemPlace} {fuel : Nat} (hf : DataW.trod enc Tryd.prog W 0 (fun _ => true) true fuel 50 [v] = some x) (hw : ∀ n ∈ x.1.weights Tryd.prog 50, n ≤ reachBytes) :
    ∃ l : List Tp.Ln, Tp.Rw W v l.length 18 (Tp.lncs l) ∧ l.length ≤ 4398046511104 := by
  have c18 : Tryd.prog.cellsOf 60 = 18 := by kernel_rfl
  have b32 : Tryd.prog.bytesOf 60 = 32 := by kernel_rfl
  rcases Go.Deep.open_slice Tryd.underlying50 hf with ⟨hc, _⟩ | ⟨ad, len, cap, m, n, D, Pp, hc, _, hl, hm, hmm, hxx, hx⟩
  · simp only [List.cons.injEq, and_true] at hc
    exact ⟨[], ⟨rfl, Or.inl ⟨rfl, none, 0, hc⟩⟩, by simp⟩
  · simp only [List.cons.injEq, and_true] at hc
    subst hc
    simp only [if_true] at hmm
    have hR := reachBytes_lt
    have hlen : len ≤ 4398046511104 := by
      have := hw (((List.range len).map D).length * 32 + ((List.range (m - len)).map fun j => D (len + j)).length * 32) (by
        rw [hxx]
        simp [DataW.weights, Tryd.underlying50, b32]
        left
        omega)
      simp only [List.length_map, List.length_range] at this
      omega
    by_cases h0 : len = 0
    · subst h0
      exact ⟨[], ⟨rfl, Or.inl ⟨rfl, some ad, cap, rfl⟩⟩, by simp⟩
    · have hall : ∀ i, i < len → ∃ q : Tp.Ln, ∀ j u, (Tp.lnC q)[j]? = some u → W.cell? (ad.add (i * 18 + j)) = some u := fun i hi => by
        obtain ⟨cs', h1, h2⟩ := hx i (by omega)
        rw [c18] at h1
        obtain ⟨_, hl18, hcell⟩ := World.cells?_some h1
        obtain ⟨q, rfl⟩ := Tp.opn_ln h2 hl18
        refine ⟨q, fun j u hj => ?_⟩
        have hj18 : j < 18 := (List.getElem?_eq_some_iff.1 hj).1
        have e := hcell j (by omega)
        rw [Go.Deep.add_add] at e
        rw [e]
        exact hj
      obtain ⟨q, hq⟩ := Go.Deep.choose_lt hall
      have hs := Pl.spot (hq 0 (by omega) 0 _ rfl)
      obtain ⟨g, o, sp⟩ := ad
      have hs' : sp = none := by
        cases sp with
        | none => rfl
        | some x => simp [Addr.add] at hs
      subst hs'
      have hlt : g < W.heap.size := World.block_lt_of_cell? W _ (hq 0 (by omega) 0 _ rfl)
      have hln : ((List.range len).map q).length = len := by rw [List.length_map, List.length_range]
      refine ⟨(List.range len).map q, ⟨Tp.lncs_len _, Or.inr ⟨g, o, cap, by rw [hln], by rw [hln]; exact hl, hlt, fun j u hj => ?_⟩⟩, by rw [hln]; exact hlen⟩
      have hjl : j < len * 18 := by
        have := (List.getElem?_eq_some_iff.1 hj).1
        rw [Tp.lncs_len, hln] at this
        exact this
      have hi : j / 18 < len := by omega
      have hrow := Tp.lncs_row ((List.range len).map q) (j / 18) (q (j / 18)) (by rw [List.getElem?_map, List.getElem?_range hi]; rfl) (j % 18)
      obtain ⟨u', hu'⟩ : ∃ u', (Tp.lnC (q (j / 18)))[j % 18]? = some u' := ⟨_, List.getElem?_eq_getElem (by rw [Tp.lnC_len]; omega)⟩
      have e1 := hrow u' hu'
      rw [show j / 18 * 18 + j % 18 = j by omega, hj] at e1
      cases e1
      have e2 := hq (j / 18) hi (j % 18) u hu'
      rw [addr_add, show j / 18 * 18 + j % 18 = j by omega] at e2
      exact e2
end Go.Proofs.YtbfflipcmciapaaDoor
