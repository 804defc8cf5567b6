/-
  Package tape: Print.
-/
import Derived.Test.YtbfflipcmciapaaDoorTapS
namespace Go.Proofs.YtbfflipcmciapaaDoor
open Go.ChangeShapes Go.WideShapes Go.ChangeAt Go.RowKit
set_option linter.unusedVariables false
set_option maxRecDepth 100000

theorem Tp.own_none (v : Value) : v.ownBlock = none ∨ v.ownBlock ≠ none := by cases v.ownBlock with
  | none => exact Or.inl rfl
  | some g => exact Or.inr (by simp)
theorem Tp.grown_of_below {w w' : World} (h : Below w.heap.size w w') : w.grownBy w' none := ⟨h.os, h.tape, h.output, h.size, fun k hk _ => h.block k hk⟩
theorem Tp.isB_kept {T e : TypeId} {B b : Nat} {bs : List Value} {w w' : World} (h : Lib.IsBuilder T e B b bs w) (hb : Below w.heap.size w w') : Lib.IsBuilder T e B b bs w' := by
  have key : ∀ p, Lib.BuilderAt T e B b p bs w → Lib.BuilderAt T e B b p bs w' := fun p hp => by
    have hlt := hp.lt
    obtain ⟨hB, v, hk, hown, hne⟩ := hp
    exact ⟨hB, v, (hb.block b hlt).trans hk, hown.kept (Tp.grown_of_below hb) (Tp.own_none v), hne⟩
  rcases h with h | h
  · exact Or.inl (key _ h)
  · exact Or.inr (key _ h)
theorem Tp.strCells_mk (l : List UInt8) : Lib.strCells (mk l) = Lib.byteCells l := by
  first | rfl | simp [Lib.strCells, Lib.byteCells, mk]
theorem Tp.byteCells_append (a b : List UInt8) : Lib.byteCells a ++ Lib.byteCells b = Lib.byteCells (a ++ b) := by
  first | rfl | simp [Lib.byteCells]
theorem Tp.byteCells_len (a : List UInt8) : (Lib.byteCells a).length = a.length := by
  first | rfl | simp [Lib.byteCells]
theorem Tp.write_any (B b : Nat) (acc : List UInt8) (s : List UInt8) (w : World) (h : Lib.IsBuilder 66 5 B b (Lib.byteCells acc) w) (hl : acc.length + s.length ≤ 1000000) (hB : B ≤ w.heap.size) :
    Calls Tryd.prog 24 #[.pointer (some ⟨b, 0, none⟩), .string (mk s)] w fun e w' => e = .returned (.tuple #[.int .i64 (mk s).size, .nilIface]) ∧ Lib.IsBuilder 66 5 B b (Lib.byteCells (acc ++ s)) w' ∧ Below B w w' := by
  refine (Any.Builder_WriteString Tp.lays166 Tp.bextra B b (Lib.byteCells acc) (mk s) w h ?_ hB).mono fun e w' ⟨he, h1, h2⟩ => ⟨he, Or.inr ?_, h2⟩
  · rw [Tp.byteCells_len, show (mk s).size = s.length from rfl]; omega
  · rw [Tp.strCells_mk, Tp.byteCells_append] at h1
    exact h1
theorem Tp.writeByte_any (B b : Nat) (acc : List UInt8) (w : World) (h : Lib.IsBuilder 66 5 B b (Lib.byteCells acc) w) (hl : acc.length ≤ 1000000) (hB : B ≤ w.heap.size) :
    Calls Tryd.prog 26 #[.pointer (some ⟨b, 0, none⟩), .int .u8 10] w fun e w' => e = .returned .nilIface ∧ Lib.IsBuilder 66 5 B b (Lib.byteCells (acc ++ [10])) w' ∧ Below B w w' := by
  refine (Any.Builder_WriteByte Tp.lays167 Tp.bextra B b (Lib.byteCells acc) 10 w h ?_ hB).mono fun e w' ⟨he, h1, h2⟩ => ⟨he, Or.inr ?_, h2⟩
  · rw [Tp.byteCells_len]; omega
  · have e1 : Lib.byteCells acc ++ [.int .u8 10] = Lib.byteCells (acc ++ [10]) := Tp.byteCells_append acc [10]
    rw [e1] at h1
    exact h1
/-- All lines. -/
def Tp.text (l : List Tp.In) : List UInt8 := (l.map (fun x => x.line ++ [10])).flatten
theorem Tp.text_next {l : List Tp.In} {j : Nat} {x : Tp.In} (h : l[j]? = some x) : Tp.text (l.take (j + 1)) = Tp.text (l.take j) ++ x.line ++ [10] := by
  unfold Tp.text
  rw [List.take_add_one, h]
  simp
theorem Tp.text_len : ∀ l : List Tp.In, (∀ x ∈ l, x.ok) → (Tp.text l).length ≤ 64 * l.length
  | [], _ => Nat.le_refl _
  | x :: l, h => by
    have h1 := Tp.In.line_len (h x (List.mem_cons_self ..))
    have h2 := Tp.text_len l (fun y hy => h y (List.mem_cons_of_mem _ hy))
    unfold Tp.text at *
    rw [List.map_cons, List.flatten_cons, List.length_append, List.length_append, List.length_cons]
    simp only [List.length_cons, List.length_nil]
    omega
/-- What Print tells. -/
def Tp.printS (l : List Tp.In) : List UInt8 := if Tp.chkIn l 0 = 0 then Tp.text l else []
set_option maxHeartbeats 1600000 in
theorem Tp.print_any (l : List Tp.In) (v : Value) (B : Nat) (w : World) (h : Tp.InAt B w v l) (hB : B ≤ w.heap.size) (hok : ∀ x ∈ l, x.ok) (hF : Tp.F w) :
    Calls Tryd.prog 7 #[v] w fun e w' => e = .returned (.tuple #[.string (mk (Tp.printS l)), .int .i64 (Tp.chkIn l 0)]) ∧ Below w.heap.size w w' := by
  have HC := hid (Tp.checkInputs l v B 0 w h hB)
  by_cases hc : Tp.chkIn l 0 = 0
  · have hl40 : l.length ≤ 40 := by
      rcases Nat.lt_or_ge 40 l.length with h1 | h1
      · have : Tp.chkIn l 0 = 2 := if_pos h1
        rw [this] at hc
        cases hc
      · exact h1
    have hp : Tp.printS l = Tp.text l := if_pos hc
    rw [hp]
    rw [hc] at HC ⊢
    obtain ⟨a1, k1, e1⟩ := h.len
    subst e1
    have H := hid h
    have HO := hid hok
    have HFF := hid hF
    clear h hok hF hp hc
    go_enter Tryd.func7, Tryd.ntmps7
    go_wp2_with (go_at_call 23; refine HC.out.mono ?_; rintro e w1 ⟨rfl, hb1⟩)
    have HB1 := hid hb1
    clear hb1
    go_loopw [15] (fun i wr => ∃ j : Nat, j ≤ l.length ∧ i = .int .i64 j ∧ Lib.IsBuilder 66 5 w1.heap.size w1.heap.size (Lib.byteCells (Tp.text (l.take j))) wr ∧ Below w1.heap.size w1 wr) (fun i _ => l.length - (intOf i).toNat)
    case atStart => exact ⟨0, Nat.zero_le _, rfl, Lib.fresh_isBuilder _ _ w1, stA (st0 _) _⟩
    case round =>
      obtain ⟨j, hj, rfl, hbu, hb⟩ := hrel
      have HB := hid hb
      have HU := hid hbu
      have hbw := stp HB1.out hb
      by_cases hlt : j < l.length
      · obtain ⟨x, hx⟩ : ∃ x, l[j]? = some x := ⟨_, List.getElem?_eq_getElem hlt⟩
        have hxo := HO.out x (List.mem_of_getElem? hx)
        have HN := hid (Tp.text_next hx)
        have hlen := Tp.text_len (l.take j) (fun y hy => HO.out y (List.mem_of_mem_take hy))
        rw [List.length_take, Nat.min_eq_left hj] at hlen
        have hll := Tp.In.line_len hxo
        have HH := (H.out.kept (hbw.mono hB))
        obtain ⟨g, o, k, ev, gz, x0, x1, x2⟩ := HH.at' hx
        cases ev
        have hjl : (j : Int) < l.length := by omega
        have hj0 : (0 : Int) ≤ j := by omega
        have hsz := hb.size
        have HFw := hid (HFF.out.kept hbw)
        obtain ⟨xc, xp, xd⟩ := x
        simp only at x0 x1 x2
        clear hb hbw hbu hx HH
        go_wp2_with (first
          | (go_at_call 25; refine (Tp.line_any ⟨xc, xp, xd⟩ hxo _ (HFw.out.kept (stA (st0 _) _))).mono ?_; rintro e w2 ⟨rfl, hb2⟩; have HB2 := hid hb2; have HU2 := hid (Tp.isB_kept (Tp.isB_kept HU.out (stA (st0 _) _)) hb2); have hs2 := (stp (stA (st0 wr) _) hb2).size; clear hb2)
          | (go_at_call 24; refine (Tp.write_any _ _ _ _ _ HU2.out (by omega) (by omega)).mono ?_; rintro e w3 ⟨rfl, hu3, hb3⟩; have HB3 := hid hb3; have HU3 := hid hu3; have hs3 := hb3.size; clear hb3 hu3)
          | (go_at_call 26; refine (Tp.writeByte_any _ _ _ _ HU3.out (by rw [List.length_append]; omega) (by omega)).mono ?_; rintro e w4 ⟨rfl, hu4, hb4⟩; have HB4 := hid hb4; have HU4 := hid hu4; clear hb4 hu4))
        exact ⟨⟨j + 1, by omega, by simp, by rw [HN.out]; exact HU4.out, (((HB.out.alloc hsz _).trans (HB2.out.mono (by simp; omega))).trans HB3.out).trans HB4.out⟩, by simp [intOf]; omega⟩
      · have hj2 : j = l.length := by omega
        subst hj2
        have hnl : ¬ (l.length : Int) < l.length := by omega
        have hsz := hb.size
        have HU2 : Hid (Lib.IsBuilder 66 5 w1.heap.size w1.heap.size (Lib.byteCells (Tp.text l)) wr) := by rw [List.take_length] at hbu; exact hid hbu
        clear hb hbu hbw
        go_wp2_with (go_at_call 27; refine (Tryd.Builder_String_any _ _ _ _ HU2.out hsz).mono ?_; rintro e w2 ⟨rfl, hb2⟩)
        go_ret2
        exact ⟨rfl, HB1.out.trans ((HB.out.trans hb2).mono HB1.out.size)⟩
  · have hp : Tp.printS l = [] := if_neg hc
    rw [hp]
    have hne : (Tp.chkIn l 0 != 0) = true := by simpa using hc
    generalize Tp.chkIn l 0 = ce at *
    clear h hok hF hp hc
    go_enter Tryd.func7, Tryd.ntmps7
    go_wp2_with (go_at_call 23; refine HC.out.mono ?_; rintro e w1 ⟨rfl, hb1⟩)
    go_ret2
    exact ⟨rfl, hb1⟩
end Go.Proofs.YtbfflipcmciapaaDoor
