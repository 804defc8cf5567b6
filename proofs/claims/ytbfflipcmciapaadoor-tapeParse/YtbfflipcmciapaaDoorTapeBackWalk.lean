/-
  The Go text of the law TapeBack returns true.
-/
import Derived.Test.YtbfflipcmciapaaDoorTapT
namespace Go.Proofs.YtbfflipcmciapaaDoor
open Go.ChangeShapes Go.WideShapes Go.ChangeAt Go.RowKit
set_option linter.unusedVariables false
set_option maxRecDepth 100000

/-- While the law runs. -/
structure Tp.Bw (w : World) (v : Value) (l : List Tp.In) (Y : World) : Prop where
  low : Below w.heap.size w Y
  fc : Tp.F Y
  inp : Tp.InAt w.heap.size Y v l
theorem Tp.Bw.kept {w : World} {v : Value} {l : List Tp.In} {Y Y' : World} (h : Tp.Bw w v l Y) (hb : Below Y.heap.size Y Y') : Tp.Bw w v l Y' := ⟨stp h.low hb, h.fc.kept hb, h.inp.kept (hb.mono h.low.size)⟩
theorem Tp.ofbN_btn {d : Nat} (h : d < 256) : Tp.ofbN (Tp.btn d) = d ∧ Tp.ofbE (Tp.btn d) = 0 := by
  unfold Tp.ofbN Tp.ofbE
  rw [Tp.ofb_btn h]
  exact ⟨rfl, rfl⟩
theorem Tp.chk_40 {l : List Tp.In} (h : Tp.chkIn l 0 = 0) : l.length ≤ 40 := by
  rcases Nat.lt_or_ge 40 l.length with h1 | h1
  · have : Tp.chkIn l 0 = 2 := if_pos h1
    rw [this] at h
    cases h
  · exact h1
set_option maxHeartbeats 3200000 in
theorem Tp.back_law (v : Value) (l : List Tp.In) (d : Nat) (w : World) (hF : Tp.F w) (h : Tp.InAt w.heap.size w v l) (hok : ∀ x ∈ l, x.ok) (hd : d < 256) :
    Calls Tryd.prog 6 #[v, .int .u8 d] w fun e w' => e = .returned (.bool true) ∧ Below w.heap.size w w' := by
  obtain ⟨a1, k1, e1⟩ := h.len
  subst e1
  have H0 : Hid (Tp.Bw w (.slice a1 l.length k1) l w) := hid ⟨st0 w, hF, h⟩
  obtain ⟨o1, o2⟩ := Tp.ofbN_btn hd
  have HOF : Hid (∀ W, Calls Tryd.prog 8 #[.string (mk (Tp.btn d))] W fun e w' => e = .returned (.tuple #[.int .u8 d, .int .i64 0]) ∧ W = w') := hid (fun W => by have h9 := Tp.ofButtons_any (Tp.btn d) W; rw [o1, o2] at h9; exact h9)
  have HPR : Hid (∀ W, Tp.Bw w (.slice a1 l.length k1) l W → Calls Tryd.prog 7 #[.slice a1 l.length k1] W fun e w' => e = .returned (.tuple #[.string (mk (Tp.printS l)), .int .i64 (Tp.chkIn l 0)]) ∧ Below W.heap.size W w') := hid (fun W h => Tp.print_any l _ _ W h.inp h.low.size hok h.fc)
  have HOK := hid hok
  clear hF h hok o1 o2
  by_cases hc : Tp.chkIn l 0 = 0
  · have HC := hid hc
    have hp : Tp.printS l = Tp.text l := if_pos hc
    rw [hp, hc] at HPR
    clear hp hc
    by_cases hl : 4000 < (Tp.text l).length
    · have hs : (4000 : Int) < (mk (Tp.text l)).size := by show (4000 : Int) < (Tp.text l).length; omega
      clear hl
      go_enter Tryd.func6, Tryd.ntmps6
      go_wp2_with (first
        | (go_at_call 11; refine (Tp.buttons_any d hd _).mono ?_; rintro e w1 ⟨rfl, hb1⟩; have H1 := hid (H0.out.kept hb1); clear hb1)
        | (go_at_call 8; refine (HOF.out _).mono ?_; rintro e w2 ⟨rfl, rfl⟩)
        | (go_at_call 7; refine (HPR.out _ H1.out).mono ?_; rintro e w3 ⟨rfl, hb3⟩; have H3 := hid (H1.out.kept hb3); clear hb3)
        | (go_at_call 10; refine (Tp.taped _ H3.out.fc).mono ?_; rintro e w4 ⟨rfl, hb4⟩; have H4 := hid (H3.out.kept hb4); clear hb4))
      go_ret
      exact ⟨rfl, H4.out.low⟩
    · have hs : ¬ (4000 : Int) < (mk (Tp.text l)).size := by show ¬ (4000 : Int) < (Tp.text l).length; omega
      obtain ⟨p1, p2, p3⟩ := Tp.prs_text HOK.out (by omega) HC.out
      have HPS : Hid (∀ W, Tp.F W → Calls Tryd.prog 15 #[.string (mk (Tp.text l))] W fun e w' => ∃ v, e = .returned (.tuple #[v, .int .i64 0, .int .i64 0]) ∧ w'.ownsRow W.heap.size 34 3 v l.length (Tp.ics l) ∧ Below W.heap.size W w') := hid (fun W hW => (Tp.parse_any (Tp.text l) W hW).mono fun e w' ⟨v, he, hv, _, hb⟩ => ⟨v, by rw [p2, p3] at he; exact he, by rw [p1] at hv; exact hv, hb⟩)
      clear p1 p2 p3 hl
      go_enter Tryd.func6, Tryd.ntmps6
      go_wp2_with (first
        | (go_at_call 11; refine (Tp.buttons_any d hd _).mono ?_; rintro e w1 ⟨rfl, hb1⟩; have H1 := hid (H0.out.kept hb1); clear hb1)
        | (go_at_call 8; refine (HOF.out _).mono ?_; rintro e w2 ⟨rfl, rfl⟩)
        | (go_at_call 7; refine (HPR.out _ H1.out).mono ?_; rintro e w3 ⟨rfl, hb3⟩; have H3 := hid (H1.out.kept hb3); clear hb3)
        | (go_at_call 10; refine (Tp.taped _ H3.out.fc).mono ?_; rintro e w4 ⟨rfl, hb4⟩; have H4 := hid (H3.out.kept hb4); clear hb4)
        | (go_at_call 15; refine (HPS.out _ H4.out.fc).mono ?_; rintro e w5 ⟨pv, rfl, hv5, hb5⟩; obtain ⟨pa, pc, rfl⟩ := Tp.row_len hv5; have HV5 := hid (Tp.own_in hv5); have H5 := hid (H4.out.kept hb5); clear hv5 hb5)
        | (go_at_call 20; refine (Tp.sameIn _ _ l _ H5.out.inp.rw HV5.out.rw (by have := Tp.chk_40 HC.out; omega)).mono ?_; rintro e w6 ⟨rfl, hb6⟩; have H6 := hid (H5.out.kept hb6); clear hb6))
      go_ret
      exact ⟨rfl, H6.out.low⟩
  · have hp : Tp.printS l = [] := if_neg hc
    rw [hp] at HPR
    have hne : (Tp.chkIn l 0 != 0) = true := by simpa using hc
    generalize Tp.chkIn l 0 = ce at *
    clear hp hc
    go_enter Tryd.func6, Tryd.ntmps6
    go_wp2_with (first
      | (go_at_call 11; refine (Tp.buttons_any d hd _).mono ?_; rintro e w1 ⟨rfl, hb1⟩; have H1 := hid (H0.out.kept hb1); clear hb1)
      | (go_at_call 8; refine (HOF.out _).mono ?_; rintro e w2 ⟨rfl, rfl⟩)
      | (go_at_call 7; refine (HPR.out _ H1.out).mono ?_; rintro e w3 ⟨rfl, hb3⟩; have H3 := hid (H1.out.kept hb3); clear hb3)
      | (go_at_call 10; refine (Tp.taped _ H3.out.fc).mono ?_; rintro e w4 ⟨rfl, hb4⟩; have H4 := hid (H3.out.kept hb4); clear hb4))
    go_ret
    exact ⟨rfl, H4.out.low⟩
end Go.Proofs.YtbfflipcmciapaaDoor
