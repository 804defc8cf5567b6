/-
  Parts of a proof, joined.
-/
import Derived.Test.YtlibaekomndmoaaSb08
namespace Go.Proofs.Ytlibaekomndmoaa
open Go.ChangeShapes Go.WideShapes Go.ChangeAt Go.RowKit
set_option linter.unusedVariables false
set_option maxRecDepth 100000
abbrev tornE : Ending := .panicked [{ v := .iface 73 (.agg #[]), recovered := false }]
def Kx (W w1 : World) : Prop := ∀ b L, Bx W b L → ∃ L', Bx w1 b L' ∧ L'.length = L.length
theorem Kx.refl (W : World) : Kx W W := fun b L h => ⟨L, h, rfl⟩
theorem Kx.trans {a b c : World} (h : Kx a b) (k : Kx b c) : Kx a c := fun x L hx => by
  obtain ⟨L1, h1, e1⟩ := h x L hx
  obtain ⟨L2, h2, e2⟩ := k x L1 h1
  exact ⟨L2, h2, e2.trans e1⟩
theorem Kx.below {W w1 : World} (hb : Below W.heap.size W w1) : Kx W w1 := fun b L h => ⟨L, h.kept hb, rfl⟩
theorem Kx.set (W : World) (b o : Nat) (v : Value) : Kx W (W.setCell ⟨b, o, none⟩ v) := fun x L h => by
  by_cases e : b = x
  · subst e
    by_cases ho : o < L.length
    · exact ⟨L.set o v, h.set o v ho, by simp⟩
    · refine ⟨L, ⟨by simpa using h.z, fun j u hj => ?_, fun o' => by simpa using h.f o'⟩, rfl⟩
      have hjl := (List.getElem?_eq_some_iff.1 hj).1
      exact (World.cell?_setCell_other _ _ _ _ (by intro x; have := congrArg Addr.off x; simp at this; omega)).trans (h.c j u hj)
  · exact ⟨L, h.far e v, rfl⟩
structure Rr (N g : Nat) (l : List UInt8) (W : World) : Prop where
  hN : N ≤ g
  s : ∃ a c, Bx W g [.slice a l.length c] ∧ SlUn N W (.slice a l.length c) l
theorem Rr.z {N g : Nat} {l : List UInt8} {W : World} (h : Rr N g l W) : g < W.heap.size := by
  obtain ⟨a, c, h1, _⟩ := h.s
  exact h1.z
theorem Rr.move {N g : Nat} {l : List UInt8} {W w1 : World} {T : Nat → Prop} (h : Rr N g l W) (hm : Mv N T T W w1) (hg : ¬ T g) : Rr N g l w1 := by
  obtain ⟨a, c, h1, h2⟩ := h.s
  exact ⟨h.hN, a, c, h1.same hm.size (hm.block g h1.z hg), h2.kept hm.below⟩
theorem Rr.kept {N g : Nat} {l : List UInt8} {W w1 : World} (h : Rr N g l W) (hb : Below W.heap.size W w1) : Rr N g l w1 := by
  obtain ⟨a, c, h1, h2⟩ := h.s
  exact ⟨h.hN, a, c, h1.kept hb, h2.kept (hb.mono (Nat.le_trans h.hN (Nat.le_of_lt h1.z)))⟩
theorem Sv.giveUp (g : Nat) (w : World) : Calls Try.prog 30 #[pt g 0] w fun e w' => e = tornE ∧ w = w' := by
  have hpn : ∀ (t : TypeId) (v : Value) (w : World), (Instr.panic (.iface t v)).run Try.prog w = .halt (.panic (.iface t v)) w := fun _ _ _ => rfl
  go_enter Try.func30, Try.ntmps30
  go_wp2
  exact ⟨rfl, rfl, rfl⟩
theorem Sv.take_no {N g : Nat} {l : List UInt8} (W : World) (n : Nat) (h : Rr N g l W) (hn : l.length < n) :
    Calls Try.prog 113 #[pt g 0, .int .i64 n] W fun e w' => e = tornE ∧ W = w' := by
  obtain ⟨a, c, h1, h2⟩ := h.s
  have c0 := h1.at 0 _ rfl
  have hz := h1.z
  have hd : (l.length : Int) < n := by omega
  clear h h1 h2
  go_enter Try.func113, Try.ntmps113
  go_wp2_with (go_at_call 30; refine (Sv.giveUp g _).mono ?_; rintro e w' ⟨rfl, rfl⟩)
  exact ⟨rfl, rfl, rfl⟩
theorem SlUn.take {N : Nat} {W : World} {a : Option Addr} {c : Nat} {l : List UInt8} (h : SlUn N W (.slice a l.length c) l) (n : Nat) (hn : n ≤ l.length) : SlUn N W (.slice a n c) (l.take n) := by
  have hl : (l.take n).length = n := by rw [List.length_take]; omega
  rcases h with ⟨a', c', h1, h2⟩ | ⟨b, o, c', h1, h2, h3, h4, h5⟩
  · subst h2
    have : n = 0 := by simpa using hn
    subst this
    exact Or.inl ⟨a, c, rfl, rfl⟩
  · simp only [Value.slice.injEq] at h1
    obtain ⟨rfl, _, rfl⟩ := h1
    refine Or.inr ⟨b, o, c, by rw [hl], by rw [hl]; omega, h3, h4, fun j x hj => ?_⟩
    have hjl := (List.getElem?_eq_some_iff.1 hj).1
    rw [List.getElem?_take_of_lt (by rw [hl] at hjl; exact hjl)] at hj
    exact h5 j x hj
theorem SlUn.drop {N : Nat} {W : World} {a : Option Addr} {c : Nat} {l : List UInt8} (h : SlUn N W (.slice a l.length c) l) (n : Nat) (hn : n ≤ l.length) : SlUn N W (.slice (Option.map (fun x => x.add n) a) (l.length - n) (c - n)) (l.drop n) := by
  have hl : (l.drop n).length = l.length - n := by rw [List.length_drop]
  rcases h with ⟨a', c', h1, h2⟩ | ⟨b, o, c', h1, h2, h3, h4, h5⟩
  · subst h2
    have : n = 0 := by simpa using hn
    subst this
    exact Or.inl ⟨_, _, rfl, rfl⟩
  · simp only [Value.slice.injEq] at h1
    obtain ⟨rfl, _, rfl⟩ := h1
    refine Or.inr ⟨b, o + n, c - n, ?_, by rw [hl]; omega, h3, h4, fun j x hj => ?_⟩
    · rw [hl]
      simp only [Option.map_some, addr_add]
    · rw [List.getElem?_drop] at hj
      rw [Nat.add_assoc]
      exact h5 (n + j) x hj
theorem SlUn.none {N : Nat} {W : World} {a : Option Addr} {l : List UInt8} {n c : Nat} (hn : l.length ≤ n) : SlUn N W (.slice a (l.length - n) c) (l.drop n) :=
  Or.inl ⟨a, c, by rw [show l.length - n = 0 by omega], List.drop_eq_nil_of_le hn⟩
theorem Rr.next {N g : Nat} {l : List UInt8} {W : World} {n c : Nat} {a : Option Addr} (h : Rr N g l W) (hs : SlUn N W (.slice a (l.length - n) c) (l.drop n)) :
    Rr N g (l.drop n) (W.setCell ⟨g, 0, none⟩ (.slice a (l.length - n) c)) ∧ Mv N (· = g) (· = g) W (W.setCell ⟨g, 0, none⟩ (.slice a (l.length - n) c)) ∧ Kx W (W.setCell ⟨g, 0, none⟩ (.slice a (l.length - n) c)) := by
  obtain ⟨a', c', h1, h2⟩ := h.s
  have hm : Mv N (· = g) (· = g) W (W.setCell ⟨g, 0, none⟩ (.slice a (l.length - n) c)) := (Mv.refl N (fun x => x = g) W).setCell (p := ⟨g, 0, none⟩) h.hN (Or.inl rfl) _
  refine ⟨⟨h.hN, a, c, ?_, ?_⟩, hm, Kx.set _ _ _ _⟩
  · rw [List.length_drop]
    exact h1.set 0 _ (by simp)
  · rw [List.length_drop]
    exact hs.kept hm.below
set_option maxHeartbeats 1600000 in
theorem Sv.take_ok {N g : Nat} {l : List UInt8} (W : World) (n : Nat) (h : Rr N g l W) (hn : n ≤ l.length) (hl : l.length ≤ 9223372036854775807) :
    Calls Try.prog 113 #[pt g 0, .int .i64 n] W fun e w' => ∃ a c, e = .returned (.slice a n c) ∧ SlUn N w' (.slice a n c) (l.take n) ∧ Rr N g (l.drop n) w' ∧ Mv N (· = g) (· = g) W w' ∧ Kx W w' := by
  obtain ⟨a, c, h1, h2⟩ := h.s
  have c0 := h1.at 0 _ rfl
  have f0 := h1.f 0
  have hz := h1.z
  have hd : ¬ (l.length : Int) < n := by omega
  have hd2 : (n : Int) ≤ l.length := by omega
  have hn0 : (0 : Int) ≤ n := by omega
  have hnl : (l.length : Int) ≤ 9223372036854775807 := by omega
  have hlc : l.length ≤ c := by
    rcases h2 with ⟨a', c', e1, e2⟩ | ⟨b, o, c', e1, e2, _⟩
    · subst e2; simp
    · simp only [Value.slice.injEq] at e1
      omega
  have hnc : n ≤ c := by omega
  have H := hid h
  have H1 := hid h1
  have H2 := hid h2
  clear h h1 h2
  go_enter Try.func113, Try.ntmps113
  go_wp2
  case inl =>
    have hcn : c = n := by omega
    subst hcn
    obtain ⟨q1, q2, q3⟩ := H.out.next (SlUn.none (a := a) (c := 0) hlc)
    go_ret
    exact ⟨_, _, rfl, (H2.out.take _ hn).kept q2.below, q1, q2, q3⟩
  case inr =>
    obtain ⟨q1, q2, q3⟩ := H.out.next (n := n) (H2.out.drop n hn)
    go_ret
    exact ⟨_, _, rfl, (H2.out.take n hn).kept q2.below, q1, q2, q3⟩
theorem Sv.end_ok {N g : Nat} (W : World) (h : Rr N g [] W) : Calls Try.prog 23 #[pt g 0] W fun e w' => e = .returned (.tuple #[]) ∧ W = w' := by
  obtain ⟨a, c, h1, h2⟩ := h.s
  have c0 := h1.at 0 _ rfl
  have hz := h1.z
  clear h h1 h2
  go_enter Try.func23, Try.ntmps23
  go_wp2
  go_end0
  exact ⟨rfl, rfl⟩
theorem Sv.end_no {N g : Nat} {l : List UInt8} (W : World) (h : Rr N g l W) (hl : l ≠ []) : Calls Try.prog 23 #[pt g 0] W fun e w' => e = tornE ∧ W = w' := by
  obtain ⟨a, c, h1, h2⟩ := h.s
  have c0 := h1.at 0 _ rfl
  have hz := h1.z
  have hd : (0 : Int) < l.length := by cases l with | nil => exact absurd rfl hl | cons _ _ => simp
  clear h h1 h2 hl
  go_enter Try.func23, Try.ntmps23
  go_wp2_with (go_at_call 30; refine (Sv.giveUp g _).mono ?_; rintro e w' ⟨rfl, rfl⟩)
  exact ⟨rfl, rfl, rfl⟩
end Go.Proofs.Ytlibaekomndmoaa
