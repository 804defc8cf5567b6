/-
  Lines of what was pressed, as plain data: back.
-/
import Derived.Test.YtbfflipcmciapaaDoorTapP
import Derived.Lib.AtoiAllCases
namespace Go.Proofs.YtbfflipcmciapaaDoor
open Go.ChangeShapes Go.WideShapes Go.ChangeAt Go.RowKit
set_option linter.unusedVariables false
set_option maxRecDepth 100000

theorem Tp.btn_not : ∀ d : Fin 256, (32 : UInt8) ∉ Tp.btn d.1 ∧ (10 : UInt8) ∉ Tp.btn d.1 := by decide +kernel
theorem Tp.itoa_32 (n : Int) : (32 : UInt8) ∉ Lib.itoa n := Tp.itoa_not n 32 (by decide) (by decide)
theorem Tp.itoa_10 (n : Int) : (10 : UInt8) ∉ Lib.itoa n := Tp.itoa_not n 10 (by decide) (by decide)
theorem Tp.atv_bd (a : List UInt8) : -9223372036854775808 ≤ Tp.atv a ∧ Tp.atv a ≤ 9223372036854775807 := by
  unfold Tp.atv
  split
  · rename_i v h; exact Lib.atoiAll_bounds h
  · decide
  · unfold Lib.atoiSat; split <;> decide
theorem Tp.wh_itoa (n : Int) (h0 : -9223372036854775808 ≤ n) (h1 : n ≤ 9223372036854775807) : Tp.wh (Lib.itoa n) = some n := by
  unfold Tp.wh
  rw [Tp.atoi_itoa n h0 h1]
  simp
theorem Tp.wh_some {a : List UInt8} {n : Int} (h : Tp.wh a = some n) : Lib.itoa n = a ∧ Tp.atv a = n ∧ -9223372036854775808 ≤ n ∧ n ≤ 9223372036854775807 := by
  have hb := Tp.atv_bd a
  unfold Tp.wh at h
  unfold Tp.atv at hb ⊢
  split at h
  · rename_i v hv
    try simp only [hv] at hb
    split at h
    · rename_i e
      cases h
      exact ⟨e, rfl, hb.1, hb.2⟩
    · cases h
  · cases h
  · cases h
theorem Tp.wh_back {a : List UInt8} (h : Lib.itoa (Tp.atv a) = a) : Tp.wh a = some (Tp.atv a) := by
  have hb := Tp.atv_bd a
  have e := Tp.wh_itoa (Tp.atv a) hb.1 hb.2
  rw [h] at e
  exact e
theorem Tp.In.line_form (x : Tp.In) : x.line = Lib.itoa x.c ++ 32 :: (Lib.itoa x.p ++ 32 :: Tp.btn x.d) := by
  unfold Tp.In.line
  simp
theorem Tp.sp_line {x : Tp.In} (h : x.d < 256) : Tp.sp 32 x.line = [Lib.itoa x.c, Lib.itoa x.p, Tp.btn x.d] := by
  rw [x.line_form, Tp.sp_at 32 _ _ (Tp.itoa_32 _), Tp.sp_at 32 _ _ (Tp.itoa_32 _), Tp.sp_no 32 _ (Tp.btn_not ⟨x.d, h⟩).1]
theorem Tp.rd_line {x : Tp.In} (h : x.ok) : Tp.rd x.line = some x := by
  unfold Tp.rd
  rw [Tp.sp_line h.d]
  simp only
  rw [Tp.wh_itoa x.c h.c0 h.c1, Tp.wh_itoa x.p h.p0 h.p1, Tp.ofb_btn h.d]
theorem Tp.rd_some {t : List UInt8} {x : Tp.In} (h : Tp.rd t = some x) : x.line = t ∧ x.ok := by
  unfold Tp.rd at h
  split at h
  · rename_i a b d hs
    obtain ⟨e, ha, hb, hd⟩ := Tp.sp_three hs
    split at h
    · rename_i n m z h1 h2 h3
      cases h
      obtain ⟨a1, a2, a3, a4⟩ := Tp.wh_some h1
      obtain ⟨b1, b2, b3, b4⟩ := Tp.wh_some h2
      obtain ⟨c1, c2⟩ := Tp.ofb_some h3
      exact ⟨by rw [Tp.In.line_form]; simp only; rw [a1, b1, c2, e], ⟨a3, a4, b3, b4, c1⟩⟩
    · cases h
  · cases h
/-- What ofLine makes of three parts. -/
def Tp.tri (a b d : List UInt8) : Tp.In := ⟨Tp.atv a, Tp.atv b, (Tp.ofb d).getD 0⟩
theorem Tp.ofb_lt (d : List UInt8) : (Tp.ofb d).getD 0 < 256 := by
  cases h : Tp.ofb d with
  | none => decide
  | some z => exact (Tp.ofb_some h).1
theorem Tp.tri_ok (a b d : List UInt8) : (Tp.tri a b d).ok := ⟨(Tp.atv_bd a).1, (Tp.atv_bd a).2, (Tp.atv_bd b).1, (Tp.atv_bd b).2, Tp.ofb_lt d⟩
theorem Tp.rd_tri {t a b d : List UInt8} (hs : Tp.sp 32 t = [a, b, d]) : Tp.rd t = if (Tp.tri a b d).line = t then some (Tp.tri a b d) else none := by
  by_cases h : (Tp.tri a b d).line = t
  · rw [if_pos h]
    have := Tp.rd_line (Tp.tri_ok a b d)
    rw [h] at this
    exact this
  · rw [if_neg h]
    cases hr : Tp.rd t with
    | none => rfl
    | some x =>
      exfalso
      obtain ⟨h1, h2⟩ := Tp.rd_some hr
      unfold Tp.rd at hr
      rw [hs] at hr
      simp only at hr
      split at hr
      · rename_i n m z e1 e2 e3
        cases hr
        obtain ⟨a1, a2, a3, a4⟩ := Tp.wh_some e1
        obtain ⟨b1, b2, b3, b4⟩ := Tp.wh_some e2
        refine h ?_
        unfold Tp.tri
        rw [a2, b2, e3]
        exact h1
      · cases hr
theorem Tp.rd_other {t : List UInt8} (hs : (Tp.sp 32 t).length ≠ 3) : Tp.rd t = none := by
  unfold Tp.rd
  split
  · rename_i a b d e
    rw [e] at hs
    exact absurd rfl hs
  · rfl
/-! ### lines -/
/-- All lines of a text, or the number of the first that is wrong. -/
def Tp.rdA : List (List UInt8) → Nat → Except Nat (List Tp.In)
  | [], _ => .ok []
  | [t], i => if t = [] then .ok [] else .error i
  | t :: u :: ls, i => match Tp.rd t with
    | none => .error i
    | some x => match Tp.rdA (u :: ls) (i + 1) with
      | .error k => .error k
      | .ok l => .ok (x :: l)
/-- What stands behind inputs that are read. -/
def Tp.aft (acc : List Tp.In) : Except Nat (List Tp.In) → Except Nat (List Tp.In)
  | .error k => .error k
  | .ok l => .ok (acc ++ l)
theorem Tp.rdA_no {t u : List UInt8} {ls : List (List UInt8)} {i : Nat} (h : Tp.rd t = none) : Tp.rdA (t :: u :: ls) i = .error i := by rw [Tp.rdA, h]
theorem Tp.rdA_yes {t u : List UInt8} {ls : List (List UInt8)} {i : Nat} {x : Tp.In} (h : Tp.rd t = some x) : Tp.rdA (t :: u :: ls) i = Tp.aft [x] (Tp.rdA (u :: ls) (i + 1)) := by
  rw [Tp.rdA, h]
  cases Tp.rdA (u :: ls) (i + 1) <;> rfl
theorem Tp.aft_aft (a b : List Tp.In) (e : Except Nat (List Tp.In)) : Tp.aft a (Tp.aft b e) = Tp.aft (a ++ b) e := by
  cases e <;> simp [Tp.aft]
theorem Tp.rdA_ok : ∀ (ls : List (List UInt8)) (i : Nat) (l : List Tp.In), Tp.rdA ls i = .ok l → (∀ x ∈ l, x.ok) ∧ l.length ≤ ls.length
  | [], i, l, h => by rw [Tp.rdA] at h; cases h; simp
  | [t], i, l, h => by
    rw [Tp.rdA] at h
    split at h
    · cases h; simp
    · cases h
  | t :: u :: ls, i, l, h => by
    cases hr : Tp.rd t with
    | none => rw [Tp.rdA_no hr] at h; cases h
    | some x =>
      rw [Tp.rdA_yes hr] at h
      cases hq : Tp.rdA (u :: ls) (i + 1) with
      | error k => rw [hq] at h; cases h
      | ok l' =>
        rw [hq] at h
        simp only [Tp.aft, Except.ok.injEq] at h
        subst h
        obtain ⟨h1, h2⟩ := Tp.rdA_ok (u :: ls) (i + 1) l' hq
        refine ⟨fun y hy => ?_, by simp at h2 ⊢; omega⟩
        rcases List.mem_cons.1 hy with e | e
        · subst e; exact (Tp.rd_some hr).2
        · exact h1 y e
theorem Tp.line_10 {x : Tp.In} (h : x.d < 256) : (10 : UInt8) ∉ x.line := by
  rw [x.line_form]
  simp only [List.mem_append, List.mem_cons, not_or]
  exact ⟨Tp.itoa_10 _, by decide, Tp.itoa_10 _, by decide, (Tp.btn_not ⟨x.d, h⟩).2⟩
/-- What is printed is read as it. -/
theorem Tp.rdA_text : ∀ (l : List Tp.In) (i : Nat), (∀ x ∈ l, x.ok) → Tp.rdA (Tp.sp 10 (Tp.text l)) i = .ok l
  | [], i, _ => rfl
  | x :: l, i, h => by
    have hx := h x (List.mem_cons_self ..)
    have ih := Tp.rdA_text l (i + 1) (fun y hy => h y (List.mem_cons_of_mem _ hy))
    have e : Tp.text (x :: l) = x.line ++ 10 :: Tp.text l := by unfold Tp.text; simp
    rw [e, Tp.sp_at 10 _ _ (Tp.line_10 hx.d)]
    cases hs : Tp.sp 10 (Tp.text l) with
    | nil => exact absurd hs (Tp.sp_ne _ _)
    | cons u ls =>
      rw [hs] at ih
      rw [Tp.rdA_yes (Tp.rd_line hx), ih]
      rfl
/-- What Parse tells of any text: inputs, a line's number, an error. -/
def Tp.prsL (s : List UInt8) : List Tp.In := if 4000 < s.length then [] else match Tp.rdA (Tp.sp 10 s) 0 with
  | .error _ => []
  | .ok l => if Tp.chkIn l 0 = 0 then l else []
def Tp.prsN (s : List UInt8) : Nat := if 4000 < s.length then 0 else match Tp.rdA (Tp.sp 10 s) 0 with
  | .error k => k
  | .ok l => 0
def Tp.prsE (s : List UInt8) : Int := if 4000 < s.length then 2 else match Tp.rdA (Tp.sp 10 s) 0 with
  | .error k => 1
  | .ok l => Tp.chkIn l 0
theorem Tp.prs_text {l : List Tp.In} (h : ∀ x ∈ l, x.ok) (hl : (Tp.text l).length ≤ 4000) (hc : Tp.chkIn l 0 = 0) : Tp.prsL (Tp.text l) = l ∧ Tp.prsN (Tp.text l) = 0 ∧ Tp.prsE (Tp.text l) = 0 := by
  have hn : ¬ 4000 < (Tp.text l).length := by omega
  unfold Tp.prsL Tp.prsN Tp.prsE
  rw [if_neg hn, if_neg hn, if_neg hn, Tp.rdA_text l 0 h]
  simp only [hc, if_true, and_self]
end Go.Proofs.YtbfflipcmciapaaDoor
