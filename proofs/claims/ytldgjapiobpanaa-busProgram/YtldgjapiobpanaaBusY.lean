/-
  Package bus: a slice of bytes is cloned; the slices of a machine, by their numbers.
-/
import Derived.Test.YtldgjapiobpanaaBusT
namespace Go.Proofs.Ytldgjapiobpanaa
open Go.ChangeShapes Go.WideShapes Go.ChangeAt Go.RowKit
set_option linter.unusedVariables false
set_option maxRecDepth 100000

theorem own_emptyB {w : World} {g B : Nat} (hg : w.heap[g]? = some (.cells #[] 5 (0, 0))) (hB : B ≤ g) : w.ownsRow B 5 1 (.slice (some ⟨g, 0, none⟩) 0 0) ([] : List UInt8).length (bcs []) :=
  ⟨rfl, Or.inr ⟨g, 0, #[], rfl, hB, hg, Nat.le_refl _, by decide, by simp, by simp [bcs]⟩⟩
/-- A slice that is one's own: nil, or at the start of a new block. -/
theorem own_rw {w : World} {B : Nat} {v : Value} {l : List UInt8} (h : w.ownsRow B 5 1 v l.length (bcs l)) : (v = .slice none 0 0 ∧ l = []) ∨ ∃ k cap, v = .slice (some ⟨k, 0, none⟩) l.length cap ∧ l.length ≤ cap ∧ B ≤ k ∧ Bx w k (bcs l) := by
  rcases h.2 with ⟨rfl, h0⟩ | ⟨g, cap, cur, rfl, hb, hg, hn, hm, hs, ht⟩
  · exact Or.inl ⟨rfl, List.length_eq_zero_iff.1 h0⟩
  · refine Or.inr ⟨g, cap, rfl, hn, hb, (Array.getElem?_eq_some_iff.1 hg).1, fun j c hj => ?_, fun o => Lib.frozen_of_heap hg o⟩
    have hjl := (List.getElem?_eq_some_iff.1 hj).1
    rw [bcs_len] at hjl
    rw [Nat.zero_add, Lib.cell_of_heap hg j]
    have e : cur[j]? = (cur.toList.take (l.length * 1))[j]? := by rw [List.getElem?_take, if_pos (by omega)]; simp
    rw [e, ht, hj]
theorem nil_eq (w : World) : (binOp .eql 22 (.slice none 0 0) (.slice none 0 0)).run Try.prog w = .ok (.bool true) w := by kernel_rfl
theorem nil_eq2 (n c : Nat) (w : World) : (binOp .eql 22 (.slice none n c) (.slice none 0 0)).run Try.prog w = .ok (.bool true) w := by kernel_rfl
theorem nil_ne (a : Addr) (n c : Nat) (w : World) : (binOp .eql 22 (.slice (some a) n c) (.slice none 0 0)).run Try.prog w = .ok (.bool false) w := by kernel_rfl
theorem Bu.clone_any (v : Value) (l : List UInt8) (w : World) (h : sliceAt w v l) (hl : l.length ≤ 100000) :
    Calls Try.prog 55 #[v] w fun e w' => ∃ v', e = .returned v' ∧ w'.ownsRow w.heap.size 5 1 v' l.length (bcs l) ∧ Below w.heap.size w w' := by
  obtain ⟨a, c, rfl⟩ := slice_len h
  cases a with
  | none =>
    have h0 : l = [] := by
      rcases h with ⟨_, _, _, h2⟩ | ⟨g, o, cap, h1, _⟩
      · exact h2
      · cases h1
    subst h0
    have hn := nil_eq2 0 c
    go_enter Try.func55, Try.ntmps55
    go_wp2
    go_ret
    exact ⟨_, rfl, ⟨rfl, Or.inl ⟨rfl, rfl⟩⟩, st0 _⟩
  | some a =>
    have hn := nil_ne a l.length c
    have H := hid h
    clear h
    go_enter Try.func55, Try.ntmps55
    go_wp2_with (at_builtin; refine wpList_appSlice (by rfl) _ _ (by rfl) w.heap.size _ ([] : List UInt8) (by rfl) (own_emptyB (heap_alloc_new w _) (Nat.le_refl _)) _ (by rfl) l (H.out.kept (stA (st0 w) _)) (by simp; exact hl) (by simp) ?_; intro v' w' hown' hb')
    go_ret
    exact ⟨_, rfl, by simpa using hown', (stA (st0 w) _).trans hb'⟩
def Sl.get (S : Sl) (j : Nat) : Value := match j with | 0 => S.mr | 1 => S.ar | 2 => S.ra | 3 => S.ow | _ => S.vi
def Sl.set (S : Sl) (j : Nat) (v : Value) : Sl := match j with | 0 => { S with mr := v } | 1 => { S with ar := v } | 2 => { S with ra := v } | 3 => { S with ow := v } | _ => { S with vi := v }
def Mach.byt (M : Mach) (j : Nat) : List UInt8 := match j with | 0 => M.mrom | 1 => M.arom | 2 => M.ram | 3 => M.own | _ => M.video
theorem five {j : Nat} (h : j < 5) : j = 0 ∨ j = 1 ∨ j = 2 ∨ j = 3 ∨ j = 4 := by omega
theorem Sl.get_set (S : Sl) (i j : Nat) (v : Value) (hi : i < 5) (hj : j < 5) : (S.set i v).get j = if j = i then v else S.get j := by
  rcases five hi with rfl | rfl | rfl | rfl | rfl <;> rcases five hj with rfl | rfl | rfl | rfl | rfl <;> rfl
theorem machL_at (M : Mach) (S : Sl) (j : Nat) (hj : j < 5) : (machL M S)[30 + j]? = some (S.get j) := by
  rcases five hj with rfl | rfl | rfl | rfl | rfl <;> rfl
theorem machL_set (M : Mach) (S : Sl) (j : Nat) (v : Value) (hj : j < 5) : (machL M S).set (30 + j) v = machL M (S.set j v) := by
  rcases five hj with rfl | rfl | rfl | rfl | rfl <;> rfl
theorem info_mach : (Try.prog.info? 41).map (·.size) = some 75 := by kernel_rfl
theorem load_mach {Y : World} {b o : Nat} (M : Mach) (S : Sl) (h : Y.rangeAt b o (machL M S)) : (loadVar 41 ⟨b, o, none⟩).run Try.prog Y = .ok (.agg (machL M S).toArray) Y :=
  run_loadVar_mid Y b o 41 _ _ h Try.underlying41 rfl info_mach
/-- Slices' values are one cell each. -/
def Sl.isSl (S : Sl) : Prop := ∀ j, j < 5 → ∃ a n c, S.get j = .slice a n c
theorem machL_one (M : Mach) (S : Sl) (h : S.isSl) : (machL M S).toArray.all (·.oneCell') = true := by
  obtain ⟨a0, n0, c0, e0⟩ := h 0 (by omega)
  obtain ⟨a1, n1, c1, e1⟩ := h 1 (by omega)
  obtain ⟨a2, n2, c2, e2⟩ := h 2 (by omega)
  obtain ⟨a3, n3, c3, e3⟩ := h 3 (by omega)
  obtain ⟨a4, n4, c4, e4⟩ := h 4 (by omega)
  simp only [Sl.get] at e0 e1 e2 e3 e4
  unfold machL cpuL slL restL
  rw [e0, e1, e2, e3, e4]
  simp [Value.oneCell']
end Go.Proofs.Ytldgjapiobpanaa
