/-
  A space of package cpu: its reach is one that a processor may come to; how it is made, checked and copied.
-/
import Derived.Test.YthfngejmihdafaaDoorCpuS
namespace Go.Proofs.YthfngejmihdafaaDoor
open Go.ChangeShapes Go.WideShapes Go.ChangeAt Go.RowKit
set_option linter.unusedVariables false

abbrev rdV (sb : Nat) : Value := fv 18 #[.pointer (some ⟨sb, 0, none⟩)]
abbrev wrV (sb : Nat) : Value := fv 21 #[.pointer (some ⟨sb, 0, none⟩)]
theorem SpI.kept {B sb : Nat} {vR vM : Value} {rom ram : List UInt8} {w w' : World} (h : SpI B sb vR vM rom w ram) (hb : Below w.heap.size w w') : SpI B sb vR vM rom w' ram := h.keep hb.size (fun k hk => hb.block k (h.lt k hk))
theorem eq_fn (n : Nat) (cs : Array Value) (w : World) : (binOp .eql 41 (.func (.func n) #[] cs) .nilFunc).run Tryd.prog w = .ok (.bool false) w := by kernel_rfl
theorem ne_fn (n : Nat) (cs : Array Value) (w : World) : (binOp .neq 42 (.func (.func n) #[] cs) .nilFunc).run Tryd.prog w = .ok (.bool true) w := by kernel_rfl
set_option maxRecDepth 100000 in
theorem byteAt_sp (B sb : Nat) (vR vM : Value) (rom ram : List UInt8) (a : Int) (ha : 0 ≤ a) (ha' : a ≤ 65535) (w : World) (h : SpI B sb vR vM rom w ram) :
    Calls Tryd.prog 24 #[.agg #[rdV sb, wrV sb], .int .u16 a] w fun e w' => e = .returned (.int .u8 ((spc rom).rd ram a).1) ∧ SpI B sb vR vM rom w' ram ∧ Mv B (spT sb vR vM ram) (spT sb vR vM ram) w w' := by
  have HS := hid h
  have hq := eq_fn
  clear h
  go_enter Tryd.func24, Tryd.ntmps24
  go_wp2_with (go_at_call 18; refine (read_any1 B sb vR vM rom ram a ha ha' _ (HS.out.kept (stA (st0 _) _))).mono ?_; rintro e w1 ⟨rfl, hb1⟩)
  go_ret
  exact ⟨rfl, HS.out.kept (stp (stA (st0 _) _) hb1), Mv.of_below HS.out.big (stp (stA (st0 _) _) hb1)⟩
set_option maxRecDepth 100000 in
theorem putByte_sp (B sb : Nat) (vR vM : Value) (rom ram : List UInt8) (a b : Int) (ha : 0 ≤ a) (ha' : a ≤ 65535) (hb0 : 0 ≤ b) (hb1 : b ≤ 255) (w : World) (h : SpI B sb vR vM rom w ram) :
    Calls Tryd.prog 45 #[.agg #[rdV sb, wrV sb], .int .u16 a, .int .u8 b] w fun e w' => e = .returned (.tuple #[]) ∧ SpI B sb vR vM rom w' ((spc rom).wr ram a b) ∧ Mv B (spT sb vR vM ram) (spT sb vR vM ((spc rom).wr ram a b)) w w' := by
  have HS := hid h
  have HW : Hid (∀ W : World, SpI B sb vR vM rom W ram → Calls Tryd.prog 21 #[.int .u16 a, .int .u8 b, .pointer (some ⟨sb, 0, none⟩)] W fun e w' => e = .returned (.tuple #[]) ∧ SpI B sb vR vM rom w' ((spc rom).wr ram a b) ∧ Mv B (spT sb vR vM ram) (spT sb vR vM ram) W w') := by
    intro W hW
    unfold spc
    simp only
    cases hm : inRam ram.length a
    · rw [if_neg (by simp)]
      exact (writeNo B sb vR vM rom ram a b ha ha' hm W hW).mono fun e w' hh => ⟨hh.1, hW.kept hh.2, Mv.of_below hW.big hh.2⟩
    · rw [if_pos rfl]
      exact writeRam B sb vR vM rom ram a b ha ha' hb0 hb1 hm W hW
  clear h
  generalize (spc rom).wr ram a b = ram' at HW ⊢
  have hq := ne_fn
  go_enter Tryd.func45, Tryd.ntmps45
  go_wp2_with (go_at_call 21; refine (HW.out _ (HS.out.kept (stA (st0 _) _))).mono ?_; rintro e w1 ⟨rfl, hI1, hm1⟩)
  go_end0
  exact ⟨rfl, hI1, hm1.unbox HS.out.big⟩
theorem space_rs (B sb : Nat) (vR vM : Value) (rom : List UInt8) : RS (spc rom) B 18 21 #[.pointer (some ⟨sb, 0, none⟩)] #[.pointer (some ⟨sb, 0, none⟩)] (SpI B sb vR vM rom) (spT sb vR vM) where
  lt := fun h k hk => h.lt k hk
  keep := fun h hs e => h.keep hs e
  shapes := fun h => h.shapes
  gT := Or.inl rfl
  byte := fun s a => spc_byte rom s a
  big := fun h => h.big
  read := fun w s a ha ha' h => byteAt_sp B sb vR vM rom s a ha ha' w h
  write := fun w s a b ha ha' hb hb' h => putByte_sp B sb vR vM rom s a b ha ha' hb hb' w h
set_option maxRecDepth 100000 in
theorem reachOf_any (x y : Value) (a1 a2 : Option Addr) (n1 n2 k1 k2 : Nat) (hx : x = .slice a1 n1 k1) (hy : y = .slice a2 n2 k2) (w : World) : Calls Tryd.prog 12 #[.agg #[x, y]] w fun e w' => e = .returned (.agg #[rdV w.heap.size, wrV w.heap.size]) ∧ w'.heap[w.heap.size]? = some (.cells #[x, y] 24 (0, 0)) ∧ Below w.heap.size w w' := by
  subst hx hy
  go_enter Tryd.func12, Tryd.ntmps12
  go_wp2
  refine bodyPost_ret (v := .agg #[rdV w.heap.size, wrV w.heap.size]) (by simp [results, Tryd.results12, go_sem]) rfl ⟨rfl, ?_, stA (stA (st0 w) _) _⟩
  exact (heap_alloc_old _ _ (by simp)).trans (heap_alloc_new w _)
set_option maxRecDepth 100000 in
theorem chk_any (a1 a2 : Option Addr) (n1 n2 k1 k2 : Nat) (w : World) : Calls Tryd.prog 9 #[.agg #[.slice a1 n1 k1, .slice a2 n2 k2]] w fun e w' => e = .returned (.int .i64 (if 1024 < n1 ∨ 256 < n2 then 2 else 0)) ∧ Below w.heap.size w w' := by
  by_cases h1 : 1024 < n1
  · have h1' : (1024 : Int) < n1 := by omega
    rw [if_pos (Or.inl h1)]
    go_enter Tryd.func9, Tryd.ntmps9
    go_wp2
    go_ret
    exact ⟨rfl, stA (st0 w) _⟩
  · have h1' : ¬ (1024 : Int) < n1 := by omega
    by_cases h2 : 256 < n2
    · have h2' : (256 : Int) < n2 := by omega
      rw [if_pos (Or.inr h2)]
      go_enter Tryd.func9, Tryd.ntmps9
      go_wp2
      go_ret
      exact ⟨rfl, stA (st0 w) _⟩
    · have h2' : ¬ (256 : Int) < n2 := by omega
      rw [if_neg (fun h => h.elim h1 h2)]
      go_enter Tryd.func9, Tryd.ntmps9
      go_wp2
      go_ret
      exact ⟨rfl, stA (st0 w) _⟩
/-- A copy of a space, in memory of its own. -/
def Cop (B : Nat) (rom ram : List UInt8) (w' : World) (vR vM : Value) : Prop := w'.ownsRow B 5 1 vR rom.length (bcs rom) ∧ w'.ownsRow B 5 1 vM ram.length (bcs ram) ∧ ∀ k, vM.ownBlock = some k → vR.ownBlock ≠ some k
theorem own_mono {w : World} {b b' : Nat} {v : Value} {n : Nat} {xs : List Value} (h : w.ownsRow b 5 1 v n xs) (hb : b' ≤ b) : w.ownsRow b' 5 1 v n xs := by
  refine ⟨h.1, ?_⟩
  rcases h.2 with h2 | ⟨g, cap, cur, rfl, hg, r⟩
  · exact Or.inl h2
  · exact Or.inr ⟨g, cap, cur, rfl, Nat.le_trans hb hg, r⟩
theorem own_kept {w w' : World} {b : Nat} {v : Value} {n : Nat} {xs : List Value} (h : w.ownsRow b 5 1 v n xs) (hb : Below w.heap.size w w') : w'.ownsRow b 5 1 v n xs := own_of_block h (fun k hk => hb.block k (h.lt k hk).2)
theorem cop_ab {B b1 : Nat} {rom ram : List UInt8} {w1 w2 : World} {vR vM : Value} (h1 : w1.ownsRow b1 5 1 vR rom.length (bcs rom)) (h2 : w2.ownsRow w1.heap.size 5 1 vM ram.length (bcs ram)) (hb : Below w1.heap.size w1 w2) (hB : B ≤ b1) (hB1 : b1 ≤ w1.heap.size) : Cop B rom ram w2 vR vM :=
  ⟨own_mono (own_kept h1 hb) hB, own_mono h2 (Nat.le_trans hB hB1), fun k hk hk' => by have a := (h1.lt k hk').2; have b := (h2.lt k hk).1; omega⟩
theorem cop_ba {B b1 : Nat} {rom ram : List UInt8} {w1 w2 : World} {vR vM : Value} (h1 : w1.ownsRow b1 5 1 vM ram.length (bcs ram)) (h2 : w2.ownsRow w1.heap.size 5 1 vR rom.length (bcs rom)) (hb : Below w1.heap.size w1 w2) (hB : B ≤ b1) (hB1 : b1 ≤ w1.heap.size) : Cop B rom ram w2 vR vM :=
  ⟨own_mono h2 (Nat.le_trans hB hB1), own_mono (own_kept h1 hb) hB, fun k hk hk' => by have a := (h1.lt k hk).2; have b := (h2.lt k hk').1; omega⟩
end Go.Proofs.YthfngejmihdafaaDoor
