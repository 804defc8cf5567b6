/-
  The equality of lines; slices.Equal over numbers; what PictureLine holds.
-/
import Derived.Test.YtcdemkafbphdbaaPicS
import Derived.ChangeKeysEq
namespace Go.Proofs.Ytcdemkafbphdbaa
open Go.ChangeShapes Go.WideShapes Go.ChangeAt Go.RowKit
set_option linter.unusedVariables false

set_option maxRecDepth 100000 in
set_option maxHeartbeats 800000 in
theorem eq_ar16 (a0 a1 a2 a3 a4 a5 a6 a7 a8 a9 a10 a11 a12 a13 a14 a15 : Int) (w : World) : (binOp .eql 23 (.agg #[.int .u8 a0, .int .u8 a1, .int .u8 a2, .int .u8 a3, .int .u8 a4, .int .u8 a5, .int .u8 a6, .int .u8 a7, .int .u8 a8, .int .u8 a9, .int .u8 a10, .int .u8 a11, .int .u8 a12, .int .u8 a13, .int .u8 a14, .int .u8 a15]) (.agg #[.int .u8 a0, .int .u8 a1, .int .u8 a2, .int .u8 a3, .int .u8 a4, .int .u8 a5, .int .u8 a6, .int .u8 a7, .int .u8 a8, .int .u8 a9, .int .u8 a10, .int .u8 a11, .int .u8 a12, .int .u8 a13, .int .u8 a14, .int .u8 a15])).run Try.prog w = .ok (.bool true) w := by
  have u3 := Try.underlying5
  have x3 := Try.isAgg5
  have z3 := Try.sizeOf5
  have hU : Try.prog.cellsOf 5 = 1 := by kernel_rfl
  have hs : (Try.prog.info? 5).isSome = true := by kernel_rfl
  obtain ⟨i, hi⟩ := Option.isSome_iff_exists.1 hs
  rw [run_eql_struct, show (10000 : Nat) = 9999 + 1 from rfl, run_equalIn_array w 9999 _ _ Try.underlying23 hi, hU]
  simp only [List.range, List.range.loop, Op.eqItems]
  go_simp
theorem eq16 (f : Nat → Nat) (w : World) : (binOp .eql 23 (.agg (row16 f).toArray) (.agg (row16 f).toArray)).run Try.prog w = .ok (.bool true) w := eq_ar16 (f 0) (f 1) (f 2) (f 3) (f 4) (f 5) (f 6) (f 7) (f 8) (f 9) (f 10) (f 11) (f 12) (f 13) (f 14) (f 15) w
theorem eqz16 (w : World) : (binOp .eql 23 (.agg (row16 fun _ => 0).toArray) (.agg #[.int .u8 0, .int .u8 0, .int .u8 0, .int .u8 0, .int .u8 0, .int .u8 0, .int .u8 0, .int .u8 0, .int .u8 0, .int .u8 0, .int .u8 0, .int .u8 0, .int .u8 0, .int .u8 0, .int .u8 0, .int .u8 0])).run Try.prog w = .ok (.bool true) w := eq_ar16 0 0 0 0 0 0 0 0 0 0 0 0 0 0 0 0 w
theorem neq16 (f : Nat → Nat) (w : World) : (binOp .neq 23 (.agg (row16 f).toArray) (.agg (row16 f).toArray)).run Try.prog w = .ok (.bool false) w := by
  have h := eq16 f w
  rw [run_eql_struct] at h
  rw [run_neq_struct]
  revert h
  generalize Sem.run Try.prog (Op.equalIn 10000 23 _ _) w = r
  intro h
  cases r with
  | ok b w' =>
    have e : Result.ok (Value.bool b) w' = .ok (.bool true) w := h
    injection e with e1 e2
    injection e1 with e3
    subst e3 e2
    rfl
  | _ => cases h
/-- The same numbers. -/
theorem equalInt (v v' : Value) (l : List Nat) (w : World) {B : Nat} (h : w.ownsRow B 3 1 v l.length (ics l)) (a' : Option Addr) (c' : Nat) (he : v' = .slice a' l.length c') (h' : l ≠ [] → ∃ g', a' = some ⟨g', 0, none⟩ ∧ ∀ j k, l[j]? = some k → w.cell? ⟨g', j, none⟩ = some (.int .i64 (k : Nat))) (hl : l.length ≤ 100) :
    Calls Try.prog 12 #[v, v'] w fun e w' => e = .returned (.bool true) ∧ ∃ q, w' = w.drewN q := by
  subst he
  by_cases h0 : l = []
  · subst h0
    obtain ⟨a, c, rfl⟩ := own_len h
    clear h h'
    go_enter Try.func12, Try.ntmps12
    go_wp2
    go_loopw [13] (fun i wr => i = .int .i64 0 ∧ wr = w) (fun _ _ => 0)
    case atStart => exact ⟨rfl, rfl⟩
    case round =>
      obtain ⟨rfl, rfl⟩ := hrel
      go_wp2
      go_ret
      exact ⟨rfl, 0, rfl⟩
  · obtain ⟨g, c, rfl, _, hL⟩ := Lst.of h h0
    obtain ⟨g', rfl, hL'⟩ := h' h0
    have H := hid hL.c
    have H' := hid hL'
    clear h h' hL hL'
    go_enter Try.func12, Try.ntmps12
    go_wp2
    go_loopw [13] (fun i wr => ∃ j q : Nat, j ≤ l.length ∧ i = .int .i64 j ∧ wr = w.drewN q) (fun i _ => l.length - (intOf i).toNat)
    case atStart => exact ⟨0, 0, by omega, rfl, rfl⟩
    case round =>
      obtain ⟨j, q, hj, rfl, rfl⟩ := hrel
      by_cases hlt : j < l.length
      · obtain ⟨k, hk⟩ : ∃ k, l[j]? = some k := ⟨l[j], List.getElem?_eq_getElem hlt⟩
        have c1 := H.out j k hk
        have c2 := H'.out j k hk
        have hlt' : (j : Int) < l.length := by omega
        clear hk
        go_wp2
        go_quiet (fail)
        go_wp2
        go_roundw
        case rel => exact ⟨j + 1, _, by omega, by go_num, rfl⟩
        case measure => simp [intOf]; omega
      · have hn : ¬ (j : Int) < l.length := by omega
        go_wp2
        go_ret
        exact ⟨rfl, q, rfl⟩
/-- A guarded load of a whole line. -/
theorem ldG16 {ops : Array Oper} {rest : List Oper} {op : Oper} {a : Act} {w : World} {Q : Exit → Act → World → Prop} (hw : Region.wanted op (yielded ops a.tmps) = true) (x : Operand) (ho : op.op = .load 23 x)
    (b : Nat) (f : Nat → Nat) (hx : a.eval x = .pointer (some ⟨b, 0, none⟩)) (hb : Bx w b (row16 f))
    (h : wpList Try.prog ops Q rest (a.put op.dst (.agg (row16 f).toArray)) w) : wpList Try.prog ops Q (op :: rest) a w :=
  wpList_step fun K hK => by rw [if_pos hw]; exact wp_load_mid 23 x ho b 0 hx (row16 f) _ hb.c Try.underlying23 rfl (by rw [row16_len]; exact info16) (hK _ _ h)
/-- A line that lies in the midst of others is loaded. -/
theorem ld16o {ops : Array Oper} {rest : List Oper} {op : Oper} {a : Act} {w : World} {Q : Exit → Act → World → Prop} (hgd : op.guard = none) (x : Operand) (ho : op.op = .load 23 x) (b o : Nat) (f : Nat → Nat) (hx : a.eval x = .pointer (some ⟨b, o, none⟩)) (hb : w.rangeAt b o (row16 f))
    (h : wpList Try.prog ops Q rest (a.put op.dst (.agg (row16 f).toArray)) w) : wpList Try.prog ops Q (op :: rest) a w :=
  wpList_load_mid hgd 23 x ho b o hx (row16 f) _ hb Try.underlying23 rfl (by rw [row16_len]; exact info16) h
theorem la16 {W : World} {b : Nat} {f : Nat → Nat} (h : Bx W b (row16 f)) : (Instr.loadAt 23 (.pointer (some ⟨b, 0, none⟩))).run Try.prog W = .ok (.agg (row16 f).toArray) W :=
  run_loadAt_mid W b 0 23 _ _ h.c Try.underlying23 rfl (by rw [row16_len]; exact info16)
theorem ca16 {W : World} {b : Nat} {f : Nat → Nat} (h : Bx W b (row16 f)) : W.cell? ⟨b, 0, none⟩ = some (.int .u8 (f 0)) ∧ W.cell? ⟨b, 1, none⟩ = some (.int .u8 (f 1)) ∧ W.cell? ⟨b, 2, none⟩ = some (.int .u8 (f 2)) ∧ W.cell? ⟨b, 3, none⟩ = some (.int .u8 (f 3)) ∧ W.cell? ⟨b, 4, none⟩ = some (.int .u8 (f 4)) ∧ W.cell? ⟨b, 5, none⟩ = some (.int .u8 (f 5)) ∧ W.cell? ⟨b, 6, none⟩ = some (.int .u8 (f 6)) ∧ W.cell? ⟨b, 7, none⟩ = some (.int .u8 (f 7)) ∧ W.cell? ⟨b, 8, none⟩ = some (.int .u8 (f 8)) ∧ W.cell? ⟨b, 9, none⟩ = some (.int .u8 (f 9)) ∧ W.cell? ⟨b, 10, none⟩ = some (.int .u8 (f 10)) ∧ W.cell? ⟨b, 11, none⟩ = some (.int .u8 (f 11)) ∧ W.cell? ⟨b, 12, none⟩ = some (.int .u8 (f 12)) ∧ W.cell? ⟨b, 13, none⟩ = some (.int .u8 (f 13)) ∧ W.cell? ⟨b, 14, none⟩ = some (.int .u8 (f 14)) ∧ W.cell? ⟨b, 15, none⟩ = some (.int .u8 (f 15)) :=
  ⟨h.at 0 _ (row16_at f (by decide)), h.at 1 _ (row16_at f (by decide)), h.at 2 _ (row16_at f (by decide)), h.at 3 _ (row16_at f (by decide)), h.at 4 _ (row16_at f (by decide)), h.at 5 _ (row16_at f (by decide)), h.at 6 _ (row16_at f (by decide)), h.at 7 _ (row16_at f (by decide)), h.at 8 _ (row16_at f (by decide)), h.at 9 _ (row16_at f (by decide)), h.at 10 _ (row16_at f (by decide)), h.at 11 _ (row16_at f (by decide)), h.at 12 _ (row16_at f (by decide)), h.at 13 _ (row16_at f (by decide)), h.at 14 _ (row16_at f (by decide)), h.at 15 _ (row16_at f (by decide))⟩
theorem neqX16 (f : Nat → Nat) (w : World) : (binOp .neq 23 (.agg #[.int .u8 (f 0), .int .u8 (f 1), .int .u8 (f 2), .int .u8 (f 3), .int .u8 (f 4), .int .u8 (f 5), .int .u8 (f 6), .int .u8 (f 7), .int .u8 (f 8), .int .u8 (f 9), .int .u8 (f 10), .int .u8 (f 11), .int .u8 (f 12), .int .u8 (f 13), .int .u8 (f 14), .int .u8 (f 15)]) (.agg (row16 f).toArray)).run Try.prog w = .ok (.bool false) w := neq16 f w
theorem eqX16 (f : Nat → Nat) (w : World) : (binOp .eql 23 (.agg #[.int .u8 (f 0), .int .u8 (f 1), .int .u8 (f 2), .int .u8 (f 3), .int .u8 (f 4), .int .u8 (f 5), .int .u8 (f 6), .int .u8 (f 7), .int .u8 (f 8), .int .u8 (f 9), .int .u8 (f 10), .int .u8 (f 11), .int .u8 (f 12), .int .u8 (f 13), .int .u8 (f 14), .int .u8 (f 15)]) (.agg (row16 f).toArray)).run Try.prog w = .ok (.bool true) w := eq16 f w
end Go.Proofs.Ytcdemkafbphdbaa
