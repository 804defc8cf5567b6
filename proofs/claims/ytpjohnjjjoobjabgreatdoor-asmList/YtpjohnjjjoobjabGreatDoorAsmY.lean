/-
  What the reference's OrderText answers, of any right order; nothing old is written.
-/
import Derived.Test.YtpjohnjjjoobjabGreatDoorAsmX
import Derived.Test.YtpjohnjjjoobjabGreatDoorRefCA
import Derived.Test.YtpjohnjjjoobjabGreatDoorAsmL
namespace Go.Proofs.YtpjohnjjjoobjabGreatDoor
open Go.ChangeShapes Go.WideShapes Go.ChangeAt Go.RowKit
set_option linter.unusedVariables false

/-- What the reference's walks ask of memory, beside the program's. -/
structure RF (w : World) : Prop where
  af : AF w
  facts : Facts w
theorem RF.kept {w w' : World} (h : RF w) (hb : Below w.heap.size w w') : RF w' := ⟨h.af.kept hb, h.facts.kept hb⟩
/-- Block g is a kind of orders. -/
def kindAt (w : World) (g k : Nat) : Prop := w.heap[g]? = some (.cells #[.string (K.name k), .string (K.has k), .int .i64 (K.cyc k)] 51 (0, 0))
theorem name_mk2 (k : Nat) : K.name k = mk (K.row k).1 := rfl
set_option maxRecDepth 100000 in
set_option maxHeartbeats 1600000 in
theorem orderText_any (k : Nat) (hk : k < 32) (h30 : k ≠ 30) (o : S.Ord) (hok : O.okB k o.d o.s o.n o.w = true) (w : World) (hF : RF w) :
    Calls Tryz.prog 34 #[.agg #[.int .i64 k, .int .i64 o.d, .int .i64 o.s, .int .i64 o.n, .int .i64 o.w]] w fun e w' => e = .returned (.string (mk (S.orderText k o))) ∧ Below w.heap.size w w' := by
  have HF := hid hF.facts
  have HA := hid hF.af
  have HO := hid hok
  have hki : (0 : Int) ≤ k := by omega
  have hki2 : (k : Int) < 32 := by omega
  have hit : ∀ (w : World) (s : ByteArray) (i : Nat), w.iter s i = w.alloc (.stringIter s i) := fun _ _ _ => rfl
  have h4 := parts_le k
  have hhl := has_len k hk
  clear hF hok
  go_enter Tryz.func34, Tryz.ntmps34
  go_upto_region 1 with fail
  go_cut [3] (fun p wx => ∃ b, p = .pointer (some ⟨b, 0, none⟩) ∧ refAt wx b w.heap.size k o.d o.s o.n o.w ∧ Below w.heap.size w wx)
  case first =>
    have ad : ∀ (W : World) (o : Obj), W.drew.alloc o = (W.alloc o).drew := fun _ _ => rfl
    have sd : ∀ (W : World) (x : Addr) (v : Value), W.drew.setCell x v = (W.setCell x v).drew := fun _ _ _ => rfl
    go_region_with (go_at_call 23; refine (kinds_of _ (by repeat first | exact HF.out | apply facts_drew | apply facts_alloc)).mono ?_; rintro e w1 ⟨g, cap, rfl, htb, hg1, hg2, hb1⟩; obtain ⟨c0, c1, c2⟩ := htb k hk; clear htb; obtain ⟨hcX, hfX⟩ := bcell hb1; obtain ⟨q0, hz1, hB⟩ := boxKept (w := w) (k := k) (d := o.d) (s := o.s) (n := o.n) (ww := o.w) (t := 47) (by repeat first | with_reducible exact st0 _ | apply Below.drew | apply stA) hb1)
    all_goals (go_wp2_with fail; go_meet)
    all_goals first
      | exact meetA hB
      | (refine meetB hB (a := .string ⟨#[]⟩) (b := .string ⟨#[]⟩) (c := .int .i64 0) ?_ ?_ ?_
         · (rw [hcX _ _ (by simp)]; exact cell_new (w.alloc _) _ _ _ (by simp))
         · (rw [hcX _ _ (by simp)]; exact cell_new (w.alloc _) _ _ _ (by simp))
         · (rw [hcX _ _ (by simp)]; exact cell_new (w.alloc _) _ _ _ (by simp)))
  case rest =>
  obtain ⟨kb, rfl, hR, hBw⟩ := hcut
  obtain ⟨k0, k1, k2, o0, o1, o2, o3, o4, blt, clt⟩ := hR
  have HAc := hid (HA.out.kept hBw)
  go_wp2
  go_loopw [4] (fun r wr => ∃ j : Nat, j ≤ (S.parts k).length ∧ r = .string (mk (preT k o j)) ∧ wr.heap[wc.heap.size]? = some (.stringIter (K.has k) j) ∧ Below wc.heap.size wc wr) (fun _ wr => (S.parts k).length - (match wr.heap[wc.heap.size]? with | some (.stringIter _ i) => i | _ => 0))
  case atStart => exact ⟨0, by omega, by unfold preT; simp [name_mk2], heap_alloc_new wc _, stA (st0 _) _⟩
  case round =>
    obtain ⟨j, hj, rfl, hitr, hbl⟩ := hrel
    by_cases hlt : j < (S.parts k).length
    · obtain ⟨p, hpj⟩ : ∃ p, (S.parts k)[j]? = some p := ⟨_, List.getElem?_eq_getElem hlt⟩
      have hp4 := parts_lt hpj
      have hc : p = 0 ∨ p = 1 ∨ p = 2 ∨ p = 3 := by omega
      have hasc : (S.sgn p).toNat < 128 := by rcases hc with rfl | rfl | rfl | rfl <;> decide
      obtain ⟨hi, hch⟩ := has_at k hk j p hpj
      obtain ⟨w2, hnx, hit2, hg2⟩ := next_at wr wc.heap.size (K.has k) j (S.sgn p) hitr hi hch hasc
      have hbl2 : Below wc.heap.size wc w2 := hbl.grown hg2 hbl.size (fun q hq => by cases hq; exact Nat.le_refl _)
      have hz2 := hbl2.size
      have hcw : w.heap.size < w2.heap.size := Nat.lt_of_lt_of_le clt hz2
      have p1 : w2.cell? ⟨w.heap.size, 1, none⟩ = some (.int .i64 o.d) := (hbl2.cell clt).trans o1
      have p2 : w2.cell? ⟨w.heap.size, 2, none⟩ = some (.int .i64 o.s) := (hbl2.cell clt).trans o2
      have p3 : w2.cell? ⟨w.heap.size, 3, none⟩ = some (.int .i64 o.n) := (hbl2.cell clt).trans o3
      have p4 : w2.cell? ⟨w.heap.size, 4, none⟩ = some (.int .i64 o.w) := (hbl2.cell clt).trans o4
      have hps : (mk (preT k o j)).size ≤ 60 := preT_len hk HO.out j
      have hgb := get_bd HO.out p
      have hil : (mk (Lib.itoa (o.get p))).size ≤ 7 := itoa_len (o.get p) (by omega)
      have HPJ := hid hpj
      have HI2 := hid hit2
      have HI1 := hid hitr
      have HA2 := hid (af_alloc (HAc.out.kept hbl2) (.cells #[.string ⟨#[32]⟩, .string ⟨#[44, 32]⟩] 9))
      clear hpj hit2 hitr hch hasc
      by_cases hj0 : j = 0
      · subst hj0
        have hmin : min (0 : Int) 1 = 0 := by decide
        rcases hc with rfl | rfl | rfl | rfl
        · have hgt : o.get 0 = o.d := rfl
          rw [hgt] at hil hgb
          have hsg : ∀ ty, (Instr.next (.pointer (some ⟨wc.heap.size, 0, none⟩)) true ty).run Tryz.prog wr = .ok (.tuple #[.bool true, .int .i64 0, .int .i32 100]) w2 := hnx
          clear hnx
          have q1 : ¬ 9223372036854775807 < (mk (preT k o 0)).size + 1 := by omega
          have q2 : ¬ 9223372036854775807 < 1 + (mk (Lib.itoa o.d)).size := by omega
          have q3 : ¬ 9223372036854775807 < (mk (preT k o 0)).size + 1 + (1 + (mk (Lib.itoa o.d)).size) := by omega
          go_wp2_with (go_at_call 35; refine (itoa_any o.d (by omega) (by omega) _ HA2.out).mono ?_; rintro e w3 ⟨rfl, hb3⟩)
          have hlt3 := (Array.getElem?_eq_some_iff.1 HI2.out).1
          have hh3 : w3.heap[wc.heap.size]? = some (.stringIter (K.has k) (0 + 1)) := (hb3.block _ (by simp; omega)).trans ((heap_alloc_old _ _ hlt3).trans HI2.out)
          refine ⟨⟨0 + 1, by omega, ?_, hh3, stp (stA hbl2 _) hb3⟩, by rw [hh3, HI1.out]; simp only; omega⟩
          rw [preT_0 HPJ.out, ← mk_append, ← mk_append, partText_r o 0 (by omega)]
          rfl
        · have hgt : o.get 1 = o.s := rfl
          rw [hgt] at hil hgb
          have hsg : ∀ ty, (Instr.next (.pointer (some ⟨wc.heap.size, 0, none⟩)) true ty).run Tryz.prog wr = .ok (.tuple #[.bool true, .int .i64 0, .int .i32 115]) w2 := hnx
          clear hnx
          have q1 : ¬ 9223372036854775807 < (mk (preT k o 0)).size + 1 := by omega
          have q2 : ¬ 9223372036854775807 < 1 + (mk (Lib.itoa o.s)).size := by omega
          have q3 : ¬ 9223372036854775807 < (mk (preT k o 0)).size + 1 + (1 + (mk (Lib.itoa o.s)).size) := by omega
          go_wp2_with (go_at_call 35; refine (itoa_any o.s (by omega) (by omega) _ HA2.out).mono ?_; rintro e w3 ⟨rfl, hb3⟩)
          have hlt3 := (Array.getElem?_eq_some_iff.1 HI2.out).1
          have hh3 : w3.heap[wc.heap.size]? = some (.stringIter (K.has k) (0 + 1)) := (hb3.block _ (by simp; omega)).trans ((heap_alloc_old _ _ hlt3).trans HI2.out)
          refine ⟨⟨0 + 1, by omega, ?_, hh3, stp (stA hbl2 _) hb3⟩, by rw [hh3, HI1.out]; simp only; omega⟩
          rw [preT_0 HPJ.out, ← mk_append, ← mk_append, partText_r o 1 (by omega)]
          rfl
        · have hgt : o.get 2 = o.w := rfl
          rw [hgt] at hil hgb
          have hsg : ∀ ty, (Instr.next (.pointer (some ⟨wc.heap.size, 0, none⟩)) true ty).run Tryz.prog wr = .ok (.tuple #[.bool true, .int .i64 0, .int .i32 119]) w2 := hnx
          clear hnx
          have q1 : ¬ 9223372036854775807 < (mk (preT k o 0)).size + 1 := by omega
          have q3 : ¬ 9223372036854775807 < (mk (preT k o 0)).size + 1 + (mk (Lib.itoa o.w)).size := by omega
          go_wp2_with (go_at_call 35; refine (itoa_any o.w (by omega) (by omega) _ HA2.out).mono ?_; rintro e w3 ⟨rfl, hb3⟩)
          have hlt3 := (Array.getElem?_eq_some_iff.1 HI2.out).1
          have hh3 : w3.heap[wc.heap.size]? = some (.stringIter (K.has k) (0 + 1)) := (hb3.block _ (by simp; omega)).trans ((heap_alloc_old _ _ hlt3).trans HI2.out)
          refine ⟨⟨0 + 1, by omega, ?_, hh3, stp (stA hbl2 _) hb3⟩, by rw [hh3, HI1.out]; simp only; omega⟩
          rw [preT_0 HPJ.out, ← mk_append, ← mk_append, partText_n o 2 (by omega)]
          rfl
        · have hgt : o.get 3 = o.n := rfl
          rw [hgt] at hil hgb
          have hsg : ∀ ty, (Instr.next (.pointer (some ⟨wc.heap.size, 0, none⟩)) true ty).run Tryz.prog wr = .ok (.tuple #[.bool true, .int .i64 0, .int .i32 110]) w2 := hnx
          clear hnx
          have q1 : ¬ 9223372036854775807 < (mk (preT k o 0)).size + 1 := by omega
          have q3 : ¬ 9223372036854775807 < (mk (preT k o 0)).size + 1 + (mk (Lib.itoa o.n)).size := by omega
          go_wp2_with (go_at_call 35; refine (itoa_any o.n (by omega) (by omega) _ HA2.out).mono ?_; rintro e w3 ⟨rfl, hb3⟩)
          have hlt3 := (Array.getElem?_eq_some_iff.1 HI2.out).1
          have hh3 : w3.heap[wc.heap.size]? = some (.stringIter (K.has k) (0 + 1)) := (hb3.block _ (by simp; omega)).trans ((heap_alloc_old _ _ hlt3).trans HI2.out)
          refine ⟨⟨0 + 1, by omega, ?_, hh3, stp (stA hbl2 _) hb3⟩, by rw [hh3, HI1.out]; simp only; omega⟩
          rw [preT_0 HPJ.out, ← mk_append, ← mk_append, partText_n o 3 (by omega)]
          rfl
      · have hmin : min (j : Int) 1 = 1 := by omega
        have hj1 : (1 : Int) ≤ j := by omega
        rcases hc with rfl | rfl | rfl | rfl
        · have hgt : o.get 0 = o.d := rfl
          rw [hgt] at hil hgb
          have hsg : ∀ ty, (Instr.next (.pointer (some ⟨wc.heap.size, 0, none⟩)) true ty).run Tryz.prog wr = .ok (.tuple #[.bool true, .int .i64 j, .int .i32 100]) w2 := hnx
          clear hnx
          have q1 : ¬ 9223372036854775807 < (mk (preT k o j)).size + 2 := by omega
          have q2 : ¬ 9223372036854775807 < 1 + (mk (Lib.itoa o.d)).size := by omega
          have q3 : ¬ 9223372036854775807 < (mk (preT k o j)).size + 2 + (1 + (mk (Lib.itoa o.d)).size) := by omega
          go_wp2_with (go_at_call 35; refine (itoa_any o.d (by omega) (by omega) _ HA2.out).mono ?_; rintro e w3 ⟨rfl, hb3⟩)
          have hlt3 := (Array.getElem?_eq_some_iff.1 HI2.out).1
          have hh3 : w3.heap[wc.heap.size]? = some (.stringIter (K.has k) (j + 1)) := (hb3.block _ (by simp; omega)).trans ((heap_alloc_old _ _ hlt3).trans HI2.out)
          refine ⟨⟨j + 1, by omega, ?_, hh3, stp (stA hbl2 _) hb3⟩, by rw [hh3, HI1.out]; simp only; omega⟩
          rw [preT_step (by omega) HPJ.out, ← mk_append, ← mk_append, partText_r o 0 (by omega)]
          rfl
        · have hgt : o.get 1 = o.s := rfl
          rw [hgt] at hil hgb
          have hsg : ∀ ty, (Instr.next (.pointer (some ⟨wc.heap.size, 0, none⟩)) true ty).run Tryz.prog wr = .ok (.tuple #[.bool true, .int .i64 j, .int .i32 115]) w2 := hnx
          clear hnx
          have q1 : ¬ 9223372036854775807 < (mk (preT k o j)).size + 2 := by omega
          have q2 : ¬ 9223372036854775807 < 1 + (mk (Lib.itoa o.s)).size := by omega
          have q3 : ¬ 9223372036854775807 < (mk (preT k o j)).size + 2 + (1 + (mk (Lib.itoa o.s)).size) := by omega
          go_wp2_with (go_at_call 35; refine (itoa_any o.s (by omega) (by omega) _ HA2.out).mono ?_; rintro e w3 ⟨rfl, hb3⟩)
          have hlt3 := (Array.getElem?_eq_some_iff.1 HI2.out).1
          have hh3 : w3.heap[wc.heap.size]? = some (.stringIter (K.has k) (j + 1)) := (hb3.block _ (by simp; omega)).trans ((heap_alloc_old _ _ hlt3).trans HI2.out)
          refine ⟨⟨j + 1, by omega, ?_, hh3, stp (stA hbl2 _) hb3⟩, by rw [hh3, HI1.out]; simp only; omega⟩
          rw [preT_step (by omega) HPJ.out, ← mk_append, ← mk_append, partText_r o 1 (by omega)]
          rfl
        · have hgt : o.get 2 = o.w := rfl
          rw [hgt] at hil hgb
          have hsg : ∀ ty, (Instr.next (.pointer (some ⟨wc.heap.size, 0, none⟩)) true ty).run Tryz.prog wr = .ok (.tuple #[.bool true, .int .i64 j, .int .i32 119]) w2 := hnx
          clear hnx
          have q1 : ¬ 9223372036854775807 < (mk (preT k o j)).size + 2 := by omega
          have q3 : ¬ 9223372036854775807 < (mk (preT k o j)).size + 2 + (mk (Lib.itoa o.w)).size := by omega
          go_wp2_with (go_at_call 35; refine (itoa_any o.w (by omega) (by omega) _ HA2.out).mono ?_; rintro e w3 ⟨rfl, hb3⟩)
          have hlt3 := (Array.getElem?_eq_some_iff.1 HI2.out).1
          have hh3 : w3.heap[wc.heap.size]? = some (.stringIter (K.has k) (j + 1)) := (hb3.block _ (by simp; omega)).trans ((heap_alloc_old _ _ hlt3).trans HI2.out)
          refine ⟨⟨j + 1, by omega, ?_, hh3, stp (stA hbl2 _) hb3⟩, by rw [hh3, HI1.out]; simp only; omega⟩
          rw [preT_step (by omega) HPJ.out, ← mk_append, ← mk_append, partText_n o 2 (by omega)]
          rfl
        · have hgt : o.get 3 = o.n := rfl
          rw [hgt] at hil hgb
          have hsg : ∀ ty, (Instr.next (.pointer (some ⟨wc.heap.size, 0, none⟩)) true ty).run Tryz.prog wr = .ok (.tuple #[.bool true, .int .i64 j, .int .i32 110]) w2 := hnx
          clear hnx
          have q1 : ¬ 9223372036854775807 < (mk (preT k o j)).size + 2 := by omega
          have q3 : ¬ 9223372036854775807 < (mk (preT k o j)).size + 2 + (mk (Lib.itoa o.n)).size := by omega
          go_wp2_with (go_at_call 35; refine (itoa_any o.n (by omega) (by omega) _ HA2.out).mono ?_; rintro e w3 ⟨rfl, hb3⟩)
          have hlt3 := (Array.getElem?_eq_some_iff.1 HI2.out).1
          have hh3 : w3.heap[wc.heap.size]? = some (.stringIter (K.has k) (j + 1)) := (hb3.block _ (by simp; omega)).trans ((heap_alloc_old _ _ hlt3).trans HI2.out)
          refine ⟨⟨j + 1, by omega, ?_, hh3, stp (stA hbl2 _) hb3⟩, by rw [hh3, HI1.out]; simp only; omega⟩
          rw [preT_step (by omega) HPJ.out, ← mk_append, ← mk_append, partText_n o 3 (by omega)]
          rfl
    · have hjn : j = (S.parts k).length := by omega
      subst hjn
      have hne := next_at_end wr wc.heap.size (K.has k) _ hitr (by omega)
      go_wp2
      go_ret
      exact ⟨by rw [← preT_end]; rfl, stp hBw hbl⟩
end Go.Proofs.YtpjohnjjjoobjabGreatDoor
