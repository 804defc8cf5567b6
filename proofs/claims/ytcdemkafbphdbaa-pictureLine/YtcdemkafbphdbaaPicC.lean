/-
  Package picture: which sprites are drawn on a line.
-/
import Derived.Test.YtcdemkafbphdbaaPicB
namespace Go.Proofs.Ytcdemkafbphdbaa
open Go.ChangeShapes Go.WideShapes Go.ChangeAt Go.RowKit
set_option linter.unusedVariables false

theorem info_int : (Try.prog.info? 3).map (fun i => (i.zero, i.size, i.bytes)) = some (some (.int .i64 0), 1, 8) := by kernel_rfl
/-- Numbers as cells. -/
def ics (l : List Nat) : List Value := l.map (fun c : Nat => Value.int .i64 (c : Int))
theorem ics_append (a b : List Nat) : ics a ++ ics b = ics (a ++ b) := by simp [ics]
/-- A slice of these numbers, whose block is new. -/
theorem app1i {ops : Array Oper} {rest : List Oper} {o : Oper} {a : Act} {w : World} {Q : Exit → Act → World → Prop} (hgd : o.guard = none) (s x : Operand) (ho : o.op = .call { callee := .builtin .append, args := #[s, x], argTypes := #[27, 27] })
    (B : Nat) (v : Value) (xs : List Nat) (hs : a.eval s = v) (hown : w.ownsRow B 3 1 v xs.length (ics xs)) (g c : Nat) (y : Nat) (z : Int) (hx : a.eval x = .slice (some ⟨g, 0, none⟩) 1 c) (hc : w.cell? ⟨g, 0, none⟩ = some (.int .i64 z)) (hz : z = y) (hl : xs.length ≤ 50000) (hB : B ≤ w.heap.size)
    (h : ∀ v' w', w'.ownsRow B 3 1 v' (xs ++ [y]).length (ics (xs ++ [y])) → Below B w w' → wpList Try.prog ops Q rest (a.put o.dst v') w') : wpList Try.prog ops Q (o :: rest) a w := by
  obtain ⟨i0, hi0, hz0, hz1, hz2⟩ := info_parts info_int
  subst hz
  refine wpList_append_own _ hgd s x _ ho B 3 i0 _ 1 8 Try.underlying27 hi0 hz0 hz1 hz2 rfl (by omega) v xs.length (ics xs) hs hown ⟨g, 0, none⟩ 1 c [.int .i64 y] hx rfl (fun j u hj => ?_) (fun u hu => ?_) (by unfold maxLen; omega) (by omega) hB ?_
  · match j, hj with
    | 0, hj =>
      simp only [List.getElem?_cons_zero, Option.some.injEq] at hj
      rw [← hj, addr_add]; exact hc
  · simp only [List.mem_singleton] at hu; rw [hu]; rfl
  · intro v' w' hown' hgrow _
    refine h _ w' ?_ ((Below.refl B w).grown hgrow hB (fun k hk => (hown.lt k hk).1))
    rw [List.length_append, ← ics_append]; exact hown'
theorem drS_pre (m : List UInt8) (y : Nat) {j n : Nat} (h : j ≤ n) : drS m y j <+: drS m y n := by
  unfold drS
  obtain ⟨d, rfl⟩ := Nat.exists_eq_add_of_le h
  rw [List.range_add, List.filter_append]
  exact ⟨_, rfl⟩
theorem drS_two {m : List UInt8} {y j : Nat} (h : j < 8) (h2 : (drS m y j).length = 2) (ho : onS m y j = true) : (drS m y 8).take 2 = drS m y j ∧ decide (2 < (drS m y 8).length) = true := by
  have h1 := drS_pre m y (show j ≤ 8 by omega)
  have h3 := drS_pre m y (show j + 1 ≤ 8 by omega)
  have hl : (drS m y (j + 1)).length = 3 := by rw [drS_succ, if_pos ho]; simp [h2]
  refine ⟨?_, decide_eq_true ?_⟩
  · have := List.prefix_iff_eq_take.1 h1
    rw [h2] at this
    exact this.symm
  · have := h3.length_le
    omega
theorem on_int (m : List UInt8) (y k : Nat) : decide ((lnS m k : Int) ≤ (y : Int) ∧ (y : Int) < (lnS m k : Int) + 4) = onS m y k := by
  unfold onS
  rw [decide_eq_decide]
  omega
theorem ln_bd (m : List UInt8) (k : Nat) : 0 ≤ (lnS m k : Int) ∧ (lnS m k : Int) ≤ 255 := by have : lnS m k < 256 := gb_lt _ _; omega
theorem own_len {w : World} {B : Nat} {v : Value} {n : Nat} {xs : List Value} (h : w.ownsRow B 3 1 v n xs) : ∃ a c, v = .slice a n c := by
  rcases h.2 with ⟨rfl, rfl⟩ | ⟨g, cap, cur, rfl, _⟩
  · exact ⟨_, _, rfl⟩
  · exact ⟨_, _, rfl⟩
theorem own_int_kept {w w' : World} {B : Nat} {v : Value} {n : Nat} {xs : List Value} (h : w.ownsRow B 3 1 v n xs) (hb : Below w.heap.size w w') : w'.ownsRow B 3 1 v n xs := by
  refine ⟨h.1, ?_⟩
  rcases h.2 with h2 | ⟨g, cap, cur, rfl, hb', hg, r⟩
  · exact Or.inl h2
  · exact Or.inr ⟨g, cap, cur, rfl, hb', (hb.block g (Array.getElem?_eq_some_iff.1 hg).1).trans hg, r⟩
set_option maxRecDepth 100000 in
set_option maxHeartbeats 1600000 in
theorem drawn_any (m : List UInt8) (v : Value) (g o c : Nat) (y : Nat) (w : World) (h : Mm w m v g o c) (hy : y < 8) :
    Calls Try.prog 16 #[v, .int .i64 y] w fun e w' => ∃ s, e = .returned (.tuple #[s, .bool (decide (2 < (drS m y 8).length))]) ∧ w'.ownsRow w.heap.size 3 1 s ((drS m y 8).take 2).length (ics ((drS m y 8).take 2)) ∧ Below w.heap.size w w' := by
  have H := hid h
  clear h
  go_enter Try.func16, Try.ntmps16
  go_wp2
  go_loopw [4, 7] (fun s i wr => ∃ j : Nat, j ≤ 8 ∧ i = .int .i64 j ∧ (drS m y j).length ≤ 2 ∧ wr.ownsRow w.heap.size 3 1 s (drS m y j).length (ics (drS m y j)) ∧ Below w.heap.size w wr) (fun _ i _ => 8 - (intOf i).toNat)
  case atStart => exact ⟨0, Nat.zero_le _, rfl, by simp [drS], ⟨rfl, Or.inl ⟨rfl, rfl⟩⟩, st0 w⟩
  case round =>
    obtain ⟨j, hj, rfl, h2, hown, hbl⟩ := hrel
    have HO := hid hown
    have HB := hid hbl
    obtain ⟨sa, sc, rfl⟩ := own_len hown
    clear hown hbl
    by_cases h8 : j < 8
    · have h8' : (j : Int) < 8 := by omega
      cases ho : onS m y j with
      | false =>
        have HN : Hid (drS m y (j + 1) = drS m y j) := by rw [drS_succ, ho]; rfl
        have HOn := hid ho
        clear ho
        go_wp2_with (first
          | (go_at_call 22; refine (spriteOf_any m v g o c j _ (H.out.kept HB.out) h8).mono ?_; rintro e w1 ⟨rfl, hb1⟩)
          | (go_at_call 24; refine (liesOn_any _ _ _ _ _ _ _ _ (ln_bd m j)).mono ?_; rw [on_int, HOn.out]; rintro e w2 ⟨rfl, hb2⟩))
        go_round
        case rel => exact ⟨j + 1, h8, by go_num, by rw [HN.out]; exact h2, by rw [HN.out]; exact own_int_kept (own_int_kept HO.out hb1) hb2, stp (stp HB.out hb1) hb2⟩
        case measure => simp [intOf]; omega
      | true =>
        by_cases hl : (drS m y j).length = 2
        · have HR := hid (drS_two h8 hl ho)
          have hl' : (((drS m y j).length : Int) == 2) = true := by rw [hl]; rfl
          have HOn := hid ho
          clear ho hl
          go_wp2_with (first
            | (go_at_call 22; refine (spriteOf_any m v g o c j _ (H.out.kept HB.out) h8).mono ?_; rintro e w1 ⟨rfl, hb1⟩)
            | (go_at_call 24; refine (liesOn_any _ _ _ _ _ _ _ _ (ln_bd m j)).mono ?_; rw [on_int, HOn.out]; rintro e w2 ⟨rfl, hb2⟩))
          refine bodyPost_ret (v := .tuple #[.slice sa (drS m y j).length sc, .bool true]) (by simp [results, Try.results16, go_sem]) rfl ?_
          rw [HR.out.1, HR.out.2]
          exact ⟨_, rfl, own_int_kept (own_int_kept HO.out hb1) hb2, stp (stp HB.out hb1) hb2⟩
        · have HN : Hid (drS m y (j + 1) = drS m y j ++ [j]) := by rw [drS_succ, ho]; rfl
          have hl' : (((drS m y j).length : Int) == 2) = false := by simp; omega
          have HLn : Hid ((drS m y j ++ [j]).length ≤ 2) := by simp only [List.length_append, List.length_singleton]; unfold Hid; omega
          have hle : (drS m y j).length ≤ 50000 := by omega
          have HLe := hid hle
          have HOn := hid ho
          clear ho hl hle
          go_wp2_with (first
            | (go_at_call 22; refine (spriteOf_any m v g o c j _ (H.out.kept HB.out) h8).mono ?_; rintro e w1 ⟨rfl, hb1⟩)
            | (go_at_call 24; refine (liesOn_any _ _ _ _ _ _ _ _ (ln_bd m j)).mono ?_; rw [on_int, HOn.out]; rintro e w2 ⟨rfl, hb2⟩; have HO2 := hid (own_int_kept (own_int_kept HO.out hb1) hb2); have HB2 := hid (stp (stp HB.out hb1) hb2))
            | (at_builtin; refine app1i (by rfl) _ _ (by rfl) w.heap.size _ (drS m y j) (by rfl) (own_int_kept HO2.out (stA (st0 w2) _)) w2.heap.size 1 j j (by rfl) (Pl.new _ _ _ _ rfl) rfl HLe.out (Nat.le_trans HB2.out.size (by simp)) ?_; intro v' w' hown' hb'))
          go_round
          case rel => exact ⟨j + 1, h8, by go_num, by rw [HN.out]; exact HLn.out, by rw [HN.out]; exact hown', (stA HB2.out _).trans hb'⟩
          case measure => simp [intOf]; omega
    · have h9 : ¬ (j : Int) < 8 := by omega
      have e8 : j = 8 := by omega
      subst e8
      have HR : Hid ((drS m y 8).take 2 = drS m y 8 ∧ decide (2 < (drS m y 8).length) = false) := ⟨List.take_of_length_le h2, decide_eq_false (by omega)⟩
      go_wp2
      refine bodyPost_ret (v := .tuple #[.slice sa (drS m y 8).length sc, .bool false]) (by simp [results, Try.results16, go_sem]) rfl ?_
      rw [HR.out.1, HR.out.2]
      exact ⟨_, rfl, HO.out, HB.out⟩
end Go.Proofs.Ytcdemkafbphdbaa
