/-
  slices.Equal of inputs.
-/
import Derived.Test.YtbfflipcmciapaaDoorTapG
import Derived.Deep.DeepCutAuto
import Derived.Laws.StructEq
namespace Go.Proofs.YtbfflipcmciapaaDoor
open Go.ChangeShapes Go.WideShapes Go.ChangeAt Go.RowKit
set_option linter.unusedVariables false
set_option maxRecDepth 100000

/-- A slice of n rows of z cells. -/
def Tp.Rw (w : World) (v : Value) (n z : Nat) (xs : List Value) : Prop := xs.length = n * z ∧ ((n = 0 ∧ ∃ a c, v = .slice a 0 c) ∨ ∃ g o cap, v = .slice (some ⟨g, o, none⟩) n cap ∧ n ≤ cap ∧ g < w.heap.size ∧ ∀ j x, xs[j]? = some x → w.cell? ⟨g, o + j, none⟩ = some x)
section
variable {w w1 : World} {v : Value} {n z B : Nat} {xs : List Value} {t : TypeId}
theorem Tp.Rw.kept (h : Tp.Rw w v n z xs) (hb : Below w.heap.size w w1) : Tp.Rw w1 v n z xs := by
  obtain ⟨h0, h | ⟨g, o, cap, h1, h2, h3, h4⟩⟩ := h
  · exact ⟨h0, Or.inl h⟩
  · exact ⟨h0, Or.inr ⟨g, o, cap, h1, h2, Nat.lt_of_lt_of_le h3 hb.size, fun j x hj => (hb.cell (p := ⟨g, o + j, none⟩) h3).trans (h4 j x hj)⟩⟩
theorem Tp.Rw.len (h : Tp.Rw w v n z xs) : ∃ a c, v = .slice a n c := by
  obtain ⟨_, ⟨h0, a, c, h1⟩ | ⟨g, o, cap, h1, _⟩⟩ := h
  · exact ⟨a, c, by rw [h0]; exact h1⟩
  · exact ⟨_, _, h1⟩
end
theorem Tp.Rw.range {w : World} {v : Value} {n z : Nat} {xs : List Value} (h : Tp.Rw w v n z xs) {i : Nat} (hi : i < n) {row : List Value} (hr : ∀ (j : Nat) (u : Value), row[j]? = some u → xs[i * z + j]? = some u) : ∃ g o cap, v = .slice (some ⟨g, o, none⟩) n cap ∧ g < w.heap.size ∧ w.rangeAt g (o + i * z) row := by
  obtain ⟨_, ⟨h0, _⟩ | ⟨g, o, cap, h1, h2, h3, h4⟩⟩ := h
  · omega
  · exact ⟨g, o, cap, h1, h3, fun j u hj => by rw [Nat.add_assoc]; exact h4 _ _ (hr j u hj)⟩
theorem Tp.neq_of {P : Program} {w : World} {t : TypeId} {xs ys : Array Value} (h : (binOp .eql t (.agg xs) (.agg ys)).run P w = .ok (.bool true) w) : (binOp .neq t (.agg xs) (.agg ys)).run P w = .ok (.bool false) w := by
  rw [run_eql_struct] at h
  rw [run_neq_struct]
  revert h
  generalize Sem.run P (Op.equalIn 10000 t _ _) w = r
  intro h
  cases r with
  | ok b w' =>
    have e : Result.ok (Value.bool b) w' = .ok (.bool true) w := h
    injection e with e1 e2
    injection e1 with e3
    subst e3 e2
    rfl
  | _ => cases h
set_option maxHeartbeats 800000 in
theorem Lk.eq_px (a0 a1 a2 a3 a4 a5 a6 a7 a8 a9 a10 a11 a12 a13 a14 a15 : Int) (d : Nat) (w : World) : (Op.equalIn (d + 2) 58 (.agg #[.int .u8 a0, .int .u8 a1, .int .u8 a2, .int .u8 a3, .int .u8 a4, .int .u8 a5, .int .u8 a6, .int .u8 a7, .int .u8 a8, .int .u8 a9, .int .u8 a10, .int .u8 a11, .int .u8 a12, .int .u8 a13, .int .u8 a14, .int .u8 a15]) (.agg #[.int .u8 a0, .int .u8 a1, .int .u8 a2, .int .u8 a3, .int .u8 a4, .int .u8 a5, .int .u8 a6, .int .u8 a7, .int .u8 a8, .int .u8 a9, .int .u8 a10, .int .u8 a11, .int .u8 a12, .int .u8 a13, .int .u8 a14, .int .u8 a15])).run Tryd.prog w = .ok true w := by
  have u3 := Tryd.underlying5
  have x3 := Tryd.isAgg5
  have z3 := Tryd.sizeOf5
  have hU : Tryd.prog.cellsOf 5 = 1 := by kernel_rfl
  have hs : (Tryd.prog.info? 5).isSome = true := by kernel_rfl
  obtain ⟨i, hi⟩ := Option.isSome_iff_exists.1 hs
  rw [run_equalIn_array w (d + 1) _ _ Tryd.underlying58 hi, hU]
  simp only [List.range, List.range.loop, Op.eqItems]
  go_simp
set_option maxHeartbeats 1600000 in
theorem Tp.exec_load {P : Program} {a : Act} {o : Oper} {w : World} (ty : TypeId) (x : Operand) (ho : o.op = .load ty x) (b off : Nat) (hx : a.eval x = .pointer (some ⟨b, off, none⟩)) (cs : List Value) (u : TypeDesc) (hc : w.rangeAt b off cs) (hu : P.underlying ty = some u) (hag : u.isRow = true) (hi : (P.info? ty).map (·.size) = some cs.length) :
    (execOp a.eval o).run P w = .ok (.value (.agg cs.toArray)) w := by
  unfold execOp
  simp only [ho, hx, Sem.run_bind, run_loadAt_mid w b off ty cs u hc hu hag hi, Result.andThen_ok, Sem.run_pure]

theorem Tp.eq_in (c a v : Int) (w : World) : (binOp .eql 34 (.agg #[.int .i64 c, .int .i64 a, .int .u8 v]) (.agg #[.int .i64 c, .int .i64 a, .int .u8 v])).run Tryd.prog w = .ok (.bool true) w := by
  have u3 := Tryd.underlying3
  have x3 := Tryd.isAgg3
  have z3 := Tryd.sizeOf3
  have u5 := Tryd.underlying5
  have x5 := Tryd.isAgg5
  have z5 := Tryd.sizeOf5
  have hS : Tryd.prog.underlying 34 = some (.struct (Tryd.prog.fieldsOf 34)) := by kernel_rfl
  have hp : Tryd.prog.stoodInHeld 34 = false := by kernel_rfl
  rw [run_eql_struct, show (10000 : Nat) = 9999 + 1 from rfl, run_equalIn_agg w 9999 34 _ _ hS hp]
  simp only [Program.fieldsOf, Tryd.underlying34]
  go_simp
theorem Tp.nq_in (x : Tp.In) (w : World) : (binOp .neq 34 (.agg (Tp.ics [x]).toArray) (.agg (Tp.ics [x]).toArray)).run Tryd.prog w = .ok (.bool false) w := Tp.neq_of (Tp.eq_in x.c x.p x.d w)
theorem Tp.ics_row : ∀ (l : List Tp.In) (i : Nat) (x : Tp.In), l[i]? = some x → ∀ (j : Nat) (v : Value), (Tp.ics [x])[j]? = some v → (Tp.ics l)[i * 3 + j]? = some v
  | [], i, x, h => by simp at h
  | y :: l, 0, x, h => fun j v hj => by
    simp only [List.getElem?_cons_zero, Option.some.injEq] at h
    subst h
    rw [Nat.zero_mul, Nat.zero_add]
    match j, hj with
    | 0, hj => exact hj
    | 1, hj => exact hj
    | 2, hj => exact hj
    | j + 3, hj => simp [Tp.ics] at hj
  | y :: l, i + 1, x, h => fun j v hj => by
    rw [List.getElem?_cons_succ] at h
    have := Tp.ics_row l i x h j v hj
    rw [show (i + 1) * 3 + j = i * 3 + j + 1 + 1 + 1 by omega]
    exact this
theorem Tp.ics_len : ∀ l : List Tp.In, (Tp.ics l).length = l.length * 3
  | [] => rfl
  | x :: l => by simp only [Tp.ics, List.length_cons, Tp.ics_len l]; omega
theorem Tp.InAt.rw {B : Nat} {w : World} {v : Value} {l : List Tp.In} (h : Tp.InAt B w v l) : Tp.Rw w v l.length 3 (Tp.ics l) := by
  rcases h with ⟨rfl, a, c, rfl⟩ | ⟨g, o, cap, h1, h2, h3, h4, h5⟩
  · exact ⟨rfl, Or.inl ⟨rfl, a, c, rfl⟩⟩
  · refine ⟨Tp.ics_len l, Or.inr ⟨g, o, cap, h1, h2, h4, fun j u hj => ?_⟩⟩
    have hjl : j < l.length * 3 := by rw [← Tp.ics_len]; exact (List.getElem?_eq_some_iff.1 hj).1
    obtain ⟨x, hx⟩ : ∃ x, l[j / 3]? = some x := ⟨_, List.getElem?_eq_getElem (by omega)⟩
    obtain ⟨q1, q2, q3⟩ := Tp.ics_at l (j / 3) x hx
    obtain ⟨c1, c2, c3⟩ := h5 (j / 3) x hx
    have hm : j % 3 = 0 ∨ j % 3 = 1 ∨ j % 3 = 2 := by omega
    rcases hm with e | e | e
    · rw [show j = 3 * (j / 3) by omega] at hj ⊢
      rw [q1] at hj; rw [← hj]; exact c1
    · rw [show j = 3 * (j / 3) + 1 by omega] at hj ⊢
      rw [q2] at hj; rw [← hj, ← Nat.add_assoc]; exact c2
    · rw [show j = 3 * (j / 3) + 2 by omega] at hj ⊢
      rw [q3] at hj; rw [← hj, ← Nat.add_assoc]; exact c3
theorem Tp.info_in2 : (Tryd.prog.info? 34).map (·.size) = some 3 := by kernel_rfl
set_option maxHeartbeats 1600000 in
theorem Tp.sameIn (v1 v2 : Value) (l : List Tp.In) (w : World) (h1 : Tp.Rw w v1 l.length 3 (Tp.ics l)) (h2 : Tp.Rw w v2 l.length 3 (Tp.ics l)) (hl : l.length ≤ 1000000) :
    Calls Tryd.prog 20 #[v1, v2] w fun e w' => e = .returned (.bool true) ∧ Below w.heap.size w w' := by
  obtain ⟨a1, k1, e1⟩ := h1.len
  obtain ⟨a2, k2, e2⟩ := h2.len
  subst e1 e2
  have H1 := hid h1
  have H2 := hid h2
  clear h1 h2
  go_enter Tryd.func20, Tryd.ntmps20
  go_wp2
  go_loopw [13] (fun i wr => ∃ j : Nat, j ≤ l.length ∧ i = .int .i64 j ∧ Below w.heap.size w wr) (fun i _ => l.length - (intOf i).toNat)
  case atStart => exact ⟨0, Nat.zero_le _, rfl, st0 w⟩
  case round =>
    obtain ⟨j, hj, rfl, hb⟩ := hrel
    have HB := hid hb
    by_cases hlt : j < l.length
    · have hlt2 : (j : Int) < l.length := by omega
      have hj0 : (0 : Int) ≤ j := by omega
      have hjs : (j : Int) < 1000000 := by omega
      obtain ⟨x, hx⟩ : ∃ x, l[j]? = some x := ⟨_, List.getElem?_eq_getElem hlt⟩
      obtain ⟨g1, o1, c1, q1, z1, r1⟩ := (H1.out.kept hb).range hlt (Tp.ics_row l j x hx)
      obtain ⟨g2, o2, c2, q2, z2, r2⟩ := (H2.out.kept hb).range hlt (Tp.ics_row l j x hx)
      cases q1
      cases q2
      have hnq := Tp.nq_in x
      clear hb hx
      go_upto_region 6 with fail
      refine wp_region_held_drew (S := fun w' => w'.rangeAt g1 (o1 + j * 3) (Tp.ics [x]) ∧ w'.rangeAt g2 (o2 + j * 3) (Tp.ics [x])) (by kernel_rfl) ⟨r1, r2⟩ ?_
      intro hS
      refine wpAnyH_take (i := 0) (oi := { dst := some 16, op := _, type := _, pos := _, after := _, guard := none }) (v := ?_) rfl (by kernel_rfl) (by kernel_rfl) (by kernel_rfl) (fun _ _ _ h => h) (Or.inl ⟨by rfl, ?_⟩) hS ?_
      rotate_left 1
      focus (intro w hSw; clear hSw; go_simp; try (with_reducible rfl))
      simp only [Act.put, List.setIfInBounds_toArray, List.set_cons_zero, List.set_cons_succ]
      refine wpAnyH_take (i := 1) (oi := { dst := some 17, op := _, type := _, pos := _, after := _, guard := none }) (v := ?_) rfl (by kernel_rfl) (by kernel_rfl) (by kernel_rfl) (fun _ _ _ h => h) (Or.inl ⟨by rfl, ?_⟩) hS ?_
      rotate_left 1
      focus (intro w hSw; clear hSw; go_simp; try (with_reducible rfl))
      simp only [Act.put, List.setIfInBounds_toArray, List.set_cons_zero, List.set_cons_succ]
      refine wpAnyH_take (i := 2) (oi := { dst := some 18, op := _, type := _, pos := _, after := _, guard := none }) (v := ?_) rfl (by kernel_rfl) (by kernel_rfl) (by kernel_rfl) (fun _ _ _ h => h) (Or.inl ⟨by rfl, ?_⟩) hS ?_
      rotate_left 1
      focus (intro w hSw; clear hSw; go_simp; try (with_reducible rfl))
      simp only [Act.put, List.setIfInBounds_toArray, List.set_cons_zero, List.set_cons_succ]
      refine wpAnyH_take (i := 3) (oi := { dst := some 19, op := _, type := _, pos := _, after := _, guard := none }) (v := .agg (Tp.ics [x]).toArray) rfl (by kernel_rfl) (by kernel_rfl) (by kernel_rfl) (fun _ _ _ h => h) (Or.inl ⟨by rfl, fun w' hSw => Tp.exec_load 34 _ rfl g1 (o1 + j * 3) rfl (Tp.ics [x]) _ hSw.1 Tryd.underlying34 rfl Tp.info_in2⟩) hS ?_
      simp only [Act.put, List.setIfInBounds_toArray, List.set_cons_zero, List.set_cons_succ]
      refine wpAnyH_take (i := 4) (oi := { dst := some 20, op := _, type := _, pos := _, after := _, guard := none }) (v := ?_) rfl (by kernel_rfl) (by kernel_rfl) (by kernel_rfl) (fun _ _ _ h => h) (Or.inl ⟨by rfl, ?_⟩) hS ?_
      rotate_left 1
      focus (intro w hSw; clear hSw; go_simp; try (with_reducible rfl))
      simp only [Act.put, List.setIfInBounds_toArray, List.set_cons_zero, List.set_cons_succ]
      refine wpAnyH_take (i := 5) (oi := { dst := some 21, op := _, type := _, pos := _, after := _, guard := none }) (v := ?_) rfl (by kernel_rfl) (by kernel_rfl) (by kernel_rfl) (fun _ _ _ h => h) (Or.inl ⟨by rfl, ?_⟩) hS ?_
      rotate_left 1
      focus (intro w hSw; clear hSw; go_simp; try (with_reducible rfl))
      simp only [Act.put, List.setIfInBounds_toArray, List.set_cons_zero, List.set_cons_succ]
      refine wpAnyH_take (i := 6) (oi := { dst := some 22, op := _, type := _, pos := _, after := _, guard := none }) (v := ?_) rfl (by kernel_rfl) (by kernel_rfl) (by kernel_rfl) (fun _ _ _ h => h) (Or.inl ⟨by rfl, ?_⟩) hS ?_
      rotate_left 1
      focus (intro w hSw; clear hSw; go_simp; try (with_reducible rfl))
      simp only [Act.put, List.setIfInBounds_toArray, List.set_cons_zero, List.set_cons_succ]
      refine wpAnyH_take (i := 7) (oi := { dst := some 23, op := _, type := _, pos := _, after := _, guard := none }) (v := .agg (Tp.ics [x]).toArray) rfl (by kernel_rfl) (by kernel_rfl) (by kernel_rfl) (fun _ _ _ h => h) (Or.inl ⟨by rfl, fun w' hSw => Tp.exec_load 34 _ rfl g2 (o2 + j * 3) rfl (Tp.ics [x]) _ hSw.2 Tryd.underlying34 rfl Tp.info_in2⟩) hS ?_
      simp only [Act.put, List.setIfInBounds_toArray, List.set_cons_zero, List.set_cons_succ]
      refine wpAnyH_take (i := 8) (oi := { dst := some 24, op := _, type := _, pos := _, after := _, guard := none }) (v := ?_) rfl (by kernel_rfl) (by kernel_rfl) (by kernel_rfl) (fun _ _ _ h => h) (Or.inl ⟨by rfl, ?_⟩) hS ?_
      rotate_left 1
      focus (intro w hSw; clear hSw; go_simp; try (with_reducible rfl))
      simp only [Act.put, List.setIfInBounds_toArray, List.set_cons_zero, List.set_cons_succ]
      refine wpAnyH_done (by kernel_rfl) ?_ _
      clear hS r1 r2
      go_wp2
      exact ⟨⟨j + 1, by omega, by simp, HB.out.drew⟩, by simp [intOf]; omega⟩
    · have hnl : ¬ (j : Int) < l.length := by omega
      clear hb
      go_wp2
      go_ret
      exact ⟨rfl, HB.out⟩
end Go.Proofs.YtbfflipcmciapaaDoor
