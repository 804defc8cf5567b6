/-
  The reference's tick of a timer; '==' of timers; a timer that came in; the laws' closed fact.
-/
import Derived.Test.YtdbigihmggpklaaTimC
namespace Go.Proofs.Ytdbigihmggpklaa
open Go.ChangeShapes Go.WideShapes Go.ChangeAt Go.RowKit
set_option linter.unusedVariables false

theorem rtick_any (r c : Int) (on g : Bool) (w : World) (hc : 0 ≤ c ∧ c ≤ 65535) :
    Calls Try.prog 9 #[.agg #[.int .u16 r, .int .u16 c, .bool on, .bool g]] w fun e w' => e = .returned (.agg #[.int .u16 r, .int .u16 (tkC r c on), .bool on, .bool (tkG c on g)]) ∧ Below w.heap.size w w' := by
  cases on
  · go_enter Try.func9, Try.ntmps9
    go_wp2
    refine bodyPost_ret (v := .agg _) (by simp [results, Try.results9, go_sem, tkC, tkG]) rfl ⟨rfl, ?_⟩
    exact (stA (stA (st0 _) _) _)
  · by_cases h : c = 0
    · subst h
      go_enter Try.func9, Try.ntmps9
      go_wp2
      refine bodyPost_ret (v := .agg _) (by simp [results, Try.results9, go_sem, tkC, tkG]) rfl ⟨rfl, ?_⟩
      exact (stA (stA (st0 _) _) _)
    · have hb : (0 : Int) < c := by omega
      have e3 : IntKind.u16.wrap (c - 1) = c - 1 := by rw [IntKind.wrap_u16]; omega
      have H := hid h
      clear h
      go_enter Try.func9, Try.ntmps9
      go_wp2
      have e : tkC r c true = c - 1 := by unfold tkC; simp [H.out]
      have e2 : tkG c true g = g := by unfold tkG; simp [H.out]
      rw [e, e2]
      refine bodyPost_ret (v := .agg _) (by simp [results, Try.results9, go_sem]) rfl ⟨rfl, ?_⟩
      exact (stA (stA (st0 _) _) _)
set_option maxRecDepth 100000 in
theorem eq_timer (r c : Int) (on g : Bool) (w : World) : (binOp .eql 24 (.agg #[.int .u16 r, .int .u16 c, .bool on, .bool g]) (.agg #[.int .u16 r, .int .u16 c, .bool on, .bool g])).run Try.prog w = .ok (.bool true) w := by
  have u3 := Try.underlying22
  have a3 := Try.isAgg22
  have z3 := Try.sizeOf22
  have u4 := Try.underlying4
  have a4 := Try.isAgg4
  have z4 := Try.sizeOf4
  have hS : Try.prog.underlying 24 = some (.struct (Try.prog.fieldsOf 24)) := by kernel_rfl
  have hp : Try.prog.stoodInHeld 24 = false := by kernel_rfl
  rw [run_eql_struct, show (10000 : Nat) = 9999 + 1 from rfl, run_equalIn_agg w 9999 24 _ _ hS hp]
  simp only [Program.fieldsOf, Try.underlying24]
  go_simp
set_option maxRecDepth 100000 in
theorem neq_timer (r c : Int) (on g : Bool) (w : World) : (binOp .neq 24 (.agg #[.int .u16 r, .int .u16 c, .bool on, .bool g]) (.agg #[.int .u16 r, .int .u16 c, .bool on, .bool g])).run Try.prog w = .ok (.bool false) w := by
  have h := eq_timer r c on g w
  rw [run_eql_struct] at h
  rw [run_neq_struct]
  revert h
  generalize Sem.run Try.prog (Op.equalIn 10000 24 _ _) w = r
  intro h
  cases r with
  | ok b w' =>
    have e : Result.ok (Value.bool b) w' = .ok (.bool true) w := h
    injection e with e1 e2
    injection e1 with e3
    subst e3 e2
    rfl
  | _ => cases h
theorem timed_any (w : World) : Calls Try.prog 7 #[] w fun e w' => e = .returned (.bool true) ∧ Below w.heap.size w w' := by
  have he := eq_timer 2 2 true true
  have r1 : rnC 2 2 true 3 = 2 := by decide
  have r2 : rnG 2 true false 3 = true := by decide
  go_enter Try.func7, Try.ntmps7
  go_wp2_with (first
    | (go_at_call 10; refine (set_any _ _ _ _ _ _).mono ?_; rintro e w1 ⟨rfl, hb1⟩)
    | (go_at_call 6; refine (run_any 2 2 3 true false _ (by omega) (by omega) (by omega)).mono ?_; rw [r1, r2]; rintro e w2 ⟨rfl, hb2⟩)
    | (go_at_call 11; refine (next_on _ _ _ _ (by omega)).mono ?_; rintro e w3 ⟨rfl, hb3⟩))
  go_ret
  exact ⟨rfl, stp (stA (stp hb1 hb2) _) hb3⟩
set_option maxRecDepth 100000 in
theorem open_agg4 {H : Type} {enc : TypeId × Value → H} {P : Program} {w : World} {base : Nat} {spare : Nat → Bool} {held : Bool} {r : Reach} {b0 : Nat} {t : TypeId} {f0 f1 f2 f3 : Field} {v : Value} {d : DataW H} {p : List MemPlace}
    (hs : P.underlying t = some (.struct #[f0, f1, f2, f3])) (hone : Deep.oneCellFields P #[f0, f1, f2, f3] = true) (hC : P.cellsOf t = 4) (hv : Value.okWide P w r b0 t v) (h : DataW.Trod enc P w base spare held t v d p) :
    ∃ (v0 v1 v2 v3 : Value) (y0 y1 y2 y3 : DataW H × List MemPlace) (n : Nat), v = .agg #[v0, v1, v2, v3] ∧ d = .agg [y0.1, y1.1, y2.1, y3.1] ∧
      DataW.trod enc P w base spare held n f0.type [v0] = some y0 ∧ DataW.trod enc P w base spare held n f1.type [v1] = some y1 ∧ DataW.trod enc P w base spare held n f2.type [v2] = some y2 ∧ DataW.trod enc P w base spare held n f3.type [v3] = some y3 := by
  obtain ⟨cs, rfl, hsz⟩ := okWide_struct hs hv
  have h3 : ∃ c0 c1 c2 c3, cs = #[c0, c1, c2, c3] := by
    have := hsz.trans hC
    obtain ⟨l⟩ := cs
    match l, this with
    | [c0, c1, c2, c3], _ => exact ⟨c0, c1, c2, c3, rfl⟩
  obtain ⟨c0, c1, c2, c3, rfl⟩ := h3
  obtain ⟨fuel, hf⟩ := h
  obtain ⟨xs, n, _, hx, hl, hlen, hfs⟩ := DataW.trod_struct hs hf
  obtain ⟨o0, k0⟩ := Deep.hone_of hone 0 f0 rfl
  obtain ⟨o1, k1⟩ := Deep.hone_of hone 1 f1 rfl
  obtain ⟨o2, k2⟩ := Deep.hone_of hone 2 f2 rfl
  obtain ⟨o3, k3⟩ := Deep.hone_of hone 3 f3 rfl
  match xs, hlen with
  | [y0, y1, y2, y3], _ =>
    have g0 := hfs 0 f0 rfl
    have g1 := hfs 1 f1 rfl
    have g2 := hfs 2 f2 rfl
    have g3 := hfs 3 f3 rfl
    simp only [Prod.mk.injEq] at hx
    exact ⟨c0, c1, c2, c3, y0, y1, y2, y3, n, rfl, hx.1, by simpa [Value.cells, o0, k0] using g0, by simpa [Value.cells, o1, k1] using g1, by simpa [Value.cells, o2, k2] using g2, by simpa [Value.cells, o3, k3] using g3⟩
theorem open_timer {H : Type} {enc : TypeId × Value → H} {w : World} {base : Nat} {spare : Nat → Bool} {held : Bool} {r : Reach} {b0 : Nat} {v : Value} {d : DataW H} {p : List MemPlace}
    (hv : Value.okWide Try.prog w r b0 24 v) (h : DataW.Trod enc Try.prog w base spare held 24 v d p) :
    ∃ (r c : Int) (on g : Bool), v = .agg #[.int .u16 r, .int .u16 c, .bool on, .bool g] ∧ (0 ≤ r ∧ r ≤ 65535) ∧ (0 ≤ c ∧ c ≤ 65535) := by
  obtain ⟨v0, v1, v2, v3, y0, y1, y2, y3, k, rfl, _, h0, h1, h2, h3⟩ := open_agg4 Try.underlying24 (by kernel_rfl) (by kernel_rfl) hv h
  obtain ⟨a0, e0, _, w0⟩ := DataW.trod_int Try.underlying22 h0
  obtain ⟨a1, e1, _, w1⟩ := DataW.trod_int Try.underlying22 h1
  obtain ⟨a2, e2, _⟩ := DataW.trod_bool Try.underlying4 h2
  obtain ⟨a3, e3, _⟩ := DataW.trod_bool Try.underlying4 h3
  simp only [List.cons.injEq, and_true] at e0 e1 e2 e3
  subst e0 e1 e2 e3
  exact ⟨a0, a1, a2, a3, rfl, bounds_u16 w0, bounds_u16 w1⟩
end Go.Proofs.Ytdbigihmggpklaa
