/-
  What the statements on package tape ask first: one line, there and back.
-/
import Derived.Test.YtbfflipcmciapaaDoorTapH
namespace Go.Proofs.YtbfflipcmciapaaDoor
open Go.ChangeShapes Go.WideShapes Go.ChangeAt Go.RowKit
set_option linter.unusedVariables false
set_option maxRecDepth 100000

def Tp.one : Tp.In := ⟨10, 1, 129⟩
def Tp.oneT : List UInt8 := [49, 48, 32, 49, 32, 117, 46, 46, 46, 46, 46, 46, 116, 10]
theorem Tp.itoa_ten : Lib.itoa 10 = [49, 48] := by
  have h := Lib.itoa_nonneg 10
  rw [Lib.decDigits_two (by decide) (by decide)] at h
  exact h
theorem Tp.itoa_one : Lib.itoa 1 = [49] := by
  have h := Lib.itoa_nonneg 1
  rw [Lib.decDigits_one (by decide)] at h
  exact h
theorem Tp.one_text : Tp.text [Tp.one] = Tp.oneT := by
  unfold Tp.text Tp.one
  simp only [List.map_cons, List.map_nil, List.flatten_cons, List.flatten_nil, List.append_nil, Tp.In.line]
  rw [Tp.itoa_ten, Tp.itoa_one]
  rfl
theorem Tp.one_ok : ∀ x ∈ [Tp.one], x.ok := fun x hx => by
  rw [List.mem_singleton] at hx
  subst hx
  exact ⟨by decide, by decide, by decide, by decide, by decide⟩
theorem Tp.one_chk : Tp.chkIn [Tp.one] 0 = 0 := by decide
theorem Tp.one_prs : Tp.prsL Tp.oneT = [Tp.one] ∧ Tp.prsN Tp.oneT = 0 ∧ Tp.prsE Tp.oneT = 0 := by
  have h := Tp.prs_text Tp.one_ok (by rw [Tp.one_text]; decide) Tp.one_chk
  rw [Tp.one_text] at h
  exact h
theorem Tp.rw_new (w : World) (x : Tp.In) (t : TypeId) {b : Nat} (hb : b = w.heap.size) : Tp.Rw (w.alloc (.cells #[.int .i64 x.c, .int .i64 x.p, .int .u8 x.d] t)) (.slice (some ⟨b, 0, none⟩) 1 1) 1 3 (Tp.ics [x]) :=
  ⟨rfl, Or.inr ⟨b, 0, 1, rfl, Nat.le_refl _, by subst hb; simp, fun j u hj => by rw [Nat.zero_add]; exact Tp.in_cells w x t hb j u hj⟩⟩
set_option maxHeartbeats 3200000 in
theorem Tp.taped (w : World) (hF : Tp.F w) : Calls Tryd.prog 10 #[] w fun e w' => e = .returned (.bool true) ∧ Below w.heap.size w w' := by
  have HP := hid (Tp.parse_any Tp.oneT w hF)
  obtain ⟨e1, e2, e3⟩ := Tp.one_prs
  rw [e1, e2, e3] at HP
  have HF0 := hid hF
  have hpr : Tp.printS [Tp.one] = Tp.oneT := by unfold Tp.printS; rw [if_pos Tp.one_chk]; exact Tp.one_text
  have HPR : Hid (∀ (v : Value) (B : Nat) (W : World), Tp.InAt B W v [Tp.one] → B ≤ W.heap.size → Tp.F W → Calls Tryd.prog 7 #[v] W fun e w' => e = .returned (.tuple #[.string (mk Tp.oneT), .int .i64 0]) ∧ Below W.heap.size W w') := hid (fun v B W h hB hF => by
    have h9 := Tp.print_any [Tp.one] v B W h hB Tp.one_ok hF
    rw [hpr, Tp.one_chk] at h9
    exact h9)
  have hst : ((mk Tp.oneT).toList == [49, 48, 32, 49, 32, 117, 46, 46, 46, 46, 46, 46, 116, 10]) = true := by rw [mk_toList]; rfl
  have rb := Tp.run_bin 10 1 129
  clear hF e1 e2 e3 hpr
  go_enter Tryd.func10, Tryd.ntmps10
  go_wp2_with (first
    | (go_at_call 15; refine HP.out.mono ?_; rintro e w1 ⟨v, rfl, hv, _, hb1⟩; obtain ⟨a1, c1, rfl⟩ := Tp.row_len hv; have HV1 := hid (Tp.own_in hv); have HB1 := hid hb1; clear hv hb1)
    | (go_at_call 7; refine (HPR.out _ _ _ HV1.out (Nat.le_refl _) (HF0.out.kept HB1.out)).mono ?_; rintro e w2 ⟨rfl, hb2⟩; have HV2 := hid (HV1.out.kept hb2); have HB2 := hid (stp HB1.out hb2); clear hb2)
    | (go_at_call 20; refine (Tp.sameIn _ _ [Tp.one] _ ((HV2.out.rw).kept (stA (st0 w2) _)) (Tp.rw_new w2 Tp.one 34 rfl) (by decide)).mono ?_; rintro e w3 ⟨rfl, hb3⟩; have HB3 := hid (stp (stA HB2.out _) hb3); clear hb3))
  go_ret
  exact ⟨rfl, HB3.out⟩
end Go.Proofs.YtbfflipcmciapaaDoor
