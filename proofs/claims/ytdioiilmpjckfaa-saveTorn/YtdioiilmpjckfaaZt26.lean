/-
  Parts of a proof, joined.
-/
import Derived.Test.YtdioiilmpjckfaaZt25
import Derived.Test.YtdioiilmpjckfaaZt00
import Derived.Test.YtdioiilmpjckfaaZt06
import Derived.Test.YtdioiilmpjckfaaZt03
namespace Go.Proofs.Ytdioiilmpjckfaa
open Go.ChangeShapes Go.WideShapes Go.ChangeAt Go.RowKit
set_option linter.unusedVariables false
set_option maxRecDepth 100000
set_option maxHeartbeats 3200000 in
theorem same_C {M N : Mach} (h : Sq.same M N = true) : machC M = machC N := by
  simp only [Sq.same, Sq.byts, Sq.rest, Sq.c_main, Sq.c_aux, Sq.c_pads, Sq.c_t, Sq.c_s, Sq.c_b, Sq.c_fr, Sq.c_to, Sq.c_granted, Sq.c_held, Sq.c_mail, Sq.c_rung, Sq.c_clock, Sq.c_mready, Sq.c_aready, Bool.and_eq_true, beq_iff_eq] at h
  simp only [machC, cpuC, h]
set_option maxHeartbeats 3200000 in
theorem C_same {M N : Mach} (h : machC M = machC N) : Sq.same M N = true := by
  simp only [machC, cpuC, List.cons_append, List.nil_append, List.cons.injEq, Ct.u16.injEq, Ct.u8.injEq, Ct.bo.injEq, Ct.num.injEq, Ct.lst.injEq, and_true] at h
  simp only [Sq.same, Sq.byts, Sq.rest, Sq.c_main, Sq.c_aux, Sq.c_pads, Sq.c_t, Sq.c_s, Sq.c_b, Sq.c_fr, Sq.c_to, Sq.c_granted, Sq.c_held, Sq.c_mail, Sq.c_rung, Sq.c_clock, Sq.c_mready, Sq.c_aready, Bool.and_eq_true, beq_iff_eq]
  simp only [h, and_self]
theorem same_enc {M N : Mach} (hM : M.wok) (hN : N.wok) : Sq.same M N = (enc M == enc N) := by
  rw [Bool.eq_iff_iff, beq_iff_eq]
  constructor
  · intro h
    unfold enc svX
    rw [same_C h]
  · intro h
    have h1 := rd_enc hM []
    have h2 := rd_enc hN []
    rw [h, h2] at h1
    have e : svX N = svX M := congrArg Prod.fst (Option.some.inj h1)
    have e1 := set_all M
    rw [← e, set_all N] at e1
    exact C_same e1.symm
section
variable {F : Fx} {W : World} {M M' : Mach} {tk : Tk}
theorem Bu.reads_A (a : Int) (h0 : 0 ≤ a ∧ a ≤ 1) : ReadsAt F M tk 143 a (M.lookA a) := by
  intro W h
  have hP : isPort a = false := by unfold isPort; exact decide_eq_false (by omega)
  have hl := hid (Bu.look_A h a (by omega))
  have hP' := hid hP
  have H := hid h
  clear h hP
  go_enter Try.func37, Try.ntmps37
  go_wp2_with (first
    | (go_at_call 61; refine (Bu.isPort_any a _ (by omega)).mono ?_; rw [hP'.out]; rintro e w1 ⟨rfl, rfl⟩)
    | (go_at_call 63; refine hl.out.mono ?_; rintro e w1 ⟨rfl, rfl⟩))
  go_ret
  exact ⟨rfl, H.out, Bt.refl _ _⟩
theorem Bu.reads_M (a : Int) (h0 : 0 ≤ a ∧ a ≤ 1) : ReadsAt F M tk 77 a (M.lookM a) := by
  intro W h
  have hP : isPort a = false := by unfold isPort; exact decide_eq_false (by omega)
  have hl := hid (Bu.look_M h a (by omega))
  have hP' := hid hP
  have H := hid h
  clear h hP
  go_enter Try.func37, Try.ntmps37
  go_wp2_with (first
    | (go_at_call 61; refine (Bu.isPort_any a _ (by omega)).mono ?_; rw [hP'.out]; rintro e w1 ⟨rfl, rfl⟩)
    | (go_at_call 63; refine hl.out.mono ?_; rintro e w1 ⟨rfl, rfl⟩))
  go_ret
  exact ⟨rfl, H.out, Bt.refl _ _⟩
theorem beg_ok (x y : Int) (hx : 0 ≤ x ∧ x ≤ 255) (hy : 0 ≤ y ∧ y ≤ 255) : (beginC x y).ok := by
  refine ⟨rfl, fun z hz => ?_, ?_, ?_⟩
  · have : z = 0 := by
      simp only [beginC, C.Cpu.zero, List.mem_cons, List.not_mem_nil, or_false] at hz
      omega
    omega
  · show 0 ≤ x * 256 + y; omega
  · show x * 256 + y ≤ 65535; omega
end
section
variable {F : Fx} {W : World} {M M' : Mach} {tk : Tk}
theorem lookM_bd (M : Mach) (a : Int) : 0 ≤ M.lookM a ∧ M.lookM a ≤ 255 := by
  unfold Mach.lookM romAt
  split
  · split
    · exact bget_bd _ _
    · omega
  · split
    · exact bget_bd _ _
    · split
      · exact bget_bd _ _
      · omega
end
end Go.Proofs.Ytdioiilmpjckfaa
