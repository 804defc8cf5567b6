/-
  Joined texts.
-/
import Derived.Test.YthooknikfachnaaBusD
import Derived.Deep.RegionWith
import Derived.Test.YthooknikfachnaaBusI
import Derived.Deep.DeepCutAuto
namespace Go.Proofs.Ythooknikfachnaa
open Go.ChangeShapes Go.WideShapes Go.ChangeAt Go.RowKit
set_option linter.unusedVariables false
set_option maxRecDepth 100000

section
variable {F : Fx} {W : World} {M : Mach} {tk : Tk}
theorem two_or (a b : Bool) : bits .or .u8 (sel a 1 0) (sel b 2 0) = two a b := by cases a <;> cases b <;> rfl
theorem Bu.timer_r (h : Bd F W M tk) : Calls Try.prog 61 #[pt F.g 0] W fun e w' => e = .returned (.int .u8 (two M.t.on M.t.g)) ∧ Bd F w' M tk ∧ Bt F W w' := by
  have c1 := h.at 43 (.bool M.t.on) rfl
  have c2 := h.at 44 (.bool M.t.g) rfl
  have hg := h.bx.z
  have H := hid h
  clear h
  rw [← two_or]
  generalize M.t.on = x at *
  generalize M.t.g = y at *
  go_enter Try.func61, Try.ntmps61
  go_wp2
  go_region_held3 (fun w' => w'.cell? ⟨F.g, 43, none⟩ = some (.bool x) ∧ w'.cell? ⟨F.g, 44, none⟩ = some (.bool y))
    ((go_keep; done))
    ((go_at_call 87; refine (Bu.bits_any _ _ _).mono ?_; rintro e w1 ⟨rfl, rfl⟩))
  go_wp2
  go_ret
  exact ⟨rfl, H.out.drew, (Bt.refl _ _).drew⟩
theorem Bu.aux_r (h : Bd F W M tk) : Calls Try.prog 68 #[pt F.g 0] W fun e w' => e = .returned (.int .u8 (two M.granted M.held)) ∧ Bd F w' M tk ∧ Bt F W w' := by
  have c1 := h.at 67 (.bool M.granted) rfl
  have c2 := h.at 68 (.bool M.held) rfl
  have hg := h.bx.z
  have H := hid h
  clear h
  rw [← two_or]
  generalize M.granted = x at *
  generalize M.held = y at *
  go_enter Try.func68, Try.ntmps68
  go_wp2
  go_region_with (go_at_call 87; refine (Bu.bits_any _ _ _).mono ?_; rintro e w1 ⟨rfl, rfl⟩)
  all_goals
    go_wp2
    go_ret
    exact ⟨rfl, H.out.drew, (Bt.refl _ _).drew⟩
theorem Bu.beam_r (h : Bd F W M tk) : Calls Try.prog 65 #[pt F.g 0] W fun e w' => e = .returned (.int .u8 (two M.b.g false)) ∧ Bd F w' M tk ∧ Bt F W w' := by
  have c1 := h.at 63 (.bool M.b.g) rfl
  have hg := h.bx.z
  have H := hid h
  clear h
  rw [show two M.b.g false = sel M.b.g 1 0 by cases M.b.g <;> rfl]
  generalize M.b.g = x at *
  go_enter Try.func65, Try.ntmps65
  go_wp2_with (go_at_call 87; refine (Bu.bits_any _ _ _).mono ?_; rintro e w1 ⟨rfl, rfl⟩)
  go_ret
  exact ⟨rfl, H.out, Bt.refl _ _⟩
theorem Bu.line_r (h : Bd F W M tk) : Calls Try.prog 63 #[pt F.E.mb 0] W fun e w' => e = .returned (.int .u8 M.b.l) ∧ Bd F w' M tk ∧ Bt F W w' := by
  have c1 := h.at 61 (.int .i64 M.b.l) rfl
  have hg := h.bx.z
  obtain ⟨z1, e1⟩ := h.env _ _ .mb
  have b0 := h.fit.b.l0
  have b1 := h.fit.b.l1
  have H := hid h
  clear h
  go_enter Try.func63, Try.ntmps63
  go_wp2
  go_ret
  exact ⟨rfl, H.out, Bt.refl _ _⟩
theorem Bu.at_r (h : Bd F W M tk) : Calls Try.prog 64 #[pt F.E.mb 0] W fun e w' => e = .returned (.int .u8 M.b.a) ∧ Bd F w' M tk ∧ Bt F W w' := by
  have c1 := h.at 62 (.int .i64 M.b.a) rfl
  have hg := h.bx.z
  obtain ⟨z1, e1⟩ := h.env _ _ .mb
  have b0 := h.fit.b.a0
  have b1 := h.fit.b.a1
  have H := hid h
  clear h
  go_enter Try.func64, Try.ntmps64
  go_wp2
  go_ret
  exact ⟨rfl, H.out, Bt.refl _ _⟩
theorem Bu.mail_r (h : Bd F W M tk) : Calls Try.prog 70 #[pt F.E.mb 0] W fun e w' => e = .returned (.int .u8 M.m1) ∧ Bd F w' M tk ∧ Bt F W w' := by
  have c1 := h.at 70 (.int .u8 M.m1) rfl
  have hg := h.bx.z
  obtain ⟨z1, e1⟩ := h.env _ _ .mb
  have H := hid h
  clear h
  go_enter Try.func70, Try.ntmps70
  go_wp2
  go_ret
  exact ⟨rfl, H.out, Bt.refl _ _⟩
theorem Bu.take_r (h : Bd F W M tk) : Calls Try.prog 72 #[pt F.g 0] W fun e w' => e = .returned (.int .u8 M.m0) ∧ Bd F w' { M with rung := false } tk ∧ Bt F W w' := by
  have c1 := h.at 69 (.int .u8 M.m0) rfl
  have c2 := h.at 71 (.bool M.rung) rfl
  have c3 := h.bx.f 71
  have hg := h.bx.z
  have H := hid h
  clear h
  go_enter Try.func72, Try.ntmps72
  go_wp2
  go_ret
  exact ⟨rfl, H.out.put 71 _ (by omega) rfl ⟨rfl, rfl, rfl, rfl, rfl⟩ { H.out.fit with main := H.out.fit.main }, (Bt.refl _ _).set H.out.nd _ _⟩
end
section
variable {F : Fx} {W : World} {M M' : Mach} {tk : Tk}
set_option maxHeartbeats 1600000 in
theorem Bu.pad1_r (h : Bd F W M tk) : Calls Try.prog 81 #[pt F.E.q1 0, pt F.E.w1 0] W fun e w' => e = .returned (.int .u8 (M.portM 1).1) ∧ Bd F w' (M.portM 1).2 tk ∧ Bt F W w' := by
  have c0 := h.at 38 (.int .u8 M.p1.d) rfl
  have c1 := h.at 39 (.bool M.p1.l) rfl
  have c2 := h.at 40 (.int .u8 M.p1.s) rfl
  have hg := h.bx.z
  obtain ⟨y1, e1⟩ := h.env _ _ .q1
  obtain ⟨y2, e2⟩ := h.env _ _ .w1
  have hp := h.fit.p1
  have H := hid h
  clear h
  go_enter Try.func81, Try.ntmps81
  go_upto_region 1 with fail
  go_cut [0, 1, 3, 4] (fun v0 v1 v3 v4 wx => v0 = pt F.E.q1 0 ∧ v1 = pt F.E.w1 0 ∧ v3 = .int .u8 M.p1.rd ∧ ∃ b, v4 = pt b 0 ∧ PdC F W M tk b M.p1.next wx)
  case first =>
    go_region_with (go_at_call 82; refine (read_pad _ _ _ _ hp.d hp.s).mono ?_; rintro e w1 ⟨rfl, hb1⟩; obtain ⟨k1, f1⟩ := bcell hb1; try (have z1 := lt_new hb1); have z2 : F.g < w1.heap.size := lt_old hg hb1 (by simp))
    all_goals (go_wp2_with fail; go_meet)
    all_goals refine ⟨rfl, rfl, rfl, _, rfl, ?_⟩
    all_goals first
      | exact PdC.mkB H.out hb1
      | exact PdC.mkA H.out hb1
  case rest =>
    obtain ⟨rfl, rfl, rfl, b, rfl, hC⟩ := hcut
    obtain ⟨d0, d1, d2⟩ := hC.all
    have c0 := hC.bd.at 38 (.int .u8 M.p1.d) rfl
    have c1 := hC.bd.at 39 (.bool M.p1.l) rfl
    have c2 := hC.bd.at 40 (.int .u8 M.p1.s) rfl
    have f0 := hC.bd.bx.f
    have hg := hC.bd.bx.z
    have hbz := hC.bx.z
    obtain ⟨y1, e1⟩ := hC.bd.env _ _ .q1
    obtain ⟨y2, e2⟩ := hC.bd.env _ _ .w1
    have HC := hid hC
    clear hC
    go_wp2
    go_region_with fail
    all_goals go_wp2
    all_goals go_ret
    all_goals
      refine ⟨rfl, ?_, ?_⟩
      · exact HC.out.bd.drew.puts (M' := { M with p1 := M.p1.next }) (tk' := tk) 38 [.int .u8 M.p1.next.d, .bool M.p1.next.l, .int .u8 M.p1.next.s] (by simp) rfl ⟨rfl, rfl, rfl, rfl, rfl⟩ { HC.out.bd.fit with main := HC.out.bd.fit.main, p1 := Pd.next_ok HC.out.bd.fit.p1 }
      · exact Bt.sets HC.out.bd.nd [.int .u8 M.p1.next.d, .bool M.p1.next.l, .int .u8 M.p1.next.s] 38 _ HC.out.bt.drew
end
section
variable {F : Fx} {W : World} {M M' : Mach} {tk tk' : Tk}
theorem eq_g (n : Nat) (a b : Array Value) (w : World) : (binOp .eql 77 (.func (.func n) a b) .nilFunc).run Try.prog w = .ok (.bool false) w := by kernel_rfl
theorem eq_gn (w : World) : (binOp .eql 77 .nilFunc .nilFunc).run Try.prog w = .ok (.bool true) w := by kernel_rfl
theorem Bu.get_nil (vw : Value) (h : Bd F W M tk) : Calls Try.prog 78 #[.agg #[.nilFunc, vw]] W fun e w' => e = .returned (.int .u8 255) ∧ Bd F w' M tk ∧ Bt F W w' := by
  have hn := eq_gn
  have H := hid h
  clear h
  go_enter Try.func78, Try.ntmps78
  go_wp2
  go_ret
  exact ⟨rfl, H.out.over _, Mv.of_below H.out.big (stA (st0 _) _)⟩
theorem Bu.get_rt (vw : Value) (x : Int) (h : Bd F W M tk) (hc : ∀ W, Bd F W M tk → Calls Try.prog 61 #[pt F.g 0] W fun e w' => e = .returned (.int .u8 x) ∧ Bd F w' M' tk ∧ Bt F W w') :
    Calls Try.prog 78 #[.agg #[mval 61 F.g 0, vw]] W fun e w' => e = .returned (.int .u8 x) ∧ Bd F w' M' tk ∧ Bt F W w' := by
  have hn : ∀ w : World, (binOp .eql 77 (mval 61 F.g 0) .nilFunc).run Try.prog w = .ok (.bool false) w := fun w => eq_g _ _ _ w
  have H := hid h
  have HC := hid hc
  clear h hc
  go_enter Try.func78, Try.ntmps78
  go_wp2_with (go_at_call 61; refine (HC.out _ (H.out.over _)).mono ?_; rintro e w1 ⟨rfl, hB, hT⟩)
  go_ret
  exact ⟨rfl, hB, Mv.trans (Mv.of_below H.out.big (stA (st0 _) _)) hT⟩
theorem Bu.get_rb (vw : Value) (x : Int) (h : Bd F W M tk) (hc : ∀ W, Bd F W M tk → Calls Try.prog 65 #[pt F.g 0] W fun e w' => e = .returned (.int .u8 x) ∧ Bd F w' M' tk ∧ Bt F W w') :
    Calls Try.prog 78 #[.agg #[mval 65 F.g 0, vw]] W fun e w' => e = .returned (.int .u8 x) ∧ Bd F w' M' tk ∧ Bt F W w' := by
  have hn : ∀ w : World, (binOp .eql 77 (mval 65 F.g 0) .nilFunc).run Try.prog w = .ok (.bool false) w := fun w => eq_g _ _ _ w
  have H := hid h
  have HC := hid hc
  clear h hc
  go_enter Try.func78, Try.ntmps78
  go_wp2_with (go_at_call 65; refine (HC.out _ (H.out.over _)).mono ?_; rintro e w1 ⟨rfl, hB, hT⟩)
  go_ret
  exact ⟨rfl, hB, Mv.trans (Mv.of_below H.out.big (stA (st0 _) _)) hT⟩
theorem Bu.get_ra (vw : Value) (x : Int) (h : Bd F W M tk) (hc : ∀ W, Bd F W M tk → Calls Try.prog 68 #[pt F.g 0] W fun e w' => e = .returned (.int .u8 x) ∧ Bd F w' M' tk ∧ Bt F W w') :
    Calls Try.prog 78 #[.agg #[mval 68 F.g 0, vw]] W fun e w' => e = .returned (.int .u8 x) ∧ Bd F w' M' tk ∧ Bt F W w' := by
  have hn : ∀ w : World, (binOp .eql 77 (mval 68 F.g 0) .nilFunc).run Try.prog w = .ok (.bool false) w := fun w => eq_g _ _ _ w
  have H := hid h
  have HC := hid hc
  clear h hc
  go_enter Try.func78, Try.ntmps78
  go_wp2_with (go_at_call 68; refine (HC.out _ (H.out.over _)).mono ?_; rintro e w1 ⟨rfl, hB, hT⟩)
  go_ret
  exact ⟨rfl, hB, Mv.trans (Mv.of_below H.out.big (stA (st0 _) _)) hT⟩
theorem Bu.get_tm (vw : Value) (x : Int) (h : Bd F W M tk) (hc : ∀ W, Bd F W M tk → Calls Try.prog 72 #[pt F.g 0] W fun e w' => e = .returned (.int .u8 x) ∧ Bd F w' M' tk ∧ Bt F W w') :
    Calls Try.prog 78 #[.agg #[mval 72 F.g 0, vw]] W fun e w' => e = .returned (.int .u8 x) ∧ Bd F w' M' tk ∧ Bt F W w' := by
  have hn : ∀ w : World, (binOp .eql 77 (mval 72 F.g 0) .nilFunc).run Try.prog w = .ok (.bool false) w := fun w => eq_g _ _ _ w
  have H := hid h
  have HC := hid hc
  clear h hc
  go_enter Try.func78, Try.ntmps78
  go_wp2_with (go_at_call 72; refine (HC.out _ (H.out.over _)).mono ?_; rintro e w1 ⟨rfl, hB, hT⟩)
  go_ret
  exact ⟨rfl, hB, Mv.trans (Mv.of_below H.out.big (stA (st0 _) _)) hT⟩
theorem Bu.get_m1 (vw : Value) (x : Int) (h : Bd F W M tk) (hc : ∀ W, Bd F W M tk → Calls Try.prog 63 #[pt F.E.mb 0] W fun e w' => e = .returned (.int .u8 x) ∧ Bd F w' M' tk ∧ Bt F W w') :
    Calls Try.prog 78 #[.agg #[fval 63 #[pt F.E.mb 0], vw]] W fun e w' => e = .returned (.int .u8 x) ∧ Bd F w' M' tk ∧ Bt F W w' := by
  have hn : ∀ w : World, (binOp .eql 77 (fval 63 #[pt F.E.mb 0]) .nilFunc).run Try.prog w = .ok (.bool false) w := fun w => eq_g _ _ _ w
  have H := hid h
  have HC := hid hc
  clear h hc
  go_enter Try.func78, Try.ntmps78
  go_wp2_with (go_at_call 63; refine (HC.out _ (H.out.over _)).mono ?_; rintro e w1 ⟨rfl, hB, hT⟩)
  go_ret
  exact ⟨rfl, hB, Mv.trans (Mv.of_below H.out.big (stA (st0 _) _)) hT⟩
theorem Bu.get_m2 (vw : Value) (x : Int) (h : Bd F W M tk) (hc : ∀ W, Bd F W M tk → Calls Try.prog 64 #[pt F.E.mb 0] W fun e w' => e = .returned (.int .u8 x) ∧ Bd F w' M' tk ∧ Bt F W w') :
    Calls Try.prog 78 #[.agg #[fval 64 #[pt F.E.mb 0], vw]] W fun e w' => e = .returned (.int .u8 x) ∧ Bd F w' M' tk ∧ Bt F W w' := by
  have hn : ∀ w : World, (binOp .eql 77 (fval 64 #[pt F.E.mb 0]) .nilFunc).run Try.prog w = .ok (.bool false) w := fun w => eq_g _ _ _ w
  have H := hid h
  have HC := hid hc
  clear h hc
  go_enter Try.func78, Try.ntmps78
  go_wp2_with (go_at_call 64; refine (HC.out _ (H.out.over _)).mono ?_; rintro e w1 ⟨rfl, hB, hT⟩)
  go_ret
  exact ⟨rfl, hB, Mv.trans (Mv.of_below H.out.big (stA (st0 _) _)) hT⟩
theorem Bu.get_m3 (vw : Value) (x : Int) (h : Bd F W M tk) (hc : ∀ W, Bd F W M tk → Calls Try.prog 70 #[pt F.E.mb 0] W fun e w' => e = .returned (.int .u8 x) ∧ Bd F w' M' tk ∧ Bt F W w') :
    Calls Try.prog 78 #[.agg #[fval 70 #[pt F.E.mb 0], vw]] W fun e w' => e = .returned (.int .u8 x) ∧ Bd F w' M' tk ∧ Bt F W w' := by
  have hn : ∀ w : World, (binOp .eql 77 (fval 70 #[pt F.E.mb 0]) .nilFunc).run Try.prog w = .ok (.bool false) w := fun w => eq_g _ _ _ w
  have H := hid h
  have HC := hid hc
  clear h hc
  go_enter Try.func78, Try.ntmps78
  go_wp2_with (go_at_call 70; refine (HC.out _ (H.out.over _)).mono ?_; rintro e w1 ⟨rfl, hB, hT⟩)
  go_ret
  exact ⟨rfl, hB, Mv.trans (Mv.of_below H.out.big (stA (st0 _) _)) hT⟩
theorem Bu.get_pr (vw : Value) (x : Int) (q v : Nat) (h : Bd F W M tk) (hc : ∀ W, Bd F W M tk → Calls Try.prog 81 #[pt q 0, pt v 0] W fun e w' => e = .returned (.int .u8 x) ∧ Bd F w' M' tk ∧ Bt F W w') :
    Calls Try.prog 78 #[.agg #[fval 81 #[pt q 0, pt v 0], vw]] W fun e w' => e = .returned (.int .u8 x) ∧ Bd F w' M' tk ∧ Bt F W w' := by
  have hn : ∀ w : World, (binOp .eql 77 (fval 81 #[pt q 0, pt v 0]) .nilFunc).run Try.prog w = .ok (.bool false) w := fun w => eq_g _ _ _ w
  have H := hid h
  have HC := hid hc
  clear h hc
  go_enter Try.func78, Try.ntmps78
  go_wp2_with (go_at_call 81; refine (HC.out _ (H.out.over _)).mono ?_; rintro e w1 ⟨rfl, hB, hT⟩)
  go_ret
  exact ⟨rfl, hB, Mv.trans (Mv.of_below H.out.big (stA (st0 _) _)) hT⟩
theorem getM_all (i : Nat) (hi : i < 32) : GetM F M tk i := by
  intro W h
  have hc : i = 0 ∨ i = 1 ∨ i = 2 ∨ i = 3 ∨ i = 4 ∨ i = 5 ∨ i = 6 ∨ i = 7 ∨ i = 8 ∨ i = 9 ∨ i = 10 ∨ i = 11 ∨ i = 12 ∨ i = 13 ∨ i = 14 ∨ i = 15 ∨ i = 16 ∨ i = 17 ∨ i = 18 ∨ i = 19 ∨ i = 20 ∨ i = 21 ∨ i = 22 ∨ i = 23 ∨ i = 24 ∨ i = 25 ∨ i = 26 ∨ i = 27 ∨ i = 28 ∨ i = 29 ∨ i = 30 ∨ i = 31 := by omega
  rcases hc with rfl | rfl | rfl | rfl | rfl | rfl | rfl | rfl | rfl | rfl | rfl | rfl | rfl | rfl | rfl | rfl | rfl | rfl | rfl | rfl | rfl | rfl | rfl | rfl | rfl | rfl | rfl | rfl | rfl | rfl | rfl | rfl
  · exact Bu.get_pr _ _ _ _ h (fun W h => Bu.pad0_r h)
  · exact Bu.get_pr _ _ _ _ h (fun W h => Bu.pad1_r h)
  · exact Bu.get_nil _ h
  · exact Bu.get_nil _ h
  · exact Bu.get_rt _ _ h (fun W h => Bu.timer_r h)
  · exact Bu.get_nil _ h
  · exact Bu.get_m1 _ _ h (fun W h => Bu.line_r h)
  · exact Bu.get_m2 _ _ h (fun W h => Bu.at_r h)
  · exact Bu.get_rb _ _ h (fun W h => Bu.beam_r h)
  · exact Bu.get_nil _ h
  · exact Bu.get_nil _ h
  · exact Bu.get_nil _ h
  · exact Bu.get_nil _ h
  · exact Bu.get_nil _ h
  · exact Bu.get_nil _ h
  · exact Bu.get_nil _ h
  · exact Bu.get_ra _ _ h (fun W h => Bu.aux_r h)
  · exact Bu.get_m3 _ _ h (fun W h => Bu.mail_r h)
  · exact Bu.get_nil _ h
  · exact Bu.get_nil _ h
  · exact Bu.get_nil _ h
  · exact Bu.get_nil _ h
  · exact Bu.get_nil _ h
  · exact Bu.get_nil _ h
  · exact Bu.get_nil _ h
  · exact Bu.get_nil _ h
  · exact Bu.get_nil _ h
  · exact Bu.get_nil _ h
  · exact Bu.get_nil _ h
  · exact Bu.get_nil _ h
  · exact Bu.get_nil _ h
  · exact Bu.get_nil _ h
theorem getA_all (i : Nat) (hi : i < 32) : GetA F M tk i := by
  intro W h
  unfold Fx.rdA Mach.portA
  by_cases e : i = 24
  · rw [if_pos e, if_pos e]
    exact Bu.get_tm _ _ h (fun W h => Bu.take_r h)
  · rw [if_neg e, if_neg e]
    exact Bu.get_nil _ h
end
end Go.Proofs.Ythooknikfachnaa
