/-
  Parts of a proof, joined.
-/
import Derived.Test.YtdioiilmpjckfaaZt23
namespace Go.Proofs.Ytdioiilmpjckfaa
open Go.ChangeShapes Go.WideShapes Go.ChangeAt Go.RowKit
set_option linter.unusedVariables false
set_option maxRecDepth 100000
theorem take1 {k : Kd} {ks : List Kd} {xs : List Ct} (h : xs.map Ct.kd = k :: ks) : ∃ c t, xs = c :: t ∧ c.kd = k ∧ t.map Ct.kd = ks := by
  cases xs with
  | nil => cases h
  | cons c t =>
    simp only [List.map_cons, List.cons.injEq] at h
    exact ⟨c, t, rfl, h.1, h.2⟩
theorem take0 {xs : List Ct} (h : xs.map Ct.kd = []) : xs = [] := by
  cases xs with
  | nil => rfl
  | cons c t => cases h
set_option maxHeartbeats 3200000 in
theorem dec_of (xs : List Ct) (h : xs.map Ct.kd = svK) : ∃ M : Mach, svX M = xs ∧ M.main.R.length = 8 ∧ M.aux.R.length = 8 := by
  have q0 : xs.map Ct.kd = [.u16, .u16, .u16, .u16, .u16, .u16, .u16, .u16, .u16, .bo, .bo, .bo, .bo, .bo, .bo, .u16, .u16, .u16, .u16, .u16, .u16, .u16, .u16, .u16, .bo, .bo, .bo, .bo, .bo, .bo, .lst, .lst, .lst, .lst, .lst, .u8, .u8, .bo, .u8, .u8, .bo, .u16, .u16, .bo, .bo, .u16, .u16, .u16, .u8, .bo, .u16, .u16, .u16, .u8, .bo, .u16, .u16, .u16, .u8, .bo, .num, .num, .num, .num, .bo, .u16, .u16, .u8, .u8, .bo, .bo, .bo, .num, .num, .num] := h
  clear h
  obtain ⟨c, t0, e, hk, q1⟩ := take1 q0
  subst e
  clear q0
  obtain ⟨a0, rfl⟩ := kd_u16 hk
  clear hk
  obtain ⟨c, t1, e, hk, q2⟩ := take1 q1
  subst e
  clear q1
  obtain ⟨a1, rfl⟩ := kd_u16 hk
  clear hk
  obtain ⟨c, t2, e, hk, q3⟩ := take1 q2
  subst e
  clear q2
  obtain ⟨a2, rfl⟩ := kd_u16 hk
  clear hk
  obtain ⟨c, t3, e, hk, q4⟩ := take1 q3
  subst e
  clear q3
  obtain ⟨a3, rfl⟩ := kd_u16 hk
  clear hk
  obtain ⟨c, t4, e, hk, q5⟩ := take1 q4
  subst e
  clear q4
  obtain ⟨a4, rfl⟩ := kd_u16 hk
  clear hk
  obtain ⟨c, t5, e, hk, q6⟩ := take1 q5
  subst e
  clear q5
  obtain ⟨a5, rfl⟩ := kd_u16 hk
  clear hk
  obtain ⟨c, t6, e, hk, q7⟩ := take1 q6
  subst e
  clear q6
  obtain ⟨a6, rfl⟩ := kd_u16 hk
  clear hk
  obtain ⟨c, t7, e, hk, q8⟩ := take1 q7
  subst e
  clear q7
  obtain ⟨a7, rfl⟩ := kd_u16 hk
  clear hk
  obtain ⟨c, t8, e, hk, q9⟩ := take1 q8
  subst e
  clear q8
  obtain ⟨a8, rfl⟩ := kd_u16 hk
  clear hk
  obtain ⟨c, t9, e, hk, q10⟩ := take1 q9
  subst e
  clear q9
  obtain ⟨a9, rfl⟩ := kd_bo hk
  clear hk
  obtain ⟨c, t10, e, hk, q11⟩ := take1 q10
  subst e
  clear q10
  obtain ⟨a10, rfl⟩ := kd_bo hk
  clear hk
  obtain ⟨c, t11, e, hk, q12⟩ := take1 q11
  subst e
  clear q11
  obtain ⟨a11, rfl⟩ := kd_bo hk
  clear hk
  obtain ⟨c, t12, e, hk, q13⟩ := take1 q12
  subst e
  clear q12
  obtain ⟨a12, rfl⟩ := kd_bo hk
  clear hk
  obtain ⟨c, t13, e, hk, q14⟩ := take1 q13
  subst e
  clear q13
  obtain ⟨a13, rfl⟩ := kd_bo hk
  clear hk
  obtain ⟨c, t14, e, hk, q15⟩ := take1 q14
  subst e
  clear q14
  obtain ⟨a14, rfl⟩ := kd_bo hk
  clear hk
  obtain ⟨c, t15, e, hk, q16⟩ := take1 q15
  subst e
  clear q15
  obtain ⟨a15, rfl⟩ := kd_u16 hk
  clear hk
  obtain ⟨c, t16, e, hk, q17⟩ := take1 q16
  subst e
  clear q16
  obtain ⟨a16, rfl⟩ := kd_u16 hk
  clear hk
  obtain ⟨c, t17, e, hk, q18⟩ := take1 q17
  subst e
  clear q17
  obtain ⟨a17, rfl⟩ := kd_u16 hk
  clear hk
  obtain ⟨c, t18, e, hk, q19⟩ := take1 q18
  subst e
  clear q18
  obtain ⟨a18, rfl⟩ := kd_u16 hk
  clear hk
  obtain ⟨c, t19, e, hk, q20⟩ := take1 q19
  subst e
  clear q19
  obtain ⟨a19, rfl⟩ := kd_u16 hk
  clear hk
  obtain ⟨c, t20, e, hk, q21⟩ := take1 q20
  subst e
  clear q20
  obtain ⟨a20, rfl⟩ := kd_u16 hk
  clear hk
  obtain ⟨c, t21, e, hk, q22⟩ := take1 q21
  subst e
  clear q21
  obtain ⟨a21, rfl⟩ := kd_u16 hk
  clear hk
  obtain ⟨c, t22, e, hk, q23⟩ := take1 q22
  subst e
  clear q22
  obtain ⟨a22, rfl⟩ := kd_u16 hk
  clear hk
  obtain ⟨c, t23, e, hk, q24⟩ := take1 q23
  subst e
  clear q23
  obtain ⟨a23, rfl⟩ := kd_u16 hk
  clear hk
  obtain ⟨c, t24, e, hk, q25⟩ := take1 q24
  subst e
  clear q24
  obtain ⟨a24, rfl⟩ := kd_bo hk
  clear hk
  obtain ⟨c, t25, e, hk, q26⟩ := take1 q25
  subst e
  clear q25
  obtain ⟨a25, rfl⟩ := kd_bo hk
  clear hk
  obtain ⟨c, t26, e, hk, q27⟩ := take1 q26
  subst e
  clear q26
  obtain ⟨a26, rfl⟩ := kd_bo hk
  clear hk
  obtain ⟨c, t27, e, hk, q28⟩ := take1 q27
  subst e
  clear q27
  obtain ⟨a27, rfl⟩ := kd_bo hk
  clear hk
  obtain ⟨c, t28, e, hk, q29⟩ := take1 q28
  subst e
  clear q28
  obtain ⟨a28, rfl⟩ := kd_bo hk
  clear hk
  obtain ⟨c, t29, e, hk, q30⟩ := take1 q29
  subst e
  clear q29
  obtain ⟨a29, rfl⟩ := kd_bo hk
  clear hk
  obtain ⟨c, t30, e, hk, q31⟩ := take1 q30
  subst e
  clear q30
  obtain ⟨a30, rfl⟩ := kd_lst hk
  clear hk
  obtain ⟨c, t31, e, hk, q32⟩ := take1 q31
  subst e
  clear q31
  obtain ⟨a31, rfl⟩ := kd_lst hk
  clear hk
  obtain ⟨c, t32, e, hk, q33⟩ := take1 q32
  subst e
  clear q32
  obtain ⟨a32, rfl⟩ := kd_lst hk
  clear hk
  obtain ⟨c, t33, e, hk, q34⟩ := take1 q33
  subst e
  clear q33
  obtain ⟨a33, rfl⟩ := kd_lst hk
  clear hk
  obtain ⟨c, t34, e, hk, q35⟩ := take1 q34
  subst e
  clear q34
  obtain ⟨a34, rfl⟩ := kd_lst hk
  clear hk
  obtain ⟨c, t35, e, hk, q36⟩ := take1 q35
  subst e
  clear q35
  obtain ⟨a35, rfl⟩ := kd_u8 hk
  clear hk
  obtain ⟨c, t36, e, hk, q37⟩ := take1 q36
  subst e
  clear q36
  obtain ⟨a37, rfl⟩ := kd_u8 hk
  clear hk
  obtain ⟨c, t37, e, hk, q38⟩ := take1 q37
  subst e
  clear q37
  obtain ⟨a36, rfl⟩ := kd_bo hk
  clear hk
  obtain ⟨c, t38, e, hk, q39⟩ := take1 q38
  subst e
  clear q38
  obtain ⟨a38, rfl⟩ := kd_u8 hk
  clear hk
  obtain ⟨c, t39, e, hk, q40⟩ := take1 q39
  subst e
  clear q39
  obtain ⟨a40, rfl⟩ := kd_u8 hk
  clear hk
  obtain ⟨c, t40, e, hk, q41⟩ := take1 q40
  subst e
  clear q40
  obtain ⟨a39, rfl⟩ := kd_bo hk
  clear hk
  obtain ⟨c, t41, e, hk, q42⟩ := take1 q41
  subst e
  clear q41
  obtain ⟨a41, rfl⟩ := kd_u16 hk
  clear hk
  obtain ⟨c, t42, e, hk, q43⟩ := take1 q42
  subst e
  clear q42
  obtain ⟨a42, rfl⟩ := kd_u16 hk
  clear hk
  obtain ⟨c, t43, e, hk, q44⟩ := take1 q43
  subst e
  clear q43
  obtain ⟨a43, rfl⟩ := kd_bo hk
  clear hk
  obtain ⟨c, t44, e, hk, q45⟩ := take1 q44
  subst e
  clear q44
  obtain ⟨a44, rfl⟩ := kd_bo hk
  clear hk
  obtain ⟨c, t45, e, hk, q46⟩ := take1 q45
  subst e
  clear q45
  obtain ⟨a45, rfl⟩ := kd_u16 hk
  clear hk
  obtain ⟨c, t46, e, hk, q47⟩ := take1 q46
  subst e
  clear q46
  obtain ⟨a46, rfl⟩ := kd_u16 hk
  clear hk
  obtain ⟨c, t47, e, hk, q48⟩ := take1 q47
  subst e
  clear q47
  obtain ⟨a49, rfl⟩ := kd_u16 hk
  clear hk
  obtain ⟨c, t48, e, hk, q49⟩ := take1 q48
  subst e
  clear q48
  obtain ⟨a47, rfl⟩ := kd_u8 hk
  clear hk
  obtain ⟨c, t49, e, hk, q50⟩ := take1 q49
  subst e
  clear q49
  obtain ⟨a48, rfl⟩ := kd_bo hk
  clear hk
  obtain ⟨c, t50, e, hk, q51⟩ := take1 q50
  subst e
  clear q50
  obtain ⟨a50, rfl⟩ := kd_u16 hk
  clear hk
  obtain ⟨c, t51, e, hk, q52⟩ := take1 q51
  subst e
  clear q51
  obtain ⟨a51, rfl⟩ := kd_u16 hk
  clear hk
  obtain ⟨c, t52, e, hk, q53⟩ := take1 q52
  subst e
  clear q52
  obtain ⟨a54, rfl⟩ := kd_u16 hk
  clear hk
  obtain ⟨c, t53, e, hk, q54⟩ := take1 q53
  subst e
  clear q53
  obtain ⟨a52, rfl⟩ := kd_u8 hk
  clear hk
  obtain ⟨c, t54, e, hk, q55⟩ := take1 q54
  subst e
  clear q54
  obtain ⟨a53, rfl⟩ := kd_bo hk
  clear hk
  obtain ⟨c, t55, e, hk, q56⟩ := take1 q55
  subst e
  clear q55
  obtain ⟨a55, rfl⟩ := kd_u16 hk
  clear hk
  obtain ⟨c, t56, e, hk, q57⟩ := take1 q56
  subst e
  clear q56
  obtain ⟨a56, rfl⟩ := kd_u16 hk
  clear hk
  obtain ⟨c, t57, e, hk, q58⟩ := take1 q57
  subst e
  clear q57
  obtain ⟨a59, rfl⟩ := kd_u16 hk
  clear hk
  obtain ⟨c, t58, e, hk, q59⟩ := take1 q58
  subst e
  clear q58
  obtain ⟨a57, rfl⟩ := kd_u8 hk
  clear hk
  obtain ⟨c, t59, e, hk, q60⟩ := take1 q59
  subst e
  clear q59
  obtain ⟨a58, rfl⟩ := kd_bo hk
  clear hk
  obtain ⟨c, t60, e, hk, q61⟩ := take1 q60
  subst e
  clear q60
  obtain ⟨a60, rfl⟩ := kd_num hk
  clear hk
  obtain ⟨c, t61, e, hk, q62⟩ := take1 q61
  subst e
  clear q61
  obtain ⟨a61, rfl⟩ := kd_num hk
  clear hk
  obtain ⟨c, t62, e, hk, q63⟩ := take1 q62
  subst e
  clear q62
  obtain ⟨a62, rfl⟩ := kd_num hk
  clear hk
  obtain ⟨c, t63, e, hk, q64⟩ := take1 q63
  subst e
  clear q63
  obtain ⟨a64, rfl⟩ := kd_num hk
  clear hk
  obtain ⟨c, t64, e, hk, q65⟩ := take1 q64
  subst e
  clear q64
  obtain ⟨a63, rfl⟩ := kd_bo hk
  clear hk
  obtain ⟨c, t65, e, hk, q66⟩ := take1 q65
  subst e
  clear q65
  obtain ⟨a65, rfl⟩ := kd_u16 hk
  clear hk
  obtain ⟨c, t66, e, hk, q67⟩ := take1 q66
  subst e
  clear q66
  obtain ⟨a66, rfl⟩ := kd_u16 hk
  clear hk
  obtain ⟨c, t67, e, hk, q68⟩ := take1 q67
  subst e
  clear q67
  obtain ⟨a69, rfl⟩ := kd_u8 hk
  clear hk
  obtain ⟨c, t68, e, hk, q69⟩ := take1 q68
  subst e
  clear q68
  obtain ⟨a70, rfl⟩ := kd_u8 hk
  clear hk
  obtain ⟨c, t69, e, hk, q70⟩ := take1 q69
  subst e
  clear q69
  obtain ⟨a67, rfl⟩ := kd_bo hk
  clear hk
  obtain ⟨c, t70, e, hk, q71⟩ := take1 q70
  subst e
  clear q70
  obtain ⟨a68, rfl⟩ := kd_bo hk
  clear hk
  obtain ⟨c, t71, e, hk, q72⟩ := take1 q71
  subst e
  clear q71
  obtain ⟨a71, rfl⟩ := kd_bo hk
  clear hk
  obtain ⟨c, t72, e, hk, q73⟩ := take1 q72
  subst e
  clear q72
  obtain ⟨a72, rfl⟩ := kd_num hk
  clear hk
  obtain ⟨c, t73, e, hk, q74⟩ := take1 q73
  subst e
  clear q73
  obtain ⟨a73, rfl⟩ := kd_num hk
  clear hk
  obtain ⟨c, t74, e, hk, q75⟩ := take1 q74
  subst e
  clear q74
  obtain ⟨a74, rfl⟩ := kd_num hk
  clear hk
  have e := take0 q75
  subst e
  clear q75
  exact ⟨⟨⟨[a0, a1, a2, a3, a4, a5, a6, a7], a8, a9, a10, a11, a12, a13, a14⟩, ⟨[a15, a16, a17, a18, a19, a20, a21, a22], a23, a24, a25, a26, a27, a28, a29⟩, a30, a31, a32, a33, a34, ⟨a35, a36, a37⟩, ⟨a38, a39, a40⟩, ⟨a41, a42, a43, a44⟩, ⟨⟨a45, a46, a47, a48, a49⟩, ⟨a50, a51, a52, a53, a54⟩, ⟨a55, a56, a57, a58, a59⟩, a60⟩, ⟨a61, a62, a63, a64⟩, a65, a66, a67, a68, a69, a70, a71, a72, a73, a74⟩, rfl, rfl, rfl⟩
theorem ok_of {M : Mach} (h : ∀ c ∈ svX M, c.ok) (h1 : M.main.R.length = 8) (h2 : M.aux.R.length = 8) : M.ok where
  main := ⟨h1, fun x hx => by
      obtain ⟨i, hi⟩ := List.mem_iff_getElem?.1 hx
      have hl := (List.getElem?_eq_some_iff.1 hi).1
      have hg : M.main.r i = x := by
        show M.main.R.getD (Int.toNat (i : Int)) 0 = x
        simp [List.getD, hi]
      have hc : i = 0 ∨ i = 1 ∨ i = 2 ∨ i = 3 ∨ i = 4 ∨ i = 5 ∨ i = 6 ∨ i = 7 := by omega
      rcases hc with rfl | rfl | rfl | rfl | rfl | rfl | rfl | rfl
      · rw [← hg]; exact (h _ (List.mem_of_getElem? (i := 0) (l := svX M) rfl))
      · rw [← hg]; exact (h _ (List.mem_of_getElem? (i := 1) (l := svX M) rfl))
      · rw [← hg]; exact (h _ (List.mem_of_getElem? (i := 2) (l := svX M) rfl))
      · rw [← hg]; exact (h _ (List.mem_of_getElem? (i := 3) (l := svX M) rfl))
      · rw [← hg]; exact (h _ (List.mem_of_getElem? (i := 4) (l := svX M) rfl))
      · rw [← hg]; exact (h _ (List.mem_of_getElem? (i := 5) (l := svX M) rfl))
      · rw [← hg]; exact (h _ (List.mem_of_getElem? (i := 6) (l := svX M) rfl))
      · rw [← hg]; exact (h _ (List.mem_of_getElem? (i := 7) (l := svX M) rfl))
    , (h _ (List.mem_of_getElem? (i := 8) (l := svX M) rfl)).1, (h _ (List.mem_of_getElem? (i := 8) (l := svX M) rfl)).2⟩
  aux := ⟨h2, fun x hx => by
      obtain ⟨i, hi⟩ := List.mem_iff_getElem?.1 hx
      have hl := (List.getElem?_eq_some_iff.1 hi).1
      have hg : M.aux.r i = x := by
        show M.aux.R.getD (Int.toNat (i : Int)) 0 = x
        simp [List.getD, hi]
      have hc : i = 0 ∨ i = 1 ∨ i = 2 ∨ i = 3 ∨ i = 4 ∨ i = 5 ∨ i = 6 ∨ i = 7 := by omega
      rcases hc with rfl | rfl | rfl | rfl | rfl | rfl | rfl | rfl
      · rw [← hg]; exact (h _ (List.mem_of_getElem? (i := 15) (l := svX M) rfl))
      · rw [← hg]; exact (h _ (List.mem_of_getElem? (i := 16) (l := svX M) rfl))
      · rw [← hg]; exact (h _ (List.mem_of_getElem? (i := 17) (l := svX M) rfl))
      · rw [← hg]; exact (h _ (List.mem_of_getElem? (i := 18) (l := svX M) rfl))
      · rw [← hg]; exact (h _ (List.mem_of_getElem? (i := 19) (l := svX M) rfl))
      · rw [← hg]; exact (h _ (List.mem_of_getElem? (i := 20) (l := svX M) rfl))
      · rw [← hg]; exact (h _ (List.mem_of_getElem? (i := 21) (l := svX M) rfl))
      · rw [← hg]; exact (h _ (List.mem_of_getElem? (i := 22) (l := svX M) rfl))
    , (h _ (List.mem_of_getElem? (i := 23) (l := svX M) rfl)).1, (h _ (List.mem_of_getElem? (i := 23) (l := svX M) rfl)).2⟩
  p0 := ⟨(h _ (List.mem_of_getElem? (i := 35) (l := svX M) rfl)), (h _ (List.mem_of_getElem? (i := 36) (l := svX M) rfl))⟩
  p1 := ⟨(h _ (List.mem_of_getElem? (i := 38) (l := svX M) rfl)), (h _ (List.mem_of_getElem? (i := 39) (l := svX M) rfl))⟩
  tr := (h _ (List.mem_of_getElem? (i := 41) (l := svX M) rfl))
  tc := (h _ (List.mem_of_getElem? (i := 42) (l := svX M) rfl))
  s := ⟨⟨(h _ (List.mem_of_getElem? (i := 45) (l := svX M) rfl)), (h _ (List.mem_of_getElem? (i := 46) (l := svX M) rfl)), (h _ (List.mem_of_getElem? (i := 48) (l := svX M) rfl)), (h _ (List.mem_of_getElem? (i := 47) (l := svX M) rfl))⟩, ⟨(h _ (List.mem_of_getElem? (i := 50) (l := svX M) rfl)), (h _ (List.mem_of_getElem? (i := 51) (l := svX M) rfl)), (h _ (List.mem_of_getElem? (i := 53) (l := svX M) rfl)), (h _ (List.mem_of_getElem? (i := 52) (l := svX M) rfl))⟩, ⟨(h _ (List.mem_of_getElem? (i := 55) (l := svX M) rfl)), (h _ (List.mem_of_getElem? (i := 56) (l := svX M) rfl)), (h _ (List.mem_of_getElem? (i := 58) (l := svX M) rfl)), (h _ (List.mem_of_getElem? (i := 57) (l := svX M) rfl))⟩⟩
  fr := (h _ (List.mem_of_getElem? (i := 65) (l := svX M) rfl))
  «to» := (h _ (List.mem_of_getElem? (i := 66) (l := svX M) rfl))
  m0 := (h _ (List.mem_of_getElem? (i := 67) (l := svX M) rfl))
  m1 := (h _ (List.mem_of_getElem? (i := 68) (l := svX M) rfl))
theorem set_all (M : Mach) : setAll (machC zeroM) svI (svX M) = machC M := by kernel_rfl
theorem mem_svX {M : Mach} {c : Ct} (h : c ∈ svX M) : ∃ i, i < 75 ∧ (machC M)[i]? = some c := by
  obtain ⟨j, hj⟩ := List.mem_iff_getElem?.1 h
  have hl := (List.getElem?_eq_some_iff.1 hj).1
  rw [svX, List.length_map] at hl
  obtain ⟨i, hi⟩ : ∃ i, svI[j]? = some i := ⟨_, List.getElem?_eq_getElem hl⟩
  obtain ⟨c', h1, h2⟩ := svX_at (M := M) hi
  have e : c' = c := by rw [h1] at hj; exact Option.some.inj hj
  subst e
  exact ⟨i, svI_lt i (List.mem_of_getElem? hi), h2⟩
theorem reg_ok {c : C.Cpu} (h : c.ok) (i : Nat) : 0 ≤ c.r i ∧ c.r i ≤ 65535 := by
  show 0 ≤ c.R.getD (Int.toNat (i : Int)) 0 ∧ c.R.getD (Int.toNat (i : Int)) 0 ≤ 65535
  rw [Int.toNat_natCast]
  cases hh : c.R[i]? with
  | none => simp [List.getD, hh]
  | some x => simp only [List.getD, hh, Option.getD_some]; exact h.2.1 x (List.mem_of_getElem? hh)
theorem cell_ok {M : Mach} (h : M.fit) : ∀ i, i < 75 → ∀ c, (machC M)[i]? = some c → c.ok
  | 0, _, c, e => by
    have e' := Option.some.inj e
    subst e'
    exact (show Ct.ok _ from reg_ok h.main 0)
  | 1, _, c, e => by
    have e' := Option.some.inj e
    subst e'
    exact (show Ct.ok _ from reg_ok h.main 1)
  | 2, _, c, e => by
    have e' := Option.some.inj e
    subst e'
    exact (show Ct.ok _ from reg_ok h.main 2)
  | 3, _, c, e => by
    have e' := Option.some.inj e
    subst e'
    exact (show Ct.ok _ from reg_ok h.main 3)
  | 4, _, c, e => by
    have e' := Option.some.inj e
    subst e'
    exact (show Ct.ok _ from reg_ok h.main 4)
  | 5, _, c, e => by
    have e' := Option.some.inj e
    subst e'
    exact (show Ct.ok _ from reg_ok h.main 5)
  | 6, _, c, e => by
    have e' := Option.some.inj e
    subst e'
    exact (show Ct.ok _ from reg_ok h.main 6)
  | 7, _, c, e => by
    have e' := Option.some.inj e
    subst e'
    exact (show Ct.ok _ from reg_ok h.main 7)
  | 8, _, c, e => by
    have e' := Option.some.inj e
    subst e'
    exact (show Ct.ok _ from ⟨h.main.2.2.1, h.main.2.2.2⟩)
  | 9, _, c, e => by
    have e' := Option.some.inj e
    subst e'
    exact (show Ct.ok _ from trivial)
  | 10, _, c, e => by
    have e' := Option.some.inj e
    subst e'
    exact (show Ct.ok _ from trivial)
  | 11, _, c, e => by
    have e' := Option.some.inj e
    subst e'
    exact (show Ct.ok _ from trivial)
  | 12, _, c, e => by
    have e' := Option.some.inj e
    subst e'
    exact (show Ct.ok _ from trivial)
  | 13, _, c, e => by
    have e' := Option.some.inj e
    subst e'
    exact (show Ct.ok _ from trivial)
  | 14, _, c, e => by
    have e' := Option.some.inj e
    subst e'
    exact (show Ct.ok _ from trivial)
  | 15, _, c, e => by
    have e' := Option.some.inj e
    subst e'
    exact (show Ct.ok _ from reg_ok h.aux 0)
  | 16, _, c, e => by
    have e' := Option.some.inj e
    subst e'
    exact (show Ct.ok _ from reg_ok h.aux 1)
  | 17, _, c, e => by
    have e' := Option.some.inj e
    subst e'
    exact (show Ct.ok _ from reg_ok h.aux 2)
  | 18, _, c, e => by
    have e' := Option.some.inj e
    subst e'
    exact (show Ct.ok _ from reg_ok h.aux 3)
  | 19, _, c, e => by
    have e' := Option.some.inj e
    subst e'
    exact (show Ct.ok _ from reg_ok h.aux 4)
  | 20, _, c, e => by
    have e' := Option.some.inj e
    subst e'
    exact (show Ct.ok _ from reg_ok h.aux 5)
  | 21, _, c, e => by
    have e' := Option.some.inj e
    subst e'
    exact (show Ct.ok _ from reg_ok h.aux 6)
  | 22, _, c, e => by
    have e' := Option.some.inj e
    subst e'
    exact (show Ct.ok _ from reg_ok h.aux 7)
  | 23, _, c, e => by
    have e' := Option.some.inj e
    subst e'
    exact (show Ct.ok _ from ⟨h.aux.2.2.1, h.aux.2.2.2⟩)
  | 24, _, c, e => by
    have e' := Option.some.inj e
    subst e'
    exact (show Ct.ok _ from trivial)
  | 25, _, c, e => by
    have e' := Option.some.inj e
    subst e'
    exact (show Ct.ok _ from trivial)
  | 26, _, c, e => by
    have e' := Option.some.inj e
    subst e'
    exact (show Ct.ok _ from trivial)
  | 27, _, c, e => by
    have e' := Option.some.inj e
    subst e'
    exact (show Ct.ok _ from trivial)
  | 28, _, c, e => by
    have e' := Option.some.inj e
    subst e'
    exact (show Ct.ok _ from trivial)
  | 29, _, c, e => by
    have e' := Option.some.inj e
    subst e'
    exact (show Ct.ok _ from trivial)
  | 30, _, c, e => by
    have e' := Option.some.inj e
    subst e'
    exact (show Ct.ok _ from by show M.mrom.length ≤ 65535; have := h.mrom; omega)
  | 31, _, c, e => by
    have e' := Option.some.inj e
    subst e'
    exact (show Ct.ok _ from by show M.arom.length ≤ 65535; have := h.arom; omega)
  | 32, _, c, e => by
    have e' := Option.some.inj e
    subst e'
    exact (show Ct.ok _ from by show M.ram.length ≤ 65535; have := h.ram; omega)
  | 33, _, c, e => by
    have e' := Option.some.inj e
    subst e'
    exact (show Ct.ok _ from by show M.own.length ≤ 65535; have := h.own; omega)
  | 34, _, c, e => by
    have e' := Option.some.inj e
    subst e'
    exact (show Ct.ok _ from by show M.video.length ≤ 65535; have := h.video; omega)
  | 35, _, c, e => by
    have e' := Option.some.inj e
    subst e'
    exact (show Ct.ok _ from h.p0.d)
  | 36, _, c, e => by
    have e' := Option.some.inj e
    subst e'
    exact (show Ct.ok _ from trivial)
  | 37, _, c, e => by
    have e' := Option.some.inj e
    subst e'
    exact (show Ct.ok _ from h.p0.s)
  | 38, _, c, e => by
    have e' := Option.some.inj e
    subst e'
    exact (show Ct.ok _ from h.p1.d)
  | 39, _, c, e => by
    have e' := Option.some.inj e
    subst e'
    exact (show Ct.ok _ from trivial)
  | 40, _, c, e => by
    have e' := Option.some.inj e
    subst e'
    exact (show Ct.ok _ from h.p1.s)
  | 41, _, c, e => by
    have e' := Option.some.inj e
    subst e'
    exact (show Ct.ok _ from h.tr)
  | 42, _, c, e => by
    have e' := Option.some.inj e
    subst e'
    exact (show Ct.ok _ from h.tc)
  | 43, _, c, e => by
    have e' := Option.some.inj e
    subst e'
    exact (show Ct.ok _ from trivial)
  | 44, _, c, e => by
    have e' := Option.some.inj e
    subst e'
    exact (show Ct.ok _ from trivial)
  | 45, _, c, e => by
    have e' := Option.some.inj e
    subst e'
    exact (show Ct.ok _ from h.s.a.p)
  | 46, _, c, e => by
    have e' := Option.some.inj e
    subst e'
    exact (show Ct.ok _ from h.s.a.c)
  | 47, _, c, e => by
    have e' := Option.some.inj e
    subst e'
    exact (show Ct.ok _ from h.s.a.l)
  | 48, _, c, e => by
    have e' := Option.some.inj e
    subst e'
    exact (show Ct.ok _ from trivial)
  | 49, _, c, e => by
    have e' := Option.some.inj e
    subst e'
    exact (show Ct.ok _ from h.s.a.n)
  | 50, _, c, e => by
    have e' := Option.some.inj e
    subst e'
    exact (show Ct.ok _ from h.s.b.p)
  | 51, _, c, e => by
    have e' := Option.some.inj e
    subst e'
    exact (show Ct.ok _ from h.s.b.c)
  | 52, _, c, e => by
    have e' := Option.some.inj e
    subst e'
    exact (show Ct.ok _ from h.s.b.l)
  | 53, _, c, e => by
    have e' := Option.some.inj e
    subst e'
    exact (show Ct.ok _ from trivial)
  | 54, _, c, e => by
    have e' := Option.some.inj e
    subst e'
    exact (show Ct.ok _ from h.s.b.n)
  | 55, _, c, e => by
    have e' := Option.some.inj e
    subst e'
    exact (show Ct.ok _ from h.s.c.p)
  | 56, _, c, e => by
    have e' := Option.some.inj e
    subst e'
    exact (show Ct.ok _ from h.s.c.c)
  | 57, _, c, e => by
    have e' := Option.some.inj e
    subst e'
    exact (show Ct.ok _ from h.s.c.l)
  | 58, _, c, e => by
    have e' := Option.some.inj e
    subst e'
    exact (show Ct.ok _ from trivial)
  | 59, _, c, e => by
    have e' := Option.some.inj e
    subst e'
    exact (show Ct.ok _ from h.s.c.n)
  | 60, _, c, e => by
    have e' := Option.some.inj e
    subst e'
    exact (show Ct.ok _ from ⟨h.w.1, by have := h.w.2; omega⟩)
  | 61, _, c, e => by
    have e' := Option.some.inj e
    subst e'
    exact (show Ct.ok _ from ⟨h.b.l0, by have := h.b.l1; omega⟩)
  | 62, _, c, e => by
    have e' := Option.some.inj e
    subst e'
    exact (show Ct.ok _ from ⟨h.b.a0, by have := h.b.a1; omega⟩)
  | 63, _, c, e => by
    have e' := Option.some.inj e
    subst e'
    exact (show Ct.ok _ from trivial)
  | 64, _, c, e => by
    have e' := Option.some.inj e
    subst e'
    exact (show Ct.ok _ from ⟨h.b.f0, by have := h.b.f1; omega⟩)
  | 65, _, c, e => by
    have e' := Option.some.inj e
    subst e'
    exact (show Ct.ok _ from h.fr)
  | 66, _, c, e => by
    have e' := Option.some.inj e
    subst e'
    exact (show Ct.ok _ from h.to)
  | 67, _, c, e => by
    have e' := Option.some.inj e
    subst e'
    exact (show Ct.ok _ from trivial)
  | 68, _, c, e => by
    have e' := Option.some.inj e
    subst e'
    exact (show Ct.ok _ from trivial)
  | 69, _, c, e => by
    have e' := Option.some.inj e
    subst e'
    exact (show Ct.ok _ from h.m0)
  | 70, _, c, e => by
    have e' := Option.some.inj e
    subst e'
    exact (show Ct.ok _ from h.m1)
  | 71, _, c, e => by
    have e' := Option.some.inj e
    subst e'
    exact (show Ct.ok _ from trivial)
  | 72, _, c, e => by
    have e' := Option.some.inj e
    subst e'
    exact (show Ct.ok _ from ⟨h.clock.1, by have := h.clock.2; omega⟩)
  | 73, _, c, e => by
    have e' := Option.some.inj e
    subst e'
    exact (show Ct.ok _ from ⟨h.mready.1, by have := h.mready.2; have := h.clock.2; omega⟩)
  | 74, _, c, e => by
    have e' := Option.some.inj e
    subst e'
    exact (show Ct.ok _ from ⟨h.aready.1, by have := h.aready.2; have := h.clock.2; omega⟩)
  | n + 75, hn, _, _ => by omega
theorem enc_len {M : Mach} (h : M.fit) : 150 < (enc M).length ∧ (enc M).length ≤ 4000 := by
  have e : (enc M).length = (wrL ((svX M).take 30)).length + ((wrL (((svX M).drop 30).take 5)).length + (wrL ((svX M).drop 35)).length) := by
    unfold enc
    rw [← List.length_append, ← List.length_append, ← wrL_app, ← wrL_app]
    rfl
  have e1 : (wrL ((svX M).take 30)).length = 48 := rfl
  have e3 : (wrL ((svX M).drop 35)).length = 74 := rfl
  have e2 : (wrL (((svX M).drop 30).take 5)).length = (2 + M.mrom.length) + ((2 + M.arom.length) + ((2 + M.ram.length) + ((2 + M.own.length) + ((2 + M.video.length) + 0)))) := by
    show (wrL [.lst M.mrom, .lst M.arom, .lst M.ram, .lst M.own, .lst M.video]).length = _
    simp only [wrL, Ct.wr, wW, List.length_append, List.length_cons, List.length_nil]
  have := h.mrom; have := h.arom; have := h.ram; have := h.own; have := h.video
  omega
theorem fit_wok {M : Mach} (h : M.fit) : M.wok := ⟨fun c hc => by
  obtain ⟨i, hi, e⟩ := mem_svX hc
  exact cell_ok h i hi c e, (enc_len h).2⟩
theorem rd_enc {M : Mach} (h : M.wok) (l : List UInt8) : rdL svK (enc M ++ l) = some (svX M, l) := rdL_wr (svX M) l h.1
theorem rd_inv {l l' : List UInt8} {xs : List Ct} (h : rdL svK l = some (xs, l')) : ∃ M : Mach, svX M = xs ∧ M.ok ∧ l = enc M ++ l' := by
  obtain ⟨e, hok, hk⟩ := rdL_inv _ _ _ _ h
  obtain ⟨M, hM, h1, h2⟩ := dec_of xs hk
  subst hM
  exact ⟨M, rfl, ok_of hok h1 h2, e⟩
theorem all2_mach {B : Nat} {W : World} {M : Mach} {L : List Value} (h : All2 B W (machC M) L) : ∃ S : Sl, L = machL M S ∧ ∀ j, j < 5 → SlNw B W (S.get j) (M.byt j) := by
  have z0 := h
  clear h
  obtain ⟨v0, L0, e, hv, z1⟩ := All2.cons z0
  subst e
  clear z0
  have e : v0 = Ct.val _ := hv
  subst e
  clear hv
  obtain ⟨v1, L1, e, hv, z2⟩ := All2.cons z1
  subst e
  clear z1
  have e : v1 = Ct.val _ := hv
  subst e
  clear hv
  obtain ⟨v2, L2, e, hv, z3⟩ := All2.cons z2
  subst e
  clear z2
  have e : v2 = Ct.val _ := hv
  subst e
  clear hv
  obtain ⟨v3, L3, e, hv, z4⟩ := All2.cons z3
  subst e
  clear z3
  have e : v3 = Ct.val _ := hv
  subst e
  clear hv
  obtain ⟨v4, L4, e, hv, z5⟩ := All2.cons z4
  subst e
  clear z4
  have e : v4 = Ct.val _ := hv
  subst e
  clear hv
  obtain ⟨v5, L5, e, hv, z6⟩ := All2.cons z5
  subst e
  clear z5
  have e : v5 = Ct.val _ := hv
  subst e
  clear hv
  obtain ⟨v6, L6, e, hv, z7⟩ := All2.cons z6
  subst e
  clear z6
  have e : v6 = Ct.val _ := hv
  subst e
  clear hv
  obtain ⟨v7, L7, e, hv, z8⟩ := All2.cons z7
  subst e
  clear z7
  have e : v7 = Ct.val _ := hv
  subst e
  clear hv
  obtain ⟨v8, L8, e, hv, z9⟩ := All2.cons z8
  subst e
  clear z8
  have e : v8 = Ct.val _ := hv
  subst e
  clear hv
  obtain ⟨v9, L9, e, hv, z10⟩ := All2.cons z9
  subst e
  clear z9
  have e : v9 = Ct.val _ := hv
  subst e
  clear hv
  obtain ⟨v10, L10, e, hv, z11⟩ := All2.cons z10
  subst e
  clear z10
  have e : v10 = Ct.val _ := hv
  subst e
  clear hv
  obtain ⟨v11, L11, e, hv, z12⟩ := All2.cons z11
  subst e
  clear z11
  have e : v11 = Ct.val _ := hv
  subst e
  clear hv
  obtain ⟨v12, L12, e, hv, z13⟩ := All2.cons z12
  subst e
  clear z12
  have e : v12 = Ct.val _ := hv
  subst e
  clear hv
  obtain ⟨v13, L13, e, hv, z14⟩ := All2.cons z13
  subst e
  clear z13
  have e : v13 = Ct.val _ := hv
  subst e
  clear hv
  obtain ⟨v14, L14, e, hv, z15⟩ := All2.cons z14
  subst e
  clear z14
  have e : v14 = Ct.val _ := hv
  subst e
  clear hv
  obtain ⟨v15, L15, e, hv, z16⟩ := All2.cons z15
  subst e
  clear z15
  have e : v15 = Ct.val _ := hv
  subst e
  clear hv
  obtain ⟨v16, L16, e, hv, z17⟩ := All2.cons z16
  subst e
  clear z16
  have e : v16 = Ct.val _ := hv
  subst e
  clear hv
  obtain ⟨v17, L17, e, hv, z18⟩ := All2.cons z17
  subst e
  clear z17
  have e : v17 = Ct.val _ := hv
  subst e
  clear hv
  obtain ⟨v18, L18, e, hv, z19⟩ := All2.cons z18
  subst e
  clear z18
  have e : v18 = Ct.val _ := hv
  subst e
  clear hv
  obtain ⟨v19, L19, e, hv, z20⟩ := All2.cons z19
  subst e
  clear z19
  have e : v19 = Ct.val _ := hv
  subst e
  clear hv
  obtain ⟨v20, L20, e, hv, z21⟩ := All2.cons z20
  subst e
  clear z20
  have e : v20 = Ct.val _ := hv
  subst e
  clear hv
  obtain ⟨v21, L21, e, hv, z22⟩ := All2.cons z21
  subst e
  clear z21
  have e : v21 = Ct.val _ := hv
  subst e
  clear hv
  obtain ⟨v22, L22, e, hv, z23⟩ := All2.cons z22
  subst e
  clear z22
  have e : v22 = Ct.val _ := hv
  subst e
  clear hv
  obtain ⟨v23, L23, e, hv, z24⟩ := All2.cons z23
  subst e
  clear z23
  have e : v23 = Ct.val _ := hv
  subst e
  clear hv
  obtain ⟨v24, L24, e, hv, z25⟩ := All2.cons z24
  subst e
  clear z24
  have e : v24 = Ct.val _ := hv
  subst e
  clear hv
  obtain ⟨v25, L25, e, hv, z26⟩ := All2.cons z25
  subst e
  clear z25
  have e : v25 = Ct.val _ := hv
  subst e
  clear hv
  obtain ⟨v26, L26, e, hv, z27⟩ := All2.cons z26
  subst e
  clear z26
  have e : v26 = Ct.val _ := hv
  subst e
  clear hv
  obtain ⟨v27, L27, e, hv, z28⟩ := All2.cons z27
  subst e
  clear z27
  have e : v27 = Ct.val _ := hv
  subst e
  clear hv
  obtain ⟨v28, L28, e, hv, z29⟩ := All2.cons z28
  subst e
  clear z28
  have e : v28 = Ct.val _ := hv
  subst e
  clear hv
  obtain ⟨v29, L29, e, hv, z30⟩ := All2.cons z29
  subst e
  clear z29
  have e : v29 = Ct.val _ := hv
  subst e
  clear hv
  obtain ⟨s30, L30, e, hs30, z31⟩ := All2.cons z30
  subst e
  clear z30
  obtain ⟨s31, L31, e, hs31, z32⟩ := All2.cons z31
  subst e
  clear z31
  obtain ⟨s32, L32, e, hs32, z33⟩ := All2.cons z32
  subst e
  clear z32
  obtain ⟨s33, L33, e, hs33, z34⟩ := All2.cons z33
  subst e
  clear z33
  obtain ⟨s34, L34, e, hs34, z35⟩ := All2.cons z34
  subst e
  clear z34
  obtain ⟨v35, L35, e, hv, z36⟩ := All2.cons z35
  subst e
  clear z35
  have e : v35 = Ct.val _ := hv
  subst e
  clear hv
  obtain ⟨v36, L36, e, hv, z37⟩ := All2.cons z36
  subst e
  clear z36
  have e : v36 = Ct.val _ := hv
  subst e
  clear hv
  obtain ⟨v37, L37, e, hv, z38⟩ := All2.cons z37
  subst e
  clear z37
  have e : v37 = Ct.val _ := hv
  subst e
  clear hv
  obtain ⟨v38, L38, e, hv, z39⟩ := All2.cons z38
  subst e
  clear z38
  have e : v38 = Ct.val _ := hv
  subst e
  clear hv
  obtain ⟨v39, L39, e, hv, z40⟩ := All2.cons z39
  subst e
  clear z39
  have e : v39 = Ct.val _ := hv
  subst e
  clear hv
  obtain ⟨v40, L40, e, hv, z41⟩ := All2.cons z40
  subst e
  clear z40
  have e : v40 = Ct.val _ := hv
  subst e
  clear hv
  obtain ⟨v41, L41, e, hv, z42⟩ := All2.cons z41
  subst e
  clear z41
  have e : v41 = Ct.val _ := hv
  subst e
  clear hv
  obtain ⟨v42, L42, e, hv, z43⟩ := All2.cons z42
  subst e
  clear z42
  have e : v42 = Ct.val _ := hv
  subst e
  clear hv
  obtain ⟨v43, L43, e, hv, z44⟩ := All2.cons z43
  subst e
  clear z43
  have e : v43 = Ct.val _ := hv
  subst e
  clear hv
  obtain ⟨v44, L44, e, hv, z45⟩ := All2.cons z44
  subst e
  clear z44
  have e : v44 = Ct.val _ := hv
  subst e
  clear hv
  obtain ⟨v45, L45, e, hv, z46⟩ := All2.cons z45
  subst e
  clear z45
  have e : v45 = Ct.val _ := hv
  subst e
  clear hv
  obtain ⟨v46, L46, e, hv, z47⟩ := All2.cons z46
  subst e
  clear z46
  have e : v46 = Ct.val _ := hv
  subst e
  clear hv
  obtain ⟨v47, L47, e, hv, z48⟩ := All2.cons z47
  subst e
  clear z47
  have e : v47 = Ct.val _ := hv
  subst e
  clear hv
  obtain ⟨v48, L48, e, hv, z49⟩ := All2.cons z48
  subst e
  clear z48
  have e : v48 = Ct.val _ := hv
  subst e
  clear hv
  obtain ⟨v49, L49, e, hv, z50⟩ := All2.cons z49
  subst e
  clear z49
  have e : v49 = Ct.val _ := hv
  subst e
  clear hv
  obtain ⟨v50, L50, e, hv, z51⟩ := All2.cons z50
  subst e
  clear z50
  have e : v50 = Ct.val _ := hv
  subst e
  clear hv
  obtain ⟨v51, L51, e, hv, z52⟩ := All2.cons z51
  subst e
  clear z51
  have e : v51 = Ct.val _ := hv
  subst e
  clear hv
  obtain ⟨v52, L52, e, hv, z53⟩ := All2.cons z52
  subst e
  clear z52
  have e : v52 = Ct.val _ := hv
  subst e
  clear hv
  obtain ⟨v53, L53, e, hv, z54⟩ := All2.cons z53
  subst e
  clear z53
  have e : v53 = Ct.val _ := hv
  subst e
  clear hv
  obtain ⟨v54, L54, e, hv, z55⟩ := All2.cons z54
  subst e
  clear z54
  have e : v54 = Ct.val _ := hv
  subst e
  clear hv
  obtain ⟨v55, L55, e, hv, z56⟩ := All2.cons z55
  subst e
  clear z55
  have e : v55 = Ct.val _ := hv
  subst e
  clear hv
  obtain ⟨v56, L56, e, hv, z57⟩ := All2.cons z56
  subst e
  clear z56
  have e : v56 = Ct.val _ := hv
  subst e
  clear hv
  obtain ⟨v57, L57, e, hv, z58⟩ := All2.cons z57
  subst e
  clear z57
  have e : v57 = Ct.val _ := hv
  subst e
  clear hv
  obtain ⟨v58, L58, e, hv, z59⟩ := All2.cons z58
  subst e
  clear z58
  have e : v58 = Ct.val _ := hv
  subst e
  clear hv
  obtain ⟨v59, L59, e, hv, z60⟩ := All2.cons z59
  subst e
  clear z59
  have e : v59 = Ct.val _ := hv
  subst e
  clear hv
  obtain ⟨v60, L60, e, hv, z61⟩ := All2.cons z60
  subst e
  clear z60
  have e : v60 = Ct.val _ := hv
  subst e
  clear hv
  obtain ⟨v61, L61, e, hv, z62⟩ := All2.cons z61
  subst e
  clear z61
  have e : v61 = Ct.val _ := hv
  subst e
  clear hv
  obtain ⟨v62, L62, e, hv, z63⟩ := All2.cons z62
  subst e
  clear z62
  have e : v62 = Ct.val _ := hv
  subst e
  clear hv
  obtain ⟨v63, L63, e, hv, z64⟩ := All2.cons z63
  subst e
  clear z63
  have e : v63 = Ct.val _ := hv
  subst e
  clear hv
  obtain ⟨v64, L64, e, hv, z65⟩ := All2.cons z64
  subst e
  clear z64
  have e : v64 = Ct.val _ := hv
  subst e
  clear hv
  obtain ⟨v65, L65, e, hv, z66⟩ := All2.cons z65
  subst e
  clear z65
  have e : v65 = Ct.val _ := hv
  subst e
  clear hv
  obtain ⟨v66, L66, e, hv, z67⟩ := All2.cons z66
  subst e
  clear z66
  have e : v66 = Ct.val _ := hv
  subst e
  clear hv
  obtain ⟨v67, L67, e, hv, z68⟩ := All2.cons z67
  subst e
  clear z67
  have e : v67 = Ct.val _ := hv
  subst e
  clear hv
  obtain ⟨v68, L68, e, hv, z69⟩ := All2.cons z68
  subst e
  clear z68
  have e : v68 = Ct.val _ := hv
  subst e
  clear hv
  obtain ⟨v69, L69, e, hv, z70⟩ := All2.cons z69
  subst e
  clear z69
  have e : v69 = Ct.val _ := hv
  subst e
  clear hv
  obtain ⟨v70, L70, e, hv, z71⟩ := All2.cons z70
  subst e
  clear z70
  have e : v70 = Ct.val _ := hv
  subst e
  clear hv
  obtain ⟨v71, L71, e, hv, z72⟩ := All2.cons z71
  subst e
  clear z71
  have e : v71 = Ct.val _ := hv
  subst e
  clear hv
  obtain ⟨v72, L72, e, hv, z73⟩ := All2.cons z72
  subst e
  clear z72
  have e : v72 = Ct.val _ := hv
  subst e
  clear hv
  obtain ⟨v73, L73, e, hv, z74⟩ := All2.cons z73
  subst e
  clear z73
  have e : v73 = Ct.val _ := hv
  subst e
  clear hv
  obtain ⟨v74, L74, e, hv, z75⟩ := All2.cons z74
  subst e
  clear z74
  have e : v74 = Ct.val _ := hv
  subst e
  clear hv
  have hL : L74 = [] := by
    cases L74 with
    | nil => rfl
    | cons v L' => exact z75.elim
  subst hL
  refine ⟨⟨s30, s31, s32, s33, s34⟩, rfl, fun j hj => ?_⟩
  rcases five hj with rfl | rfl | rfl | rfl | rfl
  · exact hs30
  · exact hs31
  · exact hs32
  · exact hs33
  · exact hs34
end Go.Proofs.Ytdioiilmpjckfaa
