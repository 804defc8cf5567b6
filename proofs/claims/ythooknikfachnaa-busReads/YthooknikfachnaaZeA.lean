/-
  Joined texts.
-/
import Derived.Test.YthooknikfachnaaBusI
import Derived.Test.YthooknikfachnaaTimB
import Derived.Test.YthooknikfachnaaBusL2
import Derived.Test.YthooknikfachnaaBusH
import Derived.Test.YthooknikfachnaaBusS
import Derived.Test.YthooknikfachnaaBusT
import Derived.Test.YthooknikfachnaaBusN
namespace Go.Proofs.Ythooknikfachnaa
open Go.ChangeShapes Go.WideShapes Go.ChangeAt Go.RowKit
set_option linter.unusedVariables false
set_option maxRecDepth 100000

section
variable {F : Fx} {W : World} {M M' : Mach} {tk : Tk}
theorem and_two : ∀ s : Nat, s < 256 → bits .and .u8 (s : Int) 2 = ((s : Int) / 2 % 2) * 2 := by decide +kernel
theorem and_two' (s : Int) (h : 0 ≤ s ∧ s ≤ 255) : bits .and .u8 s 2 = s / 2 % 2 * 2 := by
  obtain ⟨k, rfl⟩ := Int.eq_ofNat_of_zero_le h.1
  exact and_two k (by omega)
theorem odd_cases (x : Int) : (x % 2 = 0 ∧ odd x = false) ∨ (x % 2 = 1 ∧ odd x = true) := by
  unfold odd
  rcases (by omega : x % 2 = 0 ∨ x % 2 = 1) with h | h
  · exact Or.inl ⟨h, by rw [h]; rfl⟩
  · exact Or.inr ⟨h, by rw [h]; rfl⟩
theorem sel_bd {l : Bool} {a b : Int} (ha : bd16 a) (hb : bd16 b) : bd16 (sel l a b) := sel_ind (P := bd16) l ha hb
theorem TM.put_bd {t : TM} (n : Int) (h1 : bd16 t.r) (h2 : bd16 t.c) : bd16 (t.put n).r ∧ bd16 (t.put n).c := ⟨h1, sel_bd h1 h2⟩
set_option maxHeartbeats 1600000 in
theorem Bu.timer_w (h : Bd F W M tk) (n : Int) (hn : 0 ≤ n ∧ n ≤ 255) : Calls Try.prog 62 #[pt F.g 0, .int .u8 n] W fun e w' => e = .returned (.tuple #[]) ∧ Bd F w' (M.putM 4 n) tk ∧ Bt F W w' := by
  have c0 := h.at 41 (.int .u16 M.t.r) rfl
  have c1 := h.at 42 (.int .u16 M.t.c) rfl
  have c2 := h.at 43 (.bool M.t.on) rfl
  have c3 := h.at 44 (.bool M.t.g) rfl
  have ff := h.bx.f
  have hg := h.bx.z
  have H := hid h
  have hk := TM.put_bd (t := M.t) n h.fit.tr h.fit.tc
  have a1 := and_one' n hn
  have a2 := and_two' n hn
  have e0 : M.putM 4 n = { M with t := M.t.put n } := rfl
  rw [e0]
  have hf : Mach.fit { M with t := M.t.put n } := { H.out.fit with main := H.out.fit.main, tr := hk.1, tc := hk.2 }
  have HF := hid hf
  clear h hf e0
  rcases odd_cases n with ⟨p, q⟩ | ⟨p, q⟩
  all_goals
    rw [p] at a1
    rcases odd_cases (n / 2) with ⟨r, s⟩ | ⟨r, s⟩
  all_goals
    rw [r] at a2
    have HQ := hid q
    have HS := hid s
    clear p q r s
  · go_enter Try.func62, Try.ntmps62
    go_wp2_with (go_at_call 88; refine (set_any _ _ _ _ _ _).mono ?_; rintro e w1 ⟨rfl, hb1⟩; obtain ⟨k1, f1⟩ := bcell hb1; have z2 : F.g < w1.heap.size := lt_old hg hb1 (by simp))
    go_end0
    refine ⟨rfl, ?_, ?_⟩
    · exact (H.out.kept hb1).puts (M' := { M with t := M.t.put n }) (tk' := tk) 41 [.int .u16 M.t.r, .int .u16 (sel false M.t.r M.t.c), .bool false, .bool M.t.g] (by simp) (by unfold TM.put; rw [HQ.out, HS.out]; rfl) ⟨rfl, rfl, rfl, rfl, rfl⟩ HF.out
    · exact Bt.sets H.out.nd [.int .u16 M.t.r, .int .u16 (sel false M.t.r M.t.c), .bool false, .bool M.t.g] 41 _ (Bt.kept (Bt.refl F W) H.out.big hb1)
  · go_enter Try.func62, Try.ntmps62
    go_wp2_with (go_at_call 88; refine (set_any _ _ _ _ _ _).mono ?_; rintro e w1 ⟨rfl, hb1⟩; obtain ⟨k1, f1⟩ := bcell hb1; have z2 : F.g < w1.heap.size := lt_old hg hb1 (by simp))
    go_end0
    refine ⟨rfl, ?_, ?_⟩
    · exact ((H.out.kept hb1).puts (M' := { M with t := ⟨M.t.r, sel false M.t.r M.t.c, false, M.t.g⟩ }) (tk' := tk) 41 [.int .u16 M.t.r, .int .u16 (sel false M.t.r M.t.c), .bool false, .bool M.t.g] (by simp) rfl ⟨rfl, rfl, rfl, rfl, rfl⟩ { H.out.fit with main := H.out.fit.main, tr := H.out.fit.tr, tc := sel_bd (l := false) (a := M.t.r) (b := M.t.c) H.out.fit.tr H.out.fit.tc }).put 44 (.bool false) (by omega) (by unfold TM.put; rw [HQ.out, HS.out]; rfl) ⟨rfl, rfl, rfl, rfl, rfl⟩ HF.out
    · exact Bt.set H.out.nd (Bt.sets H.out.nd [.int .u16 M.t.r, .int .u16 (sel false M.t.r M.t.c), .bool false, .bool M.t.g] 41 _ (Bt.kept (Bt.refl F W) H.out.big hb1)) 44 _
  · go_enter Try.func62, Try.ntmps62
    go_wp2_with (go_at_call 88; refine (set_any _ _ _ _ _ _).mono ?_; rintro e w1 ⟨rfl, hb1⟩; obtain ⟨k1, f1⟩ := bcell hb1; have z2 : F.g < w1.heap.size := lt_old hg hb1 (by simp))
    go_end0
    refine ⟨rfl, ?_, ?_⟩
    · exact (H.out.kept hb1).puts (M' := { M with t := M.t.put n }) (tk' := tk) 41 [.int .u16 M.t.r, .int .u16 (sel true M.t.r M.t.c), .bool true, .bool M.t.g] (by simp) (by unfold TM.put; rw [HQ.out, HS.out]; rfl) ⟨rfl, rfl, rfl, rfl, rfl⟩ HF.out
    · exact Bt.sets H.out.nd [.int .u16 M.t.r, .int .u16 (sel true M.t.r M.t.c), .bool true, .bool M.t.g] 41 _ (Bt.kept (Bt.refl F W) H.out.big hb1)
  · go_enter Try.func62, Try.ntmps62
    go_wp2_with (go_at_call 88; refine (set_any _ _ _ _ _ _).mono ?_; rintro e w1 ⟨rfl, hb1⟩; obtain ⟨k1, f1⟩ := bcell hb1; have z2 : F.g < w1.heap.size := lt_old hg hb1 (by simp))
    go_end0
    refine ⟨rfl, ?_, ?_⟩
    · exact ((H.out.kept hb1).puts (M' := { M with t := ⟨M.t.r, sel true M.t.r M.t.c, true, M.t.g⟩ }) (tk' := tk) 41 [.int .u16 M.t.r, .int .u16 (sel true M.t.r M.t.c), .bool true, .bool M.t.g] (by simp) rfl ⟨rfl, rfl, rfl, rfl, rfl⟩ { H.out.fit with main := H.out.fit.main, tr := H.out.fit.tr, tc := sel_bd (l := true) (a := M.t.r) (b := M.t.c) H.out.fit.tr H.out.fit.tc }).put 44 (.bool false) (by omega) (by unfold TM.put; rw [HQ.out, HS.out]; rfl) ⟨rfl, rfl, rfl, rfl, rfl⟩ HF.out
    · exact Bt.set H.out.nd (Bt.sets H.out.nd [.int .u16 M.t.r, .int .u16 (sel true M.t.r M.t.c), .bool true, .bool M.t.g] 41 _ (Bt.kept (Bt.refl F W) H.out.big hb1)) 44 _
end
section
variable {F : Fx} {W : World} {M M' : Mach} {tk : Tk}
theorem lookA_bd (M : Mach) (a : Int) : 0 ≤ M.lookA a ∧ M.lookA a ≤ 255 := by
  unfold Mach.lookA romAt
  split
  · split
    · exact bget_bd _ _
    · omega
  · split
    · exact bget_bd _ _
    · split
      · split
        · exact bget_bd _ _
        · omega
      · omega
/-- Below 8000 no port is. -/
theorem Bu.reads_A (a : Int) (h0 : 0 ≤ a ∧ a ≤ 1) : ReadsAt F M tk 143 a (M.lookA a) := by
  intro W h
  have hP : isPort a = false := by unfold isPort; exact decide_eq_false (by omega)
  have hl := hid (Bu.look_A h a (by omega))
  have hP' := hid hP
  have H := hid h
  clear h hP
  go_enter Try.func50, Try.ntmps50
  go_wp2_with (first
    | (go_at_call 77; refine (Bu.isPort_any a _ (by omega)).mono ?_; rw [hP'.out]; rintro e w1 ⟨rfl, rfl⟩)
    | (go_at_call 79; refine hl.out.mono ?_; rintro e w1 ⟨rfl, rfl⟩))
  go_ret
  exact ⟨rfl, H.out, Bt.refl _ _⟩
theorem Bu.reads_M (a : Int) (h0 : 0 ≤ a ∧ a ≤ 1) : ReadsAt F M tk 77 a (M.lookM a) := by
  intro W h
  have hP : isPort a = false := by unfold isPort; exact decide_eq_false (by omega)
  have hl := hid (Bu.look_M h a (by omega))
  have hP' := hid hP
  have H := hid h
  clear h hP
  go_enter Try.func50, Try.ntmps50
  go_wp2_with (first
    | (go_at_call 77; refine (Bu.isPort_any a _ (by omega)).mono ?_; rw [hP'.out]; rintro e w1 ⟨rfl, rfl⟩)
    | (go_at_call 79; refine hl.out.mono ?_; rintro e w1 ⟨rfl, rfl⟩))
  go_ret
  exact ⟨rfl, H.out, Bt.refl _ _⟩
theorem grant_fit (h : M.fit) (n : Int) : (M.grant n).fit := { h with main := h.main }
theorem beg_ok (x y : Int) (hx : 0 ≤ x ∧ x ≤ 255) (hy : 0 ≤ y ∧ y ≤ 255) : (beginC x y).ok := by
  refine ⟨rfl, fun z hz => ?_, ?_, ?_⟩
  · have : z = 0 := by
      simp only [beginC, C.Cpu.zero, List.mem_cons, List.not_mem_nil, or_false] at hz
      omega
    omega
  · show 0 ≤ x * 256 + y; omega
  · show x * 256 + y ≤ 65535; omega
set_option maxHeartbeats 1600000 in
theorem Bu.aux_w0 (h : Bd F W M tk) (n : Int) (hn : 0 ≤ n ∧ n ≤ 255) (hh : (M.held && !(odd (n / 2))) = false) : Calls Try.prog 69 #[pt F.g 0, .int .u8 n] W fun e w' => e = .returned (.tuple #[]) ∧ Bd F w' (M.putM 16 n) tk ∧ Bt F W w' := by
  have c0 := h.at 67 (.bool M.granted) rfl
  have c1 := h.at 68 (.bool M.held) rfl
  have ff := h.bx.f
  have hg := h.bx.z
  have H := hid h
  have a1 := and_one' n hn
  have a2 := and_two' n hn
  have e0 : M.putM 16 n = M.grant n := by show M.letGo n = _; unfold Mach.letGo; rw [if_neg (by rw [hh]; decide)]
  rw [e0]
  have hp : Bd F ((W.setCell ⟨F.g, 67, none⟩ (.bool (odd n))).setCell ⟨F.g, 68, none⟩ (.bool (odd (n / 2)))) (M.grant n) tk :=
    (h.put (M' := { M with granted := odd n }) (tk' := tk) 67 _ (by omega) rfl ⟨rfl, rfl, rfl, rfl, rfl⟩ { h.fit with main := h.fit.main }).put 68 _ (by omega) rfl ⟨rfl, rfl, rfl, rfl, rfl⟩ (grant_fit h.fit n)
  have HP := hid hp
  clear h e0 hp
  generalize M.held = hd at *
  rcases odd_cases n with ⟨p, q⟩ | ⟨p, q⟩
  all_goals
    rw [p] at a1
    rw [q] at HP
    rcases odd_cases (n / 2) with ⟨r, s⟩ | ⟨r, s⟩
  all_goals
    rw [r] at a2
    rw [s] at HP hh
    clear p q r s
    cases hd
  all_goals first
    | (exfalso; revert hh; decide)
    | (clear hh
       go_enter Try.func69, Try.ntmps69
       go_wp2
       go_end0
       exact ⟨rfl, HP.out, ((Bt.refl _ _).set H.out.nd _ _).set H.out.nd _ _⟩)
end
section
variable {F : Fx} {W : World} {M M' : Mach} {tk : Tk}
theorem lookM_bd (M : Mach) (a : Int) : 0 ≤ M.lookM a ∧ M.lookM a ≤ 255 := by
  unfold Mach.lookM romAt
  split
  · split
    · exact bget_bd _ _
    · omega
  · split
    · exact bget_bd _ _
    · split
      · exact bget_bd _ _
      · omega
theorem xfer_rest (M : Mach) (k : Nat) : (M.xfer k).fr = M.fr ∧ (M.xfer k).to = M.to ∧ (M.xfer k).mrom = M.mrom ∧ (M.xfer k).ram = M.ram ∧ (M.xfer k).video.length = M.video.length ∧ { M.xfer k with video := M.video } = M := by
  induction k with
  | zero => exact ⟨rfl, rfl, rfl, rfl, rfl, rfl⟩
  | succ k ih =>
    obtain ⟨h1, h2, h3, h4, h5, h6⟩ := ih
    exact ⟨h1, h2, h3, h4, by simp [Mach.xfer, bput_len, h5], h6⟩
/-- What the region of one byte reads. -/
theorem Bd.xf (h : Bd F W M tk) (cap : Nat) (hc : F.S.vi = .slice (some ⟨F.vi, 0, none⟩) 256 cap) : W.cell? ⟨F.g, 34, none⟩ = some (.slice (some ⟨F.vi, 0, none⟩) 256 cap) ∧ W.cell? ⟨F.g, 65, none⟩ = some (.int .u16 M.fr) ∧ W.cell? ⟨F.g, 66, none⟩ = some (.int .u16 M.to) :=
  ⟨by rw [← hc]; exact h.at 34 _ rfl, h.at 65 _ rfl, h.at 66 _ rfl⟩
theorem xf_keep {a b c : Value} {o : Nat} {v : Value} (hne : F.g ≠ F.vi) (h : W.cell? ⟨F.g, 34, none⟩ = some a ∧ W.cell? ⟨F.g, 65, none⟩ = some b ∧ W.cell? ⟨F.g, 66, none⟩ = some c) :
    (W.setCell ⟨F.vi, o, none⟩ v).drew.cell? ⟨F.g, 34, none⟩ = some a ∧ (W.setCell ⟨F.vi, o, none⟩ v).drew.cell? ⟨F.g, 65, none⟩ = some b ∧ (W.setCell ⟨F.vi, o, none⟩ v).drew.cell? ⟨F.g, 66, none⟩ = some c :=
  ⟨keep_far hne h.1, keep_far hne h.2.1, keep_far hne h.2.2⟩
set_option maxHeartbeats 3200000 in
theorem Bu.xfer_w (h : Bd F W M tk) (n : Int) (hn : 0 ≤ n ∧ n ≤ 255) (htk : 0 ≤ tk.n ∧ tk.n ≤ 1000000000000) : Calls Try.prog 67 #[pt F.g 0, .int .u8 n] W fun e w' => e = .returned (.tuple #[]) ∧ Bd F w' (M.putM 14 n) (tk.add (2 * n)) ∧ Bt F W w' := by
  obtain ⟨cap, hcap, _, _⟩ := h.viV
  have HC := hid hcap
  obtain ⟨N, rfl⟩ := Int.eq_ofNat_of_zero_le hn.1
  have hN : N ≤ 255 := by omega
  have H := hid h
  have hfr := h.fit.fr
  have hto := h.fit.to
  have hne := h.nd.d.2.2.1
  clear h hcap
  go_enter Try.func67, Try.ntmps67
  go_wp2
  go_loopw [7] (fun i wr => ∃ k : Nat, k ≤ N ∧ i = .int .u16 k ∧ Bd F wr (M.xfer k) tk ∧ Bt F W wr) (fun i _ => N - (intOf i).toNat)
  case atStart => exact ⟨0, by omega, rfl, H.out, Bt.refl _ _⟩
  case round =>
    obtain ⟨k, hk, rfl, hB, hT⟩ := hrel
    by_cases hlt : k < N
    · have HB := hid hB
      have HT := hid hT
      obtain ⟨r1, r2, _, _, r5, _⟩ := xfer_rest M k
      obtain ⟨c1, c2, c3⟩ := hB.xf cap HC.out
      rw [r1] at c2
      rw [r2] at c3
      have hg := hB.bx.z
      obtain ⟨v1, v2, v3⟩ := hB.viAt ((M.to + k) % 65536 % 256) (by omega) (by omega)
      have hlt2 : (k : Int) < N := by omega
      have hcell : ∀ w : World, Calls Try.prog 56 #[.slice (some ⟨F.vi, 0, none⟩) 256 cap, .int .u16 ((M.to + k) % 65536)] w fun e w' => e = .returned (pt F.vi ((M.to + k) % 65536 % 256).toNat) ∧ w = w' := fun w => Bu.cell_any F.vi 256 cap ((M.to + k) % 65536) w (by omega) (by omega) (by omega)
      have hput := hid (HB.out.drew.putVideo ((M.to + k) % 65536 % 256) ((M.xfer k).lookM ((M.fr + k) % 65536)) (by omega) (by omega) (lookM_bd _ _))
      have hmv := hid (Bt.setV HB.out.nd HT.out.drew ((M.to + k) % 65536 % 256).toNat (.int .u8 ((M.xfer k).lookM ((M.fr + k) % 65536))))
      clear hB hT
      have hlook := hid (Bu.look_M HB.out.drew ((M.fr + k) % 65536) (by omega))
      generalize hj : ((M.to + k) % 65536 % 256).toNat = j at *
      generalize hx : (M.xfer k).lookM ((M.fr + k) % 65536) = x at *
      have HCL := hid hcell
      have HJ := hid hj
      have HXX := hid hx
      clear hj hx hcell
      go_wp2
      go_region_held3 (fun w' => w'.cell? ⟨F.g, 34, none⟩ = some (.slice (some ⟨F.vi, 0, none⟩) 256 cap) ∧ w'.cell? ⟨F.g, 65, none⟩ = some (.int .u16 M.fr) ∧ w'.cell? ⟨F.g, 66, none⟩ = some (.int .u16 M.to))
        ((first | (with_reducible exact ⟨c1, c2, c3⟩) | (with_reducible exact xf_keep hne ⟨c1, c2, c3⟩) | (go_keep; done)))
        ((first
          | (go_at_call 56; refine (HCL.out _).mono ?_; rintro e w1 ⟨rfl, rfl⟩)
          | (go_at_call 79; refine hlook.out.mono ?_; rintro e w1 ⟨rfl, rfl⟩)))
      go_wp2
      go_roundw
      case rel =>
        refine ⟨k + 1, by omega, by go_num, ?_, hmv.out⟩
        have hp := hput.out
        rw [← HXX.out] at hp
        rw [← HXX.out]
        exact hp
      case measure => simp [intOf]; omega
    · obtain rfl : k = N := by omega
      have c1 := hB.at 75 (.int .i64 tk.n) rfl
      have f1 := hB.bx.f 75
      have hg := hB.bx.z
      have HB := hid hB
      have HT := hid hT
      have e0 : M.putM 14 (k : Int) = M.xfer k := by show M.xfer (k : Int).toNat = _; rw [Int.toNat_natCast]
      have E0 := hid e0
      clear hB hT e0
      go_wp2
      go_end0
      rw [E0.out]
      exact ⟨rfl, HB.out.put 75 _ (by omega) rfl ⟨rfl, rfl, rfl, rfl, rfl⟩ HB.out.fit, HT.out.set HB.out.nd 75 _⟩
end
section
variable {F : Fx} {W : World} {M M' : Mach} {tk : Tk}
/-- The other processor's cells, and the clocks'. -/
theorem Bd.auxC (h : Bd F W M tk) : W.cell? ⟨F.g, 15, none⟩ = some (.int .u16 (M.aux.r 0)) ∧ W.cell? ⟨F.g, 16, none⟩ = some (.int .u16 (M.aux.r 1)) ∧ W.cell? ⟨F.g, 17, none⟩ = some (.int .u16 (M.aux.r 2)) ∧ W.cell? ⟨F.g, 18, none⟩ = some (.int .u16 (M.aux.r 3)) ∧ W.cell? ⟨F.g, 19, none⟩ = some (.int .u16 (M.aux.r 4)) ∧ W.cell? ⟨F.g, 20, none⟩ = some (.int .u16 (M.aux.r 5)) ∧ W.cell? ⟨F.g, 21, none⟩ = some (.int .u16 (M.aux.r 6)) ∧ W.cell? ⟨F.g, 22, none⟩ = some (.int .u16 (M.aux.r 7)) ∧ W.cell? ⟨F.g, 23, none⟩ = some (.int .u16 M.aux.PC) ∧ W.cell? ⟨F.g, 24, none⟩ = some (.bool M.aux.Z) ∧ W.cell? ⟨F.g, 25, none⟩ = some (.bool M.aux.N) ∧ W.cell? ⟨F.g, 26, none⟩ = some (.bool M.aux.C) ∧ W.cell? ⟨F.g, 27, none⟩ = some (.bool M.aux.V) ∧ W.cell? ⟨F.g, 28, none⟩ = some (.bool M.aux.May) ∧ W.cell? ⟨F.g, 29, none⟩ = some (.bool M.aux.Waits) ∧ W.cell? ⟨F.g, 72, none⟩ = some (.int .i64 M.clock) ∧ W.cell? ⟨F.g, 74, none⟩ = some (.int .i64 M.aready) ∧ (∀ o, W.frozen? ⟨F.g, o, none⟩ = false) ∧ F.g < W.heap.size :=
  ⟨h.at 15 _ rfl, h.at 16 _ rfl, h.at 17 _ rfl, h.at 18 _ rfl, h.at 19 _ rfl, h.at 20 _ rfl, h.at 21 _ rfl, h.at 22 _ rfl, h.at 23 _ rfl, h.at 24 _ rfl, h.at 25 _ rfl, h.at 26 _ rfl, h.at 27 _ rfl, h.at 28 _ rfl, h.at 29 _ rfl, h.at 72 _ rfl, h.at 74 _ rfl, h.bx.f, h.bx.z⟩
theorem Bu.begin_lit (h : Bd F W M tk) (o : Nat) (x0 x1 : Int) (h0 : ReadsAt F M tk o 0 x0) (h1 : ReadsAt F M tk o 1 x1) (b0 : 0 ≤ x0 ∧ x0 ≤ 255) (b1 : 0 ≤ x1 ∧ x1 ≤ 255) :
    Calls Try.prog 22 #[reachV F.g o] W fun e w' => e = .returned (.agg #[.int .u16 0, .int .u16 0, .int .u16 0, .int .u16 0, .int .u16 0, .int .u16 0, .int .u16 0, .int .u16 0, .int .u16 (x0 * 256 + x1), .bool false, .bool false, .bool false, .bool false, .bool false, .bool false]) ∧ Bd F w' M tk ∧ Bt F W w' := Bu.begin_any h o x0 x1 h0 h1 b0 b1
theorem sets_keep {b i : Nat} {v : Value} : ∀ (vs : List Value) (o : Nat) (w : World), o + vs.length ≤ i → w.cell? ⟨b, i, none⟩ = some v → (w.setCells b o vs).cell? ⟨b, i, none⟩ = some v
  | [], o, w, hl, h => h
  | x :: vs, o, w, hl, h => by
    simp only [List.length_cons] at hl
    exact sets_keep vs (o + 1) _ (by omega) ((World.cell?_setCell_other _ _ _ _ (by intro e; have := congrArg Addr.off e; simp at this; omega)).trans h)
theorem set_off {w : World} {b i j : Nat} {v u : Value} (hij : i ≠ j) (h : w.cell? ⟨b, j, none⟩ = some u) : (w.setCell ⟨b, i, none⟩ v).drew.cell? ⟨b, j, none⟩ = some u :=
  (World.cell?_setCell_other _ _ _ _ (by intro e; exact hij (congrArg Addr.off e))).trans h
theorem nest15 (w : World) (b : Nat) (v0 v1 v2 v3 v4 v5 v6 v7 v8 v9 v10 v11 v12 v13 v14 : Value) : w.setCells b 15 [v0, v1, v2, v3, v4, v5, v6, v7, v8, v9, v10, v11, v12, v13, v14] = (((((((((((((((w.setCell ⟨b, 15, none⟩ v0).setCell ⟨b, 16, none⟩ v1).setCell ⟨b, 17, none⟩ v2).setCell ⟨b, 18, none⟩ v3).setCell ⟨b, 19, none⟩ v4).setCell ⟨b, 20, none⟩ v5).setCell ⟨b, 21, none⟩ v6).setCell ⟨b, 22, none⟩ v7).setCell ⟨b, 23, none⟩ v8).setCell ⟨b, 24, none⟩ v9).setCell ⟨b, 25, none⟩ v10).setCell ⟨b, 26, none⟩ v11).setCell ⟨b, 27, none⟩ v12).setCell ⟨b, 28, none⟩ v13).setCell ⟨b, 29, none⟩ v14) := by simp only [World.setCells, Nat.reduceAdd]
theorem keep15 {w : World} {b : Nat} {u v0 v1 v2 v3 v4 v5 v6 v7 v8 v9 v10 v11 v12 v13 v14 : Value} (h : w.cell? ⟨b, 72, none⟩ = some u) : (((((((((((((((w.setCell ⟨b, 15, none⟩ v0).setCell ⟨b, 16, none⟩ v1).setCell ⟨b, 17, none⟩ v2).setCell ⟨b, 18, none⟩ v3).setCell ⟨b, 19, none⟩ v4).setCell ⟨b, 20, none⟩ v5).setCell ⟨b, 21, none⟩ v6).setCell ⟨b, 22, none⟩ v7).setCell ⟨b, 23, none⟩ v8).setCell ⟨b, 24, none⟩ v9).setCell ⟨b, 25, none⟩ v10).setCell ⟨b, 26, none⟩ v11).setCell ⟨b, 27, none⟩ v12).setCell ⟨b, 28, none⟩ v13).setCell ⟨b, 29, none⟩ v14).cell? ⟨b, 72, none⟩ = some u := by
  rw [← nest15]; exact sets_keep _ 15 w (by simp) h
theorem keep15d {w : World} {b : Nat} {u x v0 v1 v2 v3 v4 v5 v6 v7 v8 v9 v10 v11 v12 v13 v14 : Value} (h : w.cell? ⟨b, 72, none⟩ = some u) : ((((((((((((((((w.setCell ⟨b, 15, none⟩ v0).setCell ⟨b, 16, none⟩ v1).setCell ⟨b, 17, none⟩ v2).setCell ⟨b, 18, none⟩ v3).setCell ⟨b, 19, none⟩ v4).setCell ⟨b, 20, none⟩ v5).setCell ⟨b, 21, none⟩ v6).setCell ⟨b, 22, none⟩ v7).setCell ⟨b, 23, none⟩ v8).setCell ⟨b, 24, none⟩ v9).setCell ⟨b, 25, none⟩ v10).setCell ⟨b, 26, none⟩ v11).setCell ⟨b, 27, none⟩ v12).setCell ⟨b, 28, none⟩ v13).setCell ⟨b, 29, none⟩ v14).setCell ⟨b, 74, none⟩ x).drew.cell? ⟨b, 72, none⟩ = some u := set_off (by omega) (keep15 h)
theorem keep15e {w : World} {b : Nat} {u x v0 v1 v2 v3 v4 v5 v6 v7 v8 v9 v10 v11 v12 v13 v14 : Value} (h : w.cell? ⟨b, 72, none⟩ = some u) : ((((((((((((((((w.setCell ⟨b, 15, none⟩ v0).setCell ⟨b, 16, none⟩ v1).setCell ⟨b, 17, none⟩ v2).setCell ⟨b, 18, none⟩ v3).setCell ⟨b, 19, none⟩ v4).setCell ⟨b, 20, none⟩ v5).setCell ⟨b, 21, none⟩ v6).setCell ⟨b, 22, none⟩ v7).setCell ⟨b, 23, none⟩ v8).setCell ⟨b, 24, none⟩ v9).setCell ⟨b, 25, none⟩ v10).setCell ⟨b, 26, none⟩ v11).setCell ⟨b, 27, none⟩ v12).setCell ⟨b, 28, none⟩ v13).setCell ⟨b, 29, none⟩ v14).setCell ⟨b, 74, none⟩ x).cell? ⟨b, 72, none⟩ = some u := (World.cell?_setCell_other _ _ _ _ (by intro e; have := congrArg Addr.off e; simp at this)).trans (keep15 h)
theorem there15 {w : World} {b : Nat} {u v0 v1 v2 v3 v4 v5 v6 v7 v8 v9 v10 v11 v12 v13 v14 : Value} (h : w.cell? ⟨b, 74, none⟩ = some u) : (((((((((((((((w.setCell ⟨b, 15, none⟩ v0).setCell ⟨b, 16, none⟩ v1).setCell ⟨b, 17, none⟩ v2).setCell ⟨b, 18, none⟩ v3).setCell ⟨b, 19, none⟩ v4).setCell ⟨b, 20, none⟩ v5).setCell ⟨b, 21, none⟩ v6).setCell ⟨b, 22, none⟩ v7).setCell ⟨b, 23, none⟩ v8).setCell ⟨b, 24, none⟩ v9).setCell ⟨b, 25, none⟩ v10).setCell ⟨b, 26, none⟩ v11).setCell ⟨b, 27, none⟩ v12).setCell ⟨b, 28, none⟩ v13).setCell ⟨b, 29, none⟩ v14).cell? ⟨b, 74, none⟩ = some u := by
  rw [← nest15]; exact sets_keep _ 15 w (by simp) h
set_option maxHeartbeats 1600000 in
theorem Bu.aux_w1 (h : Bd F W M tk) (n : Int) (hn : 0 ≤ n ∧ n ≤ 255) (hh : (M.held && !(odd (n / 2))) = true) : Calls Try.prog 69 #[pt F.g 0, .int .u8 n] W fun e w' => e = .returned (.tuple #[]) ∧ Bd F w' (M.putM 16 n) tk ∧ Bt F W w' := by
  have c0 := h.at 67 (.bool M.granted) rfl
  have c1 := h.at 68 (.bool M.held) rfl
  have ff := h.bx.f
  have hg := h.bx.z
  have H := hid h
  have a1 := and_one' n hn
  have a2 := and_two' n hn
  have e0 : M.putM 16 n = { M.grant n with aux := beginC ((M.grant n).lookA 0) ((M.grant n).lookA 1), aready := M.clock } := by show M.letGo n = _; unfold Mach.letGo; rw [if_pos hh]
  rw [e0]
  have hp : Bd F ((W.setCell ⟨F.g, 67, none⟩ (.bool (odd n))).setCell ⟨F.g, 68, none⟩ (.bool (odd (n / 2)))) (M.grant n) tk :=
    (h.put (M' := { M with granted := odd n }) (tk' := tk) 67 _ (by omega) rfl ⟨rfl, rfl, rfl, rfl, rfl⟩ { h.fit with main := h.fit.main }).put 68 _ (by omega) rfl ⟨rfl, rfl, rfl, rfl, rfl⟩ (grant_fit h.fit n)
  have HP := hid hp
  have hcl : (M.grant n).clock = M.clock := rfl
  rw [← hcl]
  have HF := hid h.fit
  clear h e0 hp hcl
  generalize hG : M.grant n = G at *
  have HG := hid hG
  clear hG
  have hd : M.held = true := by revert hh; cases M.held <;> simp
  have ho : odd (n / 2) = false := by revert hh; cases M.held <;> cases odd (n / 2) <;> simp
  rw [hd] at c1
  have r : n / 2 % 2 = 0 := by rcases odd_cases (n / 2) with ⟨p, q⟩ | ⟨p, q⟩; exact p; rw [ho] at q; cases q
  rw [r] at a2
  rw [ho] at HP
  clear hh hd ho r
  rcases odd_cases n with ⟨p, q⟩ | ⟨p, q⟩
  all_goals
    rw [p] at a1
    rw [q] at HP
    clear p q
    go_enter Try.func69, Try.ntmps69
    go_wp2
    refine Pl.cutW (fun Y => Bd F Y G tk ∧ Bt F W Y) ⟨HP.out, ((Bt.refl _ _).set H.out.nd _ _).set H.out.nd _ _⟩ ?_
    rintro Y ⟨hY1, hY2⟩
    have HY1 := hid hY1
    have HY2 := hid hY2
    obtain ⟨_, _, _, _, _, _, _, _, _, _, _, _, _, _, _, cl, ar, yf, yg⟩ := hY1.auxC
    clear hY1 hY2 ff c0 c1 hg
    go_region_held3 (fun w' => w'.cell? ⟨F.g, 72, none⟩ = some (.int .i64 G.clock))
      ((first | (with_reducible exact zcl) | (with_reducible exact ycl) | (with_reducible exact cl) | (with_reducible exact keep15 zcl) | (with_reducible exact keep15d zcl) | (with_reducible exact keep15e zcl) | (go_keep; done)))
      ((first
      | (go_at_call 22; refine (Bu.begin_lit HB1.out 143 _ _ (Bu.reads_A 0 (by omega)) (Bu.reads_A 1 (by omega)) (lookA_bd _ _) (lookA_bd _ _)).mono ?_; rintro e w2 ⟨rfl, hB2, hT2⟩; have HB2 := hid hB2; have HT2 := hid hT2; obtain ⟨z0, z1, z2, z3, z4, z5, z6, z7, z8, z9, z10, z11, z12, z13, z14, zcl, zar, zf, zg⟩ := hB2.auxC; clear hB2 hT2)
      | (go_at_call 54; refine (Bu.aux_any F.g _).mono ?_; rintro e w1 ⟨rfl, hb1⟩; have HB1 := hid (HY1.out.drew.kept hb1); have ycl := HB1.out.at 72 _ rfl; have yg1 := HB1.out.bx.z)))
    all_goals go_wp2
    all_goals go_end0
    all_goals
      have hf : Mach.fit { G with aux := beginC (G.lookA 0) (G.lookA 1) } := Mach.fit.of HB2.out.fit { HB2.out.fit with aux := beg_ok _ _ (lookA_bd _ _) (lookA_bd _ _) } ⟨rfl, rfl, rfl, rfl, rfl⟩ rfl ⟨rfl, rfl, rfl⟩ ⟨rfl, rfl⟩ (Or.inl rfl)
      have hf2 : Mach.fit { G with aux := beginC (G.lookA 0) (G.lookA 1), aready := G.clock } := Mach.fit.of hf { hf with main := hf.main } ⟨rfl, rfl, rfl, rfl, rfl⟩ rfl ⟨rfl, rfl, rfl⟩ ⟨rfl, rfl⟩ (Or.inr rfl)
      have hp := (HB2.out.puts (M' := { G with aux := beginC (G.lookA 0) (G.lookA 1) }) (tk' := tk) 15 (cpuL (beginC (G.lookA 0) (G.lookA 1))) (by simp [cpuL]) (F.putAux G tk _) ⟨rfl, rfl, rfl, rfl, rfl⟩ hf).put (M' := { G with aux := beginC (G.lookA 0) (G.lookA 1), aready := G.clock }) (tk' := tk) 74 (.int .i64 G.clock) (by omega) rfl ⟨rfl, rfl, rfl, rfl, rfl⟩ hf2
      have ht := Bt.set HB2.out.nd (Bt.sets HB2.out.nd (cpuL (beginC (G.lookA 0) (G.lookA 1))) 15 _ (Mv.trans HY2.out (Mv.trans (Bt.below HY1.out (stp (st0 Y).drew hb1)) HT2.out))) 74 (.int .i64 G.clock)
      rw [← begL_eq] at hp ht
      unfold begL at hp ht
      rw [nest15] at hp ht
      exact ⟨rfl, hp, ht⟩
theorem Bu.aux_w (h : Bd F W M tk) (n : Int) (hn : 0 ≤ n ∧ n ≤ 255) : Calls Try.prog 69 #[pt F.g 0, .int .u8 n] W fun e w' => e = .returned (.tuple #[]) ∧ Bd F w' (M.putM 16 n) tk ∧ Bt F W w' := by
  cases hh : (M.held && !(odd (n / 2)))
  · exact Bu.aux_w0 h n hn hh
  · exact Bu.aux_w1 h n hn hh
end
section
variable {F : Fx} {W : World} {M M' : Mach} {tk : Tk}
theorem two_0 (a b c d e f : Value) (w : World) : (Instr.index 29 (.agg #[a, b, c, d, e, f]) (.int .i64 0)).run Try.prog w = .ok (.agg #[a, b, c]) w := by kernel_rfl
theorem two_1 (a b c d e f : Value) (w : World) : (Instr.index 29 (.agg #[a, b, c, d, e, f]) (.int .i64 1)).run Try.prog w = .ok (.agg #[d, e, f]) w := by kernel_rfl
theorem Bd.padC (h : Bd F W M tk) : W.cell? ⟨F.g, 35, none⟩ = some (.int .u8 M.p0.d) ∧ W.cell? ⟨F.g, 36, none⟩ = some (.bool M.p0.l) ∧ W.cell? ⟨F.g, 37, none⟩ = some (.int .u8 M.p0.s) ∧ W.cell? ⟨F.g, 38, none⟩ = some (.int .u8 M.p1.d) ∧ W.cell? ⟨F.g, 39, none⟩ = some (.bool M.p1.l) ∧ W.cell? ⟨F.g, 40, none⟩ = some (.int .u8 M.p1.s) ∧ (∀ o, W.frozen? ⟨F.g, o, none⟩ = false) ∧ F.g < W.heap.size :=
  ⟨h.at 35 _ rfl, h.at 36 _ rfl, h.at 37 _ rfl, h.at 38 _ rfl, h.at 39 _ rfl, h.at 40 _ rfl, h.bx.f, h.bx.z⟩
set_option maxHeartbeats 3200000 in
theorem Bu.pads_w (h : Bd F W M tk) (n : Int) (hn : 0 ≤ n ∧ n ≤ 255) : Calls Try.prog 58 #[pt F.g 0, .int .u8 n] W fun e w' => e = .returned (.tuple #[]) ∧ Bd F w' (M.putM 0 n) tk ∧ Bt F W w' := by
  have i0 := two_0 (.int .u8 M.p0.d) (.bool M.p0.l) (.int .u8 M.p0.s) (.int .u8 M.p1.d) (.bool M.p1.l) (.int .u8 M.p1.s)
  have i1 := two_1 (.int .u8 M.p0.d) (.bool M.p0.l) (.int .u8 M.p0.s) (.int .u8 M.p1.d) (.bool M.p1.l) (.int .u8 M.p1.s)
  have H := hid h
  obtain ⟨c0, c1, c2, c3, c4, c5, ff, hg⟩ := h.padC
  clear h
  go_enter Try.func58, Try.ntmps58
  go_wp2
  go_loopw [11] (fun i wr => Bt F W wr ∧ ((i = .int .i64 0 ∧ Bd F wr M tk) ∨ (i = .int .i64 1 ∧ Bd F wr { M with p0 := M.p0.wr n } tk) ∨ (i = .int .i64 2 ∧ Bd F wr (M.putM 0 n) tk))) (fun i _ => 2 - (intOf i).toNat)
  case atStart => exact ⟨Bt.refl _ _, Or.inl ⟨rfl, H.out⟩⟩
  case round =>
    obtain ⟨hT, hrel⟩ := hrel
    have HT := hid hT
    clear hT c0 c1 c2 c3 c4 c5 ff hg
    rcases hrel with ⟨rfl, hB⟩ | ⟨rfl, hB⟩ | ⟨rfl, hB⟩
    · obtain ⟨c0, c1, c2, c3, c4, c5, ff, hg⟩ := hB.padC
      have HB := hid hB
      clear hB
      go_wp2
      go_region_with (go_at_call 83; refine (write_any _ _ n _ _ hn).mono ?_; rintro e w1 ⟨rfl, hb1⟩; obtain ⟨x0, x1, x2, x3, x4, x5, xf, xg⟩ := ((HB.out.over _).drew.kept hb1).padC)
      all_goals go_wp2
      all_goals
        refine ⟨⟨?_, Or.inr (Or.inl ⟨rfl, ?_⟩)⟩, by decide⟩
        · exact Bt.sets HB.out.nd [.int .u8 M.p0.d, .bool (odd n), .int .u8 (sel (odd n) M.p0.d M.p0.s)] 35 _ (Mv.trans HT.out (Bt.below HB.out (stp (stA (st0 _) _).drew hb1)))
        · exact ((HB.out.over _).drew.kept hb1).puts (M' := { M with p0 := M.p0.wr n }) (tk' := tk) 35 [.int .u8 M.p0.d, .bool (odd n), .int .u8 (sel (odd n) M.p0.d M.p0.s)] (by simp) rfl ⟨rfl, rfl, rfl, rfl, rfl⟩ { HB.out.fit with main := HB.out.fit.main, p0 := Pd.wr_ok HB.out.fit.p0 n }
    · obtain ⟨c0, c1, c2, c3, c4, c5, ff, hg⟩ := hB.padC
      have HB := hid hB
      clear hB
      go_wp2
      go_region_with (go_at_call 83; refine (write_any _ _ n _ _ hn).mono ?_; rintro e w1 ⟨rfl, hb1⟩; obtain ⟨x0, x1, x2, x3, x4, x5, xf, xg⟩ := ((HB.out.over _).drew.kept hb1).padC)
      all_goals go_wp2
      all_goals
        refine ⟨⟨?_, Or.inr (Or.inr ⟨rfl, ?_⟩)⟩, by decide⟩
        · exact Bt.sets HB.out.nd [.int .u8 M.p1.d, .bool (odd n), .int .u8 (sel (odd n) M.p1.d M.p1.s)] 38 _ (Mv.trans HT.out (Bt.below HB.out (stp (stA (st0 _) _).drew hb1)))
        · exact ((HB.out.over _).drew.kept hb1).puts (M' := M.putM 0 n) (tk' := tk) 38 [.int .u8 M.p1.d, .bool (odd n), .int .u8 (sel (odd n) M.p1.d M.p1.s)] (by simp) rfl ⟨rfl, rfl, rfl, rfl, rfl⟩ (show Mach.fit { M with p0 := M.p0.wr n, p1 := M.p1.wr n } from { HB.out.fit with main := HB.out.fit.main, p1 := Pd.wr_ok HB.out.fit.p1 n })
    · have HB := hid hB
      clear hB
      go_wp2
      go_end0
      exact ⟨rfl, HB.out, HT.out⟩
end
section
variable {F : Fx} {W : World} {M M' : Mach} {tk tk' : Tk}
theorem ne_g (n : Nat) (a b : Array Value) (w : World) : (binOp .neq 78 (.func (.func n) a b) .nilFunc).run Try.prog w = .ok (.bool true) w := by kernel_rfl
theorem ne_gn (w : World) : (binOp .neq 78 .nilFunc .nilFunc).run Try.prog w = .ok (.bool false) w := by kernel_rfl
theorem Bu.put_nil (vr : Value) (n : Int) (h : Bd F W M tk) : Calls Try.prog 80 #[.agg #[vr, .nilFunc], .int .u8 n] W fun e w' => e = .returned (.tuple #[]) ∧ Bd F w' M tk ∧ Bt F W w' := by
  have hn := ne_gn
  have H := hid h
  clear h
  go_enter Try.func80, Try.ntmps80
  go_wp2
  go_end0
  exact ⟨rfl, H.out.over _, Mv.of_below H.out.big (stA (st0 _) _)⟩
theorem Bu.put_wp (vr : Value) (n : Int) (h : Bd F W M tk) (hc : ∀ W, Bd F W M tk → Calls Try.prog 58 #[pt F.g 0, .int .u8 n] W fun e w' => e = .returned (.tuple #[]) ∧ Bd F w' M' tk' ∧ Bt F W w') :
    Calls Try.prog 80 #[.agg #[vr, mval 58 F.g 0], .int .u8 n] W fun e w' => e = .returned (.tuple #[]) ∧ Bd F w' M' tk' ∧ Bt F W w' := by
  have hn : ∀ w : World, (binOp .neq 78 (mval 58 F.g 0) .nilFunc).run Try.prog w = .ok (.bool true) w := fun w => ne_g _ _ _ w
  have H := hid h
  have HC := hid hc
  clear h hc
  go_enter Try.func80, Try.ntmps80
  go_wp2_with (go_at_call 58; refine (HC.out _ (H.out.over _)).mono ?_; rintro e w1 ⟨rfl, hB, hT⟩)
  go_end0
  exact ⟨rfl, hB, Mv.trans (Mv.of_below H.out.big (stA (st0 _) _)) hT⟩
theorem Bu.put_wt (vr : Value) (n : Int) (h : Bd F W M tk) (hc : ∀ W, Bd F W M tk → Calls Try.prog 62 #[pt F.g 0, .int .u8 n] W fun e w' => e = .returned (.tuple #[]) ∧ Bd F w' M' tk' ∧ Bt F W w') :
    Calls Try.prog 80 #[.agg #[vr, mval 62 F.g 0], .int .u8 n] W fun e w' => e = .returned (.tuple #[]) ∧ Bd F w' M' tk' ∧ Bt F W w' := by
  have hn : ∀ w : World, (binOp .neq 78 (mval 62 F.g 0) .nilFunc).run Try.prog w = .ok (.bool true) w := fun w => ne_g _ _ _ w
  have H := hid h
  have HC := hid hc
  clear h hc
  go_enter Try.func80, Try.ntmps80
  go_wp2_with (go_at_call 62; refine (HC.out _ (H.out.over _)).mono ?_; rintro e w1 ⟨rfl, hB, hT⟩)
  go_end0
  exact ⟨rfl, hB, Mv.trans (Mv.of_below H.out.big (stA (st0 _) _)) hT⟩
theorem Bu.put_wb (vr : Value) (n : Int) (h : Bd F W M tk) (hc : ∀ W, Bd F W M tk → Calls Try.prog 66 #[pt F.g 0, .int .u8 n] W fun e w' => e = .returned (.tuple #[]) ∧ Bd F w' M' tk' ∧ Bt F W w') :
    Calls Try.prog 80 #[.agg #[vr, mval 66 F.g 0], .int .u8 n] W fun e w' => e = .returned (.tuple #[]) ∧ Bd F w' M' tk' ∧ Bt F W w' := by
  have hn : ∀ w : World, (binOp .neq 78 (mval 66 F.g 0) .nilFunc).run Try.prog w = .ok (.bool true) w := fun w => ne_g _ _ _ w
  have H := hid h
  have HC := hid hc
  clear h hc
  go_enter Try.func80, Try.ntmps80
  go_wp2_with (go_at_call 66; refine (HC.out _ (H.out.over _)).mono ?_; rintro e w1 ⟨rfl, hB, hT⟩)
  go_end0
  exact ⟨rfl, hB, Mv.trans (Mv.of_below H.out.big (stA (st0 _) _)) hT⟩
theorem Bu.put_xf (vr : Value) (n : Int) (h : Bd F W M tk) (hc : ∀ W, Bd F W M tk → Calls Try.prog 67 #[pt F.g 0, .int .u8 n] W fun e w' => e = .returned (.tuple #[]) ∧ Bd F w' M' tk' ∧ Bt F W w') :
    Calls Try.prog 80 #[.agg #[vr, mval 67 F.g 0], .int .u8 n] W fun e w' => e = .returned (.tuple #[]) ∧ Bd F w' M' tk' ∧ Bt F W w' := by
  have hn : ∀ w : World, (binOp .neq 78 (mval 67 F.g 0) .nilFunc).run Try.prog w = .ok (.bool true) w := fun w => ne_g _ _ _ w
  have H := hid h
  have HC := hid hc
  clear h hc
  go_enter Try.func80, Try.ntmps80
  go_wp2_with (go_at_call 67; refine (HC.out _ (H.out.over _)).mono ?_; rintro e w1 ⟨rfl, hB, hT⟩)
  go_end0
  exact ⟨rfl, hB, Mv.trans (Mv.of_below H.out.big (stA (st0 _) _)) hT⟩
theorem Bu.put_wa (vr : Value) (n : Int) (h : Bd F W M tk) (hc : ∀ W, Bd F W M tk → Calls Try.prog 69 #[pt F.g 0, .int .u8 n] W fun e w' => e = .returned (.tuple #[]) ∧ Bd F w' M' tk' ∧ Bt F W w') :
    Calls Try.prog 80 #[.agg #[vr, mval 69 F.g 0], .int .u8 n] W fun e w' => e = .returned (.tuple #[]) ∧ Bd F w' M' tk' ∧ Bt F W w' := by
  have hn : ∀ w : World, (binOp .neq 78 (mval 69 F.g 0) .nilFunc).run Try.prog w = .ok (.bool true) w := fun w => ne_g _ _ _ w
  have H := hid h
  have HC := hid hc
  clear h hc
  go_enter Try.func80, Try.ntmps80
  go_wp2_with (go_at_call 69; refine (HC.out _ (H.out.over _)).mono ?_; rintro e w1 ⟨rfl, hB, hT⟩)
  go_end0
  exact ⟨rfl, hB, Mv.trans (Mv.of_below H.out.big (stA (st0 _) _)) hT⟩
theorem Bu.put_sm (vr : Value) (n : Int) (h : Bd F W M tk) (hc : ∀ W, Bd F W M tk → Calls Try.prog 71 #[pt F.g 0, .int .u8 n] W fun e w' => e = .returned (.tuple #[]) ∧ Bd F w' M' tk' ∧ Bt F W w') :
    Calls Try.prog 80 #[.agg #[vr, mval 71 F.g 0], .int .u8 n] W fun e w' => e = .returned (.tuple #[]) ∧ Bd F w' M' tk' ∧ Bt F W w' := by
  have hn : ∀ w : World, (binOp .neq 78 (mval 71 F.g 0) .nilFunc).run Try.prog w = .ok (.bool true) w := fun w => ne_g _ _ _ w
  have H := hid h
  have HC := hid hc
  clear h hc
  go_enter Try.func80, Try.ntmps80
  go_wp2_with (go_at_call 71; refine (HC.out _ (H.out.over _)).mono ?_; rintro e w1 ⟨rfl, hB, hT⟩)
  go_end0
  exact ⟨rfl, hB, Mv.trans (Mv.of_below H.out.big (stA (st0 _) _)) hT⟩
theorem Bu.put_hi (vr : Value) (n : Int) (q : Nat) (h : Bd F W M tk) (hc : ∀ W, Bd F W M tk → Calls Try.prog 84 #[.int .u8 n, pt q 0] W fun e w' => e = .returned (.tuple #[]) ∧ Bd F w' M' tk' ∧ Bt F W w') :
    Calls Try.prog 80 #[.agg #[vr, fval 84 #[pt q 0]], .int .u8 n] W fun e w' => e = .returned (.tuple #[]) ∧ Bd F w' M' tk' ∧ Bt F W w' := by
  have hn : ∀ w : World, (binOp .neq 78 (fval 84 #[pt q 0]) .nilFunc).run Try.prog w = .ok (.bool true) w := fun w => ne_g _ _ _ w
  have H := hid h
  have HC := hid hc
  clear h hc
  go_enter Try.func80, Try.ntmps80
  go_wp2_with (go_at_call 84; refine (HC.out _ (H.out.over _)).mono ?_; rintro e w1 ⟨rfl, hB, hT⟩)
  go_end0
  exact ⟨rfl, hB, Mv.trans (Mv.of_below H.out.big (stA (st0 _) _)) hT⟩
theorem Bu.put_lo (vr : Value) (n : Int) (q : Nat) (h : Bd F W M tk) (hc : ∀ W, Bd F W M tk → Calls Try.prog 86 #[.int .u8 n, pt q 0] W fun e w' => e = .returned (.tuple #[]) ∧ Bd F w' M' tk' ∧ Bt F W w') :
    Calls Try.prog 80 #[.agg #[vr, fval 86 #[pt q 0]], .int .u8 n] W fun e w' => e = .returned (.tuple #[]) ∧ Bd F w' M' tk' ∧ Bt F W w' := by
  have hn : ∀ w : World, (binOp .neq 78 (fval 86 #[pt q 0]) .nilFunc).run Try.prog w = .ok (.bool true) w := fun w => ne_g _ _ _ w
  have H := hid h
  have HC := hid hc
  clear h hc
  go_enter Try.func80, Try.ntmps80
  go_wp2_with (go_at_call 86; refine (HC.out _ (H.out.over _)).mono ?_; rintro e w1 ⟨rfl, hB, hT⟩)
  go_end0
  exact ⟨rfl, hB, Mv.trans (Mv.of_below H.out.big (stA (st0 _) _)) hT⟩
theorem Bu.put_am (vr : Value) (n : Int) (q : Nat) (h : Bd F W M tk) (hc : ∀ W, Bd F W M tk → Calls Try.prog 73 #[.int .u8 n, pt q 0] W fun e w' => e = .returned (.tuple #[]) ∧ Bd F w' M' tk' ∧ Bt F W w') :
    Calls Try.prog 80 #[.agg #[vr, fval 73 #[pt q 0]], .int .u8 n] W fun e w' => e = .returned (.tuple #[]) ∧ Bd F w' M' tk' ∧ Bt F W w' := by
  have hn : ∀ w : World, (binOp .neq 78 (fval 73 #[pt q 0]) .nilFunc).run Try.prog w = .ok (.bool true) w := fun w => ne_g _ _ _ w
  have H := hid h
  have HC := hid hc
  clear h hc
  go_enter Try.func80, Try.ntmps80
  go_wp2_with (go_at_call 73; refine (HC.out _ (H.out.over _)).mono ?_; rintro e w1 ⟨rfl, hB, hT⟩)
  go_end0
  exact ⟨rfl, hB, Mv.trans (Mv.of_below H.out.big (stA (st0 _) _)) hT⟩
theorem Bu.put_sw (vr : Value) (n : Int) (q v : Nat) {l : List Wt} (h : Bd F W M tk) (hc : ∀ W, Bd F W M tk → Calls Try.prog 89 #[.int .u8 n, pt q 0, pt v 0] W fun e w' => e = .returned (.tuple #[]) ∧ EndA F W w' M' tk l) :
    Calls Try.prog 80 #[.agg #[vr, fval 89 #[pt q 0, pt v 0]], .int .u8 n] W fun e w' => e = .returned (.tuple #[]) ∧ EndA F W w' M' tk l := by
  have hn : ∀ w : World, (binOp .neq 78 (fval 89 #[pt q 0, pt v 0]) .nilFunc).run Try.prog w = .ok (.bool true) w := fun w => ne_g _ _ _ w
  have H := hid h
  have HC := hid hc
  clear h hc
  go_enter Try.func80, Try.ntmps80
  go_wp2_with (go_at_call 89; refine (HC.out _ (H.out.over _)).mono ?_; rintro e w1 ⟨rfl, hB⟩)
  go_end0
  exact ⟨rfl, hB.1, (Bw.of_below H.out.big (stA (st0 _) _)).trans hB.2⟩
theorem putM_fit {k : Nat} {n : Int} (h : M.fit) (hn : 0 ≤ n ∧ n ≤ 255) (hk : k = 2 ∨ k = 3 ∨ k = 10 ∨ k = 11 ∨ k = 12 ∨ k = 13) : (M.putM k n).fit := by
  rcases hk with rfl | rfl | rfl | rfl | rfl | rfl
  · exact (show Mach.fit { M with t := { M.t with r := hiB M.t.r n } } from { h with tr := hiB_bd h.tr hn, tc := h.tc, main := h.main })
  · exact (show Mach.fit { M with t := { M.t with r := loB M.t.r n } } from { h with tr := loB_bd h.tr hn, tc := h.tc, main := h.main })
  · exact (show Mach.fit { M with fr := hiB M.fr n } from { h with fr := hiB_bd h.fr hn, main := h.main })
  · exact (show Mach.fit { M with fr := loB M.fr n } from { h with fr := loB_bd h.fr hn, main := h.main })
  · exact Mach.fit.of h ⟨h.main, h.aux, h.p0, h.p1, h.tr, h.tc, h.s, h.fr, hiB_bd h.to hn, h.m0, h.m1⟩ ⟨rfl, rfl, rfl, rfl, rfl⟩ rfl ⟨rfl, rfl, rfl⟩ ⟨rfl, rfl⟩ (Or.inl rfl)
  · exact Mach.fit.of h ⟨h.main, h.aux, h.p0, h.p1, h.tr, h.tc, h.s, h.fr, loB_bd h.to hn, h.m0, h.m1⟩ ⟨rfl, rfl, rfl, rfl, rfl⟩ rfl ⟨rfl, rfl, rfl⟩ ⟨rfl, rfl⟩ (Or.inl rfl)
theorem takes_no (i : Nat) (n : Int) (h : i ≠ 14) : tk.add (takes i n) = tk := by unfold takes; rw [if_neg h, Tk.add_zero]
set_option maxHeartbeats 1600000 in
theorem putM_all (n : Int) (hn : 0 ≤ n ∧ n ≤ 255) (htk : 0 ≤ tk.n ∧ tk.n ≤ 1000000000000) (i : Nat) (hi : i < 32) : PutM F M tk i n := by
  intro W h
  by_cases e14 : i = 14
  · subst e14
    rw [show tk.add (takes 14 n) = tk.add (2 * n) from rfl]
    exact Bu.put_xf _ _ h (fun W h => Bu.xfer_w h n hn htk)
  rw [takes_no i n e14]
  have hc : i = 0 ∨ i = 1 ∨ i = 2 ∨ i = 3 ∨ i = 4 ∨ i = 5 ∨ i = 6 ∨ i = 7 ∨ i = 8 ∨ i = 9 ∨ i = 10 ∨ i = 11 ∨ i = 12 ∨ i = 13 ∨ i = 15 ∨ i = 16 ∨ i = 17 ∨ i = 18 ∨ i = 19 ∨ i = 20 ∨ i = 21 ∨ i = 22 ∨ i = 23 ∨ i = 24 ∨ i = 25 ∨ i = 26 ∨ i = 27 ∨ i = 28 ∨ i = 29 ∨ i = 30 ∨ i = 31 := by omega
  clear e14 hi
  rcases hc with rfl | rfl | rfl | rfl | rfl | rfl | rfl | rfl | rfl | rfl | rfl | rfl | rfl | rfl | rfl | rfl | rfl | rfl | rfl | rfl | rfl | rfl | rfl | rfl | rfl | rfl | rfl | rfl | rfl | rfl | rfl
  · exact Bu.put_wp _ _ h (fun W h => Bu.pads_w h n hn)
  · exact Bu.put_nil _ _ h
  · exact Bu.put_hi _ _ _ h (fun W h => Bu.high_w h _ 41 M.t.r n .h2 rfl h.fit.tr hn (by omega) rfl ⟨rfl, rfl, rfl, rfl, rfl⟩ (putM_fit h.fit hn (by omega)))
  · exact Bu.put_lo _ _ _ h (fun W h => Bu.low_w h _ 41 M.t.r n .h3 rfl h.fit.tr hn (by omega) rfl ⟨rfl, rfl, rfl, rfl, rfl⟩ (putM_fit h.fit hn (by omega)))
  · exact Bu.put_wt _ _ h (fun W h => Bu.timer_w h n hn)
  · exact Bu.put_nil _ _ h
  · exact Bu.put_nil _ _ h
  · exact Bu.put_nil _ _ h
  · exact Bu.put_wb _ _ h (fun W h => Bu.beam_w h n)
  · exact Bu.put_nil _ _ h
  · exact Bu.put_hi _ _ _ h (fun W h => Bu.high_w h _ 65 M.fr n .h10 rfl h.fit.fr hn (by omega) rfl ⟨rfl, rfl, rfl, rfl, rfl⟩ (putM_fit h.fit hn (by omega)))
  · exact Bu.put_lo _ _ _ h (fun W h => Bu.low_w h _ 65 M.fr n .h11 rfl h.fit.fr hn (by omega) rfl ⟨rfl, rfl, rfl, rfl, rfl⟩ (putM_fit h.fit hn (by omega)))
  · exact Bu.put_hi _ _ _ h (fun W h => Bu.high_w h _ 66 M.to n .h12 rfl h.fit.to hn (by omega) rfl ⟨rfl, rfl, rfl, rfl, rfl⟩ (putM_fit h.fit hn (by omega)))
  · exact Bu.put_lo _ _ _ h (fun W h => Bu.low_w h _ 66 M.to n .h13 rfl h.fit.to hn (by omega) rfl ⟨rfl, rfl, rfl, rfl, rfl⟩ (putM_fit h.fit hn (by omega)))
  · exact Bu.put_nil _ _ h
  · exact Bu.put_wa _ _ h (fun W h => Bu.aux_w h n hn)
  · exact Bu.put_sm _ _ h (fun W h => Bu.mail_w h n hn)
  · exact Bu.put_nil _ _ h
  · exact Bu.put_nil _ _ h
  · exact Bu.put_nil _ _ h
  · exact Bu.put_nil _ _ h
  · exact Bu.put_nil _ _ h
  · exact Bu.put_nil _ _ h
  · exact Bu.put_nil _ _ h
  · exact Bu.put_nil _ _ h
  · exact Bu.put_nil _ _ h
  · exact Bu.put_nil _ _ h
  · exact Bu.put_nil _ _ h
  · exact Bu.put_nil _ _ h
  · exact Bu.put_nil _ _ h
  · exact Bu.put_nil _ _ h
theorem endC {e : Ending} {w' : World} (h : e = .returned (.tuple #[]) ∧ Bd F w' M' tk ∧ Bt F W w') {l : List Wt} (hl : l = []) : e = .returned (.tuple #[]) ∧ (∃ v, Bd F w' M' (tk.app l v)) ∧ Bw F W w' := ⟨h.1, endA h.2.1 hl h.2.2⟩
theorem putA_all (n : Int) (hn : 0 ≤ n ∧ n ≤ 255) (hl : tk.l.length ≤ 1000000000) (i : Nat) (hi : i < 32) : PutA F M tk i n := by
  intro W h
  unfold Fx.wrA Mach.putA shown
  by_cases e : i < 24
  · rw [if_pos e, if_pos e, if_pos e]
    exact Bu.put_sw _ _ _ _ h (fun W h => Bu.sound_w h i e n hn hl)
  · rw [if_neg e, if_neg e, if_neg e]
    by_cases e2 : i = 24
    · rw [if_pos e2, if_pos e2]
      exact (Bu.put_am _ _ _ h (fun W h => Bu.mail_a h n hn)).mono (fun _ _ hx => endC hx rfl)
    · rw [if_neg e2, if_neg e2]
      exact (Bu.put_nil _ _ h).mono (fun _ _ hx => endC hx rfl)
end
end Go.Proofs.Ythooknikfachnaa
