/-
  Package bus: read of the other processor; write, by what ports do.
-/
import Derived.Test.YthooknikfachnaaBusD
namespace Go.Proofs.Ythooknikfachnaa
open Go.ChangeShapes Go.WideShapes Go.ChangeAt Go.RowKit
set_option linter.unusedVariables false
set_option maxRecDepth 100000

section
variable {F : Fx} {W : World} {M : Mach} {tk : Tk}
theorem Bu.read_A (h : Bd F W M tk) (a : Int) (ha : 0 ≤ a ∧ a ≤ 65535) (hp : ∀ i, i < 32 → GetA F M tk i) :
    Calls Try.prog 50 #[pt F.g 143, .int .u16 a] W fun e w' => e = .returned (.int .u8 (M.rdA a).1) ∧ Bd F w' (M.rdA a).2 tk ∧ Bt F W w' := by
  unfold Mach.rdA
  cases hP : isPort a
  · have hl := hid (Bu.look_A h a ha)
    have hP' := hid hP
    have H := hid h
    clear h hP hp
    go_enter Try.func50, Try.ntmps50
    go_wp2_with (first
      | (go_at_call 77; refine (Bu.isPort_any a _ ha).mono ?_; rw [hP'.out]; rintro e w1 ⟨rfl, rfl⟩)
      | (go_at_call 79; refine hl.out.mono ?_; rintro e w1 ⟨rfl, rfl⟩))
    go_ret
    exact ⟨rfl, H.out, Bt.refl _ _⟩
  · obtain ⟨n, hn⟩ : ∃ n : Nat, a % 32 = n := ⟨(a % 32).toNat, by omega⟩
    have hn2 : n < 32 := by omega
    have hm : Int.tmod a 32 = n := by rw [Int.tmod_eq_emod_of_nonneg ha.1, hn]
    have hq := hid (hp n hn2 W h)
    have hP' := hid hP
    have e0 : portNo a = n := by unfold portNo; omega
    rw [e0]
    obtain ⟨c0, c1⟩ := h.pA n hn2
    have hg := h.bx.z
    have hn3 : (n : Int) < 32 := by omega
    clear h hP hp e0
    generalize F.rdA n = vr at *
    generalize F.wrA n = vw at *
    go_enter Try.func50, Try.ntmps50
    go_wp2_with (first
      | (go_at_call 77; refine (Bu.isPort_any a _ ha).mono ?_; rw [hP'.out]; rintro e w1 ⟨rfl, rfl⟩)
      | (go_at_call 78; refine hq.out.mono ?_; rintro e w1 ⟨rfl, hB1, hB2⟩))
    go_ret
    exact ⟨rfl, hB1, hB2⟩
set_option maxHeartbeats 800000 in
theorem Bu.write_M (h : Bd F W M tk) (a n : Int) (ha : 0 ≤ a ∧ a ≤ 65535) (hn : 0 ≤ n ∧ n ≤ 255) (hp : ∀ i, i < 32 → PutM F M tk i n) :
    Calls Try.prog 51 #[pt F.g 77, .int .u16 a, .int .u8 n] W fun e w' => e = .returned (.tuple #[]) ∧ Bd F w' (M.wrM a n) (tk.add (tookM a n)) ∧ Bt F W w' := by
  unfold Mach.wrM tookM
  cases hP : isPort a
  · have hm := hid (Bu.mem_M h a ha)
    have e77 := h.at 78 (mval 45 F.g 0) rfl
    have hP' := hid hP
    have H := hid h
    have hg := h.bx.z
    clear h hP hp
    simp only [Bool.false_eq_true, if_false, Tk.add_zero]
    unfold Mach.memM
    unfold Fx.memM at hm
    by_cases h1 : a < 32768
    · rw [if_pos h1]
      rw [if_pos h1] at hm
      go_enter Try.func51, Try.ntmps51
      go_wp2_with (first
        | (go_at_call 77; refine (Bu.isPort_any a _ ha).mono ?_; rw [hP'.out]; rintro e w1 ⟨rfl, rfl⟩)
        | (go_at_call 45; refine hm.out.mono ?_; rintro e w1 ⟨rfl, rfl⟩))
      go_end0
      exact ⟨rfl, H.out, Bt.refl _ _⟩
    · rw [if_neg h1]
      rw [if_neg h1] at hm
      by_cases h2 : a < 49152
      · rw [if_pos h2]
        rw [if_pos h2] at hm
        obtain ⟨ec, ez, ef⟩ := H.out.ramAt ((a - 32768) % 128) (by omega) (by omega)
        go_enter Try.func51, Try.ntmps51
        go_wp2_with (first
          | (go_at_call 77; refine (Bu.isPort_any a _ ha).mono ?_; rw [hP'.out]; rintro e w1 ⟨rfl, rfl⟩)
          | (go_at_call 45; refine hm.out.mono ?_; rintro e w1 ⟨rfl, rfl⟩))
        go_end0
        exact ⟨rfl, H.out.putRam _ n (by omega) (by omega) hn, (Bt.refl _ _).setR H.out.nd _ _⟩
      · rw [if_neg h2]
        rw [if_neg h2] at hm
        by_cases h3 : a < 53248
        · rw [if_pos h3]
          rw [if_pos h3] at hm
          obtain ⟨ec, ez, ef⟩ := H.out.viAt ((a - 49152) % 256) (by omega) (by omega)
          go_enter Try.func51, Try.ntmps51
          go_wp2_with (first
            | (go_at_call 77; refine (Bu.isPort_any a _ ha).mono ?_; rw [hP'.out]; rintro e w1 ⟨rfl, rfl⟩)
            | (go_at_call 45; refine hm.out.mono ?_; rintro e w1 ⟨rfl, rfl⟩))
          go_end0
          exact ⟨rfl, H.out.putVideo _ n (by omega) (by omega) hn, (Bt.refl _ _).setV H.out.nd _ _⟩
        · rw [if_neg h3]
          rw [if_neg h3] at hm
          go_enter Try.func51, Try.ntmps51
          go_wp2_with (first
            | (go_at_call 77; refine (Bu.isPort_any a _ ha).mono ?_; rw [hP'.out]; rintro e w1 ⟨rfl, rfl⟩)
            | (go_at_call 45; refine hm.out.mono ?_; rintro e w1 ⟨rfl, rfl⟩))
          go_end0
          exact ⟨rfl, H.out, Bt.refl _ _⟩
  · obtain ⟨k, hk⟩ : ∃ k : Nat, a % 32 = k := ⟨(a % 32).toNat, by omega⟩
    have hk2 : k < 32 := by omega
    have hm : Int.tmod a 32 = k := by rw [Int.tmod_eq_emod_of_nonneg ha.1, hk]
    have hq := hid (hp k hk2 W h)
    have hP' := hid hP
    have e0 : portNo a = k := by unfold portNo; omega
    simp only [if_true]
    rw [e0]
    obtain ⟨c0, c1⟩ := h.pM k hk2
    have hg := h.bx.z
    have hk3 : (k : Int) < 32 := by omega
    clear h hP hp e0
    generalize F.rdM k = vr at *
    generalize F.wrM k = vw at *
    go_enter Try.func51, Try.ntmps51
    go_wp2_with (first
      | (go_at_call 77; refine (Bu.isPort_any a _ ha).mono ?_; rw [hP'.out]; rintro e w1 ⟨rfl, rfl⟩)
      | (go_at_call 80; refine hq.out.mono ?_; rintro e w1 ⟨rfl, hB1, hB2⟩))
    go_end0
    exact ⟨rfl, hB1, hB2⟩
end
end Go.Proofs.Ythooknikfachnaa
