/-
  Package bus: look of the other processor; read and write, by what ports do.
-/
import Derived.Test.YthooknikfachnaaBusC
namespace Go.Proofs.Ythooknikfachnaa
open Go.ChangeShapes Go.WideShapes Go.ChangeAt Go.RowKit
set_option linter.unusedVariables false
set_option maxRecDepth 100000

section
variable {F : Fx} {W : World} {M : Mach} {tk : Tk}
theorem Bd.at2 (h : Bd F W M tk) (n : Nat) (v : Value) (e : F.sideA[n]? = some v) : W.cell? ⟨F.g, 143 + n, none⟩ = some v := by
  have hs : F.sideM.length = 66 := by unfold Fx.sideM; rw [List.length_append, portsN_len]; rfl
  exact h.at _ _ (app_at2 (machL M F.S) [.int .i64 tk.n, tk.v] [] F.sideA F.sideM 75 2 0 66 n v (machL_len M F.S) rfl hs rfl e)
set_option maxHeartbeats 800000 in
theorem Bu.look_A (h : Bd F W M tk) (a : Int) (ha : 0 ≤ a ∧ a ≤ 65535) :
    Calls Try.prog 79 #[pt F.g 143, .int .u16 a] W fun e w' => e = .returned (.int .u8 (M.lookA a)) ∧ W = w' := by
  obtain ⟨ad, cap, _, e31, hr⟩ := h.arV
  have hg := h.bx.z
  have e76 := h.at2 0 (pt F.g 31) rfl
  have e77 := h.at2 1 (mval 47 F.g 0) rfl
  have hmr := h.fit.arom
  have hm := hid (Bu.mem_A h a ha)
  have H := hid h
  clear h
  unfold Mach.lookA romAt
  unfold Fx.memA at hm
  by_cases h1 : a < 32768
  · rw [if_pos h1]
    rw [if_pos h1] at hm
    by_cases h2 : a < M.arom.length
    · rw [if_pos h2]
      obtain ⟨rfl, hb⟩ := hr (by omega)
      have ec := hb.at _ _ (bcs_at _ a ha.1 h2)
      have ez := hb.z
      clear hr
      go_enter Try.func79, Try.ntmps79
      go_wp2
      go_ret
      exact ⟨rfl, rfl⟩
    · rw [if_neg h2]
      clear hr
      go_enter Try.func79, Try.ntmps79
      go_wp2_with (go_at_call 47; refine hm.out.mono ?_; rintro e w1 ⟨rfl, rfl⟩)
      go_ret
      exact ⟨rfl, rfl⟩
  · rw [if_neg h1]
    rw [if_neg h1] at hm
    by_cases h2 : a < 49152
    · rw [if_pos h2]
      rw [if_pos h2] at hm
      obtain ⟨ec, ez, _⟩ := H.out.ownAt ((a - 32768) % 64) (by omega) (by omega)
      clear hr
      go_enter Try.func79, Try.ntmps79
      go_wp2_with (go_at_call 47; refine hm.out.mono ?_; rintro e w1 ⟨rfl, rfl⟩)
      go_ret
      exact ⟨rfl, rfl⟩
    · rw [if_neg h2]
      rw [if_neg h2] at hm
      by_cases h3 : a < 53248
      · rw [if_pos h3]
        rw [if_pos h3] at hm
        obtain ⟨ec, ez, _⟩ := H.out.ramAt ((a - 49152) % 128) (by omega) (by omega)
        clear hr
        cases hgr : M.granted
        · rw [hgr] at hm
          go_enter Try.func79, Try.ntmps79
          go_wp2_with (go_at_call 47; refine hm.out.mono ?_; rintro e w1 ⟨rfl, rfl⟩)
          go_ret
          exact ⟨rfl, rfl⟩
        · rw [hgr] at hm
          go_enter Try.func79, Try.ntmps79
          go_wp2_with (go_at_call 47; refine hm.out.mono ?_; rintro e w1 ⟨rfl, rfl⟩)
          go_ret
          exact ⟨rfl, rfl⟩
      · rw [if_neg h3]
        rw [if_neg h3] at hm
        clear hr
        go_enter Try.func79, Try.ntmps79
        go_wp2_with (go_at_call 47; refine hm.out.mono ?_; rintro e w1 ⟨rfl, rfl⟩)
        go_ret
        exact ⟨rfl, rfl⟩
/-- What reading a port of the main processor does. -/
def GetM (F : Fx) (M : Mach) (tk : Tk) (i : Nat) : Prop := ∀ W, Bd F W M tk → Calls Try.prog 78 #[.agg #[F.rdM i, F.wrM i]] W fun e w' => e = .returned (.int .u8 (M.portM i).1) ∧ Bd F w' (M.portM i).2 tk ∧ Bt F W w'
def GetA (F : Fx) (M : Mach) (tk : Tk) (i : Nat) : Prop := ∀ W, Bd F W M tk → Calls Try.prog 78 #[.agg #[F.rdA i, F.wrA i]] W fun e w' => e = .returned (.int .u8 (M.portA i).1) ∧ Bd F w' (M.portA i).2 tk ∧ Bt F W w'
def PutM (F : Fx) (M : Mach) (tk : Tk) (i : Nat) (n : Int) : Prop := ∀ W, Bd F W M tk → Calls Try.prog 80 #[.agg #[F.rdM i, F.wrM i], .int .u8 n] W fun e w' => e = .returned (.tuple #[]) ∧ Bd F w' (M.putM i n) (tk.add (takes i n)) ∧ Bt F W w'
def PutA (F : Fx) (M : Mach) (tk : Tk) (i : Nat) (n : Int) : Prop := ∀ W, Bd F W M tk → Calls Try.prog 80 #[.agg #[F.rdA i, F.wrA i], .int .u8 n] W fun e w' => e = .returned (.tuple #[]) ∧ (∃ v, Bd F w' (M.putA i n) (tk.app (shown M.clock i n) v)) ∧ Bw F W w'
theorem Bd.pM (h : Bd F W M tk) (i : Nat) (hi : i < 32) : W.cell? ⟨F.g, 79 + i * 2, none⟩ = some (F.rdM i) ∧ W.cell? ⟨F.g, 79 + i * 2 + 1, none⟩ = some (F.wrM i) := by
  obtain ⟨h1, h2⟩ := F.portM M tk i hi
  rw [Nat.mul_comm i 2]
  exact ⟨h.at _ _ h1, h.at _ _ h2⟩
theorem Bd.pA (h : Bd F W M tk) (i : Nat) (hi : i < 32) : W.cell? ⟨F.g, 145 + i * 2, none⟩ = some (F.rdA i) ∧ W.cell? ⟨F.g, 145 + i * 2 + 1, none⟩ = some (F.wrA i) := by
  obtain ⟨h1, h2⟩ := F.portA M tk i hi
  rw [Nat.mul_comm i 2]
  exact ⟨h.at _ _ h1, h.at _ _ h2⟩
theorem Bu.read_M (h : Bd F W M tk) (a : Int) (ha : 0 ≤ a ∧ a ≤ 65535) (hp : ∀ i, i < 32 → GetM F M tk i) :
    Calls Try.prog 50 #[pt F.g 77, .int .u16 a] W fun e w' => e = .returned (.int .u8 (M.rdM a).1) ∧ Bd F w' (M.rdM a).2 tk ∧ Bt F W w' := by
  unfold Mach.rdM
  cases hP : isPort a
  · have hl := hid (Bu.look_M h a ha)
    have hP' := hid hP
    have H := hid h
    clear h hP hp
    go_enter Try.func50, Try.ntmps50
    go_wp2_with (first
      | (go_at_call 77; refine (Bu.isPort_any a _ ha).mono ?_; rw [hP'.out]; rintro e w1 ⟨rfl, rfl⟩)
      | (go_at_call 79; refine hl.out.mono ?_; rintro e w1 ⟨rfl, rfl⟩))
    go_ret
    exact ⟨rfl, H.out, Bt.refl _ _⟩
  · obtain ⟨n, hn⟩ : ∃ n : Nat, a % 32 = n := ⟨(a % 32).toNat, by omega⟩
    have hn2 : n < 32 := by omega
    have hm : Int.tmod a 32 = n := by rw [Int.tmod_eq_emod_of_nonneg ha.1, hn]
    have hq := hid (hp n hn2 W h)
    have hP' := hid hP
    have e0 : portNo a = n := by unfold portNo; omega
    rw [e0]
    obtain ⟨c0, c1⟩ := h.pM n hn2
    have hg := h.bx.z
    have hn3 : (n : Int) < 32 := by omega
    clear h hP hp e0
    generalize F.rdM n = vr at *
    generalize F.wrM n = vw at *
    go_enter Try.func50, Try.ntmps50
    go_wp2_with (first
      | (go_at_call 77; refine (Bu.isPort_any a _ ha).mono ?_; rw [hP'.out]; rintro e w1 ⟨rfl, rfl⟩)
      | (go_at_call 78; refine hq.out.mono ?_; rintro e w1 ⟨rfl, hB1, hB2⟩))
    go_ret
    exact ⟨rfl, hB1, hB2⟩
end
end Go.Proofs.Ythooknikfachnaa
