/-
  Package bus: writing ports: words, the beam, mail.
-/
import Derived.Test.YthooknikfachnaaBusD
import Derived.Deep.RegionWith
namespace Go.Proofs.Ythooknikfachnaa
open Go.ChangeShapes Go.WideShapes Go.ChangeAt Go.RowKit
set_option linter.unusedVariables false
set_option maxRecDepth 100000

section
variable {F : Fx} {W : World} {M M' : Mach} {tk : Tk}
theorem Mach.fit.of {M M' : Mach} (h : M.fit) (hok : M'.ok) (hl : M'.mrom = M.mrom ∧ M'.arom = M.arom ∧ M'.ram.length = M.ram.length ∧ M'.own.length = M.own.length ∧ M'.video.length = M.video.length) (hw : M'.s.w = M.s.w) (hb : M'.b.l = M.b.l ∧ M'.b.a = M.b.a ∧ M'.b.f = M.b.f) (hc : M'.clock = M.clock ∧ M'.mready = M.mready) (ha : M'.aready = M.aready ∨ M'.aready = M.clock) : M'.fit := by
  obtain ⟨l1, l2, l3, l4, l5⟩ := hl
  obtain ⟨b1, b2, b3⟩ := hb
  obtain ⟨c1, c2⟩ := hc
  refine ⟨hok, ?_, ?_, ?_, ?_, ?_, ?_, ?_, ?_, ?_, ?_⟩
  · rw [l1]; exact h.mrom
  · rw [l2]; exact h.arom
  · rw [l3]; exact h.ram
  · rw [l4]; exact h.own
  · rw [l5]; exact h.video
  · rw [hw]; exact h.w
  · rw [b1, b2, b3]; exact h.b
  · rw [c1]; exact h.clock
  · rw [c1, c2]; exact h.mready
  · rw [c1]
    have := h.clock
    rcases ha with e | e
    · rw [e]; exact h.aready
    · rw [e]; omega
theorem hiB_bd {w b : Int} (hw : bd16 w) (hb : 0 ≤ b ∧ b ≤ 255) : bd16 (hiB w b) := by unfold bd16 hiB at *; omega
theorem loB_bd {w b : Int} (hw : bd16 w) (hb : 0 ≤ b ∧ b ≤ 255) : bd16 (loB w b) := by unfold bd16 loB at *; omega
theorem keep_far {W : World} {b o x i : Nat} {v u : Value} (hne : x ≠ b) (h : W.cell? ⟨x, i, none⟩ = some u) : (W.setCell ⟨b, o, none⟩ v).drew.cell? ⟨x, i, none⟩ = some u := (World.cell?_of_block (w := W) (heap_set_far (o := o) (v := v) hne)).trans h
set_option maxHeartbeats 800000 in
theorem Bu.high_w (h : Bd F W M tk) (x o : Nat) (cur n : Int) (hx : F.has x (pt F.g o)) (hc : (F.cells M tk)[o]? = some (.int .u16 cur)) (hcur : bd16 cur) (hn : 0 ≤ n ∧ n ≤ 255) (ho : o < 209)
    (hs : (F.cells M tk).set o (.int .u16 (hiB cur n)) = F.cells M' tk) (hm : M'.mrom = M.mrom ∧ M'.arom = M.arom ∧ M'.ram = M.ram ∧ M'.own = M.own ∧ M'.video = M.video) (hf : M'.fit) :
    Calls Try.prog 84 #[.int .u8 n, pt x 0] W fun e w' => e = .returned (.tuple #[]) ∧ Bd F w' M' tk ∧ Bt F W w' := by
  have c1 := h.at o _ hc
  have f1 := h.bx.f o
  have hg := h.bx.z
  obtain ⟨z1, e1⟩ := h.env _ _ hx
  have hne : x ≠ F.g := fun e => h.nd.env _ _ hx (Or.inl e)
  have H := hid h
  have HS := hid hs
  have HM := hid hm
  clear h hs hm
  go_enter Try.func84, Try.ntmps84
  go_wp2_with (go_at_call 85; refine (bytes_any cur _ hcur).mono ?_; rintro e w1 ⟨rfl, rfl⟩)
  go_region_held3 (fun w' => w'.cell? ⟨x, 0, none⟩ = some (pt F.g o))
    ((first | (with_reducible exact keep_far hne e1) | (go_keep; done)))
    ((go_at_call 76; refine (of_any n (cur % 256) _ hn (by omega)).mono ?_; rintro e w1 ⟨rfl, rfl⟩))
  go_wp2
  go_end0
  exact ⟨rfl, (H.out.put o _ ho HS.out HM.out hf).drew, ((Bt.refl _ _).set H.out.nd _ _).drew⟩
set_option maxHeartbeats 800000 in
theorem Bu.low_w (h : Bd F W M tk) (x o : Nat) (cur n : Int) (hx : F.has x (pt F.g o)) (hc : (F.cells M tk)[o]? = some (.int .u16 cur)) (hcur : bd16 cur) (hn : 0 ≤ n ∧ n ≤ 255) (ho : o < 209)
    (hs : (F.cells M tk).set o (.int .u16 (loB cur n)) = F.cells M' tk) (hm : M'.mrom = M.mrom ∧ M'.arom = M.arom ∧ M'.ram = M.ram ∧ M'.own = M.own ∧ M'.video = M.video) (hf : M'.fit) :
    Calls Try.prog 86 #[.int .u8 n, pt x 0] W fun e w' => e = .returned (.tuple #[]) ∧ Bd F w' M' tk ∧ Bt F W w' := by
  have c1 := h.at o _ hc
  have f1 := h.bx.f o
  have hg := h.bx.z
  obtain ⟨z1, e1⟩ := h.env _ _ hx
  have hne : x ≠ F.g := fun e => h.nd.env _ _ hx (Or.inl e)
  have H := hid h
  have HS := hid hs
  have HM := hid hm
  clear h hs hm
  go_enter Try.func86, Try.ntmps86
  go_wp2_with (go_at_call 85; refine (bytes_any cur _ hcur).mono ?_; rintro e w1 ⟨rfl, rfl⟩)
  go_region_held3 (fun w' => w'.cell? ⟨x, 0, none⟩ = some (pt F.g o))
    ((first | (with_reducible exact keep_far hne e1) | (go_keep; done)))
    ((go_at_call 76; refine (of_any (cur / 256) n _ (by unfold bd16 at hcur; omega) hn).mono ?_; rintro e w1 ⟨rfl, rfl⟩))
  go_wp2
  go_end0
  exact ⟨rfl, (H.out.put o _ ho HS.out HM.out hf).drew, ((Bt.refl _ _).set H.out.nd _ _).drew⟩
theorem Bu.beam_w (h : Bd F W M tk) (n : Int) : Calls Try.prog 66 #[pt F.g 0, .int .u8 n] W fun e w' => e = .returned (.tuple #[]) ∧ Bd F w' (M.putM 8 n) tk ∧ Bt F W w' := by
  have c2 := h.at 63 (.bool M.b.g) rfl
  have c3 := h.bx.f 63
  have hg := h.bx.z
  have H := hid h
  clear h
  go_enter Try.func66, Try.ntmps66
  go_wp2
  go_end0
  exact ⟨rfl, H.out.put 63 _ (by omega) rfl ⟨rfl, rfl, rfl, rfl, rfl⟩ { H.out.fit with main := H.out.fit.main }, (Bt.refl _ _).set H.out.nd _ _⟩
theorem Bu.mail_w (h : Bd F W M tk) (n : Int) (hn : 0 ≤ n ∧ n ≤ 255) : Calls Try.prog 71 #[pt F.g 0, .int .u8 n] W fun e w' => e = .returned (.tuple #[]) ∧ Bd F w' (M.putM 17 n) tk ∧ Bt F W w' := by
  have c2 := h.at 71 (.bool M.rung) rfl
  have c3 := h.bx.f 71
  have c4 := h.at 69 (.int .u8 M.m0) rfl
  have c5 := h.bx.f 69
  have hg := h.bx.z
  have H := hid h
  clear h
  go_enter Try.func71, Try.ntmps71
  go_wp2
  go_end0
  have hq : Mach.fit { M with m0 := n } := { H.out.fit with main := H.out.fit.main, m0 := hn }
  exact ⟨rfl, (H.out.put (M' := { M with m0 := n }) (tk' := tk) 69 _ (by omega) rfl ⟨rfl, rfl, rfl, rfl, rfl⟩ hq).put 71 _ (by omega) rfl ⟨rfl, rfl, rfl, rfl, rfl⟩ { hq with main := hq.main }, ((Bt.refl _ _).set H.out.nd _ _).set H.out.nd _ _⟩
theorem Bu.mail_a (h : Bd F W M tk) (n : Int) (hn : 0 ≤ n ∧ n ≤ 255) : Calls Try.prog 73 #[.int .u8 n, pt F.E.ab 0] W fun e w' => e = .returned (.tuple #[]) ∧ Bd F w' { M with m1 := n } tk ∧ Bt F W w' := by
  have c2 := h.at 70 (.int .u8 M.m1) rfl
  have c3 := h.bx.f 70
  have hg := h.bx.z
  obtain ⟨z1, e1⟩ := h.env _ _ .ab
  have H := hid h
  clear h
  go_enter Try.func73, Try.ntmps73
  go_wp2
  go_end0
  exact ⟨rfl, H.out.put 70 _ (by omega) rfl ⟨rfl, rfl, rfl, rfl, rfl⟩ { H.out.fit with main := H.out.fit.main, m1 := hn }, (Bt.refl _ _).set H.out.nd _ _⟩
end
end Go.Proofs.Ythooknikfachnaa
