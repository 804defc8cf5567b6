/-
  Parts of a proof, joined.
-/
import Derived.Test.YtdioiilmpjckfaaZt02
import Derived.Deep.RegionWith
namespace Go.Proofs.Ytdioiilmpjckfaa
open Go.ChangeShapes Go.WideShapes Go.ChangeAt Go.RowKit
set_option linter.unusedVariables false
set_option maxRecDepth 100000
def Fx.memM (F : Fx) (a : Int) : Value := if a < 32768 then .pointer none else if a < 49152 then pt F.ra ((a - 32768) % 128).toNat else if a < 53248 then pt F.vi ((a - 49152) % 256).toNat else .pointer none
def Fx.memA (F : Fx) (M : Mach) (a : Int) : Value := if a < 32768 then .pointer none else if a < 49152 then pt F.ow ((a - 32768) % 64).toNat else if a < 53248 then (if M.granted then pt F.ra ((a - 49152) % 128).toNat else .pointer none) else .pointer none
section
variable {F : Fx} {W : World} {M : Mach} {tk : Tk}
theorem Bd.ramV (h : Bd F W M tk) : ∃ cap, F.S.ra = .slice (some ⟨F.ra, 0, none⟩) 128 cap ∧ W.cell? ⟨F.g, 32, none⟩ = some (.slice (some ⟨F.ra, 0, none⟩) 128 cap) ∧ Bx W F.ra (bcs M.ram) := by
  obtain ⟨cap, h1, _, h3⟩ := h.ra.some (by rw [h.fit.ram]; omega)
  rw [h.fit.ram] at h1
  exact ⟨cap, h1, by rw [← h1]; exact h.at 32 _ rfl, h3⟩
theorem Bd.ownV (h : Bd F W M tk) : ∃ cap, F.S.ow = .slice (some ⟨F.ow, 0, none⟩) 64 cap ∧ W.cell? ⟨F.g, 33, none⟩ = some (.slice (some ⟨F.ow, 0, none⟩) 64 cap) ∧ Bx W F.ow (bcs M.own) := by
  obtain ⟨cap, h1, _, h3⟩ := h.ow.some (by rw [h.fit.own]; omega)
  rw [h.fit.own] at h1
  exact ⟨cap, h1, by rw [← h1]; exact h.at 33 _ rfl, h3⟩
theorem Bd.viV (h : Bd F W M tk) : ∃ cap, F.S.vi = .slice (some ⟨F.vi, 0, none⟩) 256 cap ∧ W.cell? ⟨F.g, 34, none⟩ = some (.slice (some ⟨F.vi, 0, none⟩) 256 cap) ∧ Bx W F.vi (bcs M.video) := by
  obtain ⟨cap, h1, _, h3⟩ := h.vi.some (by rw [h.fit.video]; omega)
  rw [h.fit.video] at h1
  exact ⟨cap, h1, by rw [← h1]; exact h.at 34 _ rfl, h3⟩
theorem Bu.mem_M (h : Bd F W M tk) (a : Int) (ha : 0 ≤ a ∧ a ≤ 65535) :
    Calls Try.prog 32 #[pt F.g 0, .int .u16 a] W fun e w' => e = .returned (F.memM a) ∧ W = w' := by
  obtain ⟨c1, _, e1, _⟩ := h.ramV
  obtain ⟨c2, _, e2, _⟩ := h.viV
  have hg := h.bx.z
  clear h
  unfold Fx.memM
  by_cases h1 : a < 32768
  · rw [if_pos h1]
    have k1 : ¬ 32768 ≤ a := by omega
    have k2 : ¬ 49152 ≤ a := by omega
    go_enter Try.func32, Try.ntmps32
    go_wp2
    go_ret
    exact ⟨rfl, rfl⟩
  · rw [if_neg h1]
    have k1 : 32768 ≤ a := by omega
    by_cases h2 : a < 49152
    · rw [if_pos h2]
      go_enter Try.func32, Try.ntmps32
      go_wp2_with (go_at_call 40; refine (Bu.cell_any F.ra 128 c1 (a - 32768) _ (by omega) (by omega) (by omega)).mono ?_; rintro e w1 ⟨rfl, rfl⟩)
      go_ret
      exact ⟨rfl, rfl⟩
    · rw [if_neg h2]
      have k2 : 49152 ≤ a := by omega
      by_cases h3 : a < 53248
      · rw [if_pos h3]
        go_enter Try.func32, Try.ntmps32
        go_wp2_with (go_at_call 40; refine (Bu.cell_any F.vi 256 c2 (a - 49152) _ (by omega) (by omega) (by omega)).mono ?_; rintro e w1 ⟨rfl, rfl⟩)
        go_ret
        exact ⟨rfl, rfl⟩
      · rw [if_neg h3]
        go_enter Try.func32, Try.ntmps32
        go_wp2
        go_ret
        exact ⟨rfl, rfl⟩
theorem Bu.mem_A (h : Bd F W M tk) (a : Int) (ha : 0 ≤ a ∧ a ≤ 65535) :
    Calls Try.prog 34 #[pt F.g 0, .int .u16 a] W fun e w' => e = .returned (F.memA M a) ∧ W = w' := by
  obtain ⟨c1, _, e1, _⟩ := h.ramV
  obtain ⟨c2, _, e2, _⟩ := h.ownV
  have hg := h.bx.z
  have e3 := h.at 67 (.bool M.granted) rfl
  clear h
  unfold Fx.memA
  generalize M.granted = gr at *
  by_cases h1 : a < 32768
  · rw [if_pos h1]
    have k1 : ¬ 32768 ≤ a := by omega
    have k2 : ¬ 49152 ≤ a := by omega
    go_enter Try.func34, Try.ntmps34
    go_wp2
    go_ret
    exact ⟨rfl, rfl⟩
  · rw [if_neg h1]
    have k1 : 32768 ≤ a := by omega
    by_cases h2 : a < 49152
    · rw [if_pos h2]
      go_enter Try.func34, Try.ntmps34
      go_wp2_with (go_at_call 40; refine (Bu.cell_any F.ow 64 c2 (a - 32768) _ (by omega) (by omega) (by omega)).mono ?_; rintro e w1 ⟨rfl, rfl⟩)
      go_ret
      exact ⟨rfl, rfl⟩
    · rw [if_neg h2]
      have k2 : 49152 ≤ a := by omega
      by_cases h3 : a < 53248
      · rw [if_pos h3]
        cases gr
        · go_enter Try.func34, Try.ntmps34
          go_wp2
          go_ret
          exact ⟨rfl, rfl⟩
        · go_enter Try.func34, Try.ntmps34
          go_wp2_with (go_at_call 40; refine (Bu.cell_any F.ra 128 c1 (a - 49152) _ (by omega) (by omega) (by omega)).mono ?_; rintro e w1 ⟨rfl, rfl⟩)
          go_ret
          exact ⟨rfl, rfl⟩
      · rw [if_neg h3]
        go_enter Try.func34, Try.ntmps34
        go_wp2
        go_ret
        exact ⟨rfl, rfl⟩
end
section
variable {F : Fx} {W : World} {M : Mach} {tk : Tk}
theorem Bd.mrV (h : Bd F W M tk) : ∃ ad cap, F.S.mr = .slice ad M.mrom.length cap ∧ W.cell? ⟨F.g, 30, none⟩ = some (.slice ad M.mrom.length cap) ∧ (0 < M.mrom.length → ad = some ⟨F.mr, 0, none⟩ ∧ Bx W F.mr (bcs M.mrom)) := by
  have hc := h.at 30 F.S.mr rfl
  rcases h.mr with ⟨e, hl⟩ | ⟨cap, e, _, hb⟩
  · exact ⟨none, 0, by rw [e, hl]; rfl, by rw [hc, e, hl]; rfl, by rw [hl]; simp⟩
  · exact ⟨_, cap, e, by rw [hc, e], fun _ => ⟨rfl, hb⟩⟩
theorem Bd.arV (h : Bd F W M tk) : ∃ ad cap, F.S.ar = .slice ad M.arom.length cap ∧ W.cell? ⟨F.g, 31, none⟩ = some (.slice ad M.arom.length cap) ∧ (0 < M.arom.length → ad = some ⟨F.ar, 0, none⟩ ∧ Bx W F.ar (bcs M.arom)) := by
  have hc := h.at 31 F.S.ar rfl
  rcases h.ar with ⟨e, hl⟩ | ⟨cap, e, _, hb⟩
  · exact ⟨none, 0, by rw [e, hl]; rfl, by rw [hc, e, hl]; rfl, by rw [hl]; simp⟩
  · exact ⟨_, cap, e, by rw [hc, e], fun _ => ⟨rfl, hb⟩⟩
theorem Bd.ramAt (h : Bd F W M tk) (i : Int) (h0 : 0 ≤ i) (hi : i < 128) : W.cell? ⟨F.ra, i.toNat, none⟩ = some (.int .u8 (bget M.ram i)) ∧ F.ra < W.heap.size ∧ W.frozen? ⟨F.ra, i.toNat, none⟩ = false := by
  obtain ⟨_, _, _, hb⟩ := h.ramV
  exact ⟨hb.at _ _ (bcs_at _ i h0 (by rw [h.fit.ram]; exact hi)), hb.z, hb.f _⟩
theorem Bd.ownAt (h : Bd F W M tk) (i : Int) (h0 : 0 ≤ i) (hi : i < 64) : W.cell? ⟨F.ow, i.toNat, none⟩ = some (.int .u8 (bget M.own i)) ∧ F.ow < W.heap.size ∧ W.frozen? ⟨F.ow, i.toNat, none⟩ = false := by
  obtain ⟨_, _, _, hb⟩ := h.ownV
  exact ⟨hb.at _ _ (bcs_at _ i h0 (by rw [h.fit.own]; exact hi)), hb.z, hb.f _⟩
theorem Bd.viAt (h : Bd F W M tk) (i : Int) (h0 : 0 ≤ i) (hi : i < 256) : W.cell? ⟨F.vi, i.toNat, none⟩ = some (.int .u8 (bget M.video i)) ∧ F.vi < W.heap.size ∧ W.frozen? ⟨F.vi, i.toNat, none⟩ = false := by
  obtain ⟨_, _, _, hb⟩ := h.viV
  exact ⟨hb.at _ _ (bcs_at _ i h0 (by rw [h.fit.video]; exact hi)), hb.z, hb.f _⟩
theorem Bu.look_M (h : Bd F W M tk) (a : Int) (ha : 0 ≤ a ∧ a ≤ 65535) :
    Calls Try.prog 63 #[pt F.g 77, .int .u16 a] W fun e w' => e = .returned (.int .u8 (M.lookM a)) ∧ W = w' := by
  obtain ⟨ad, cap, _, e30, hr⟩ := h.mrV
  have hg := h.bx.z
  have e76 := h.at 77 (pt F.g 30) rfl
  have e77 := h.at 78 (mval 32 F.g 0) rfl
  have hmr := h.fit.mrom
  have hm := hid (Bu.mem_M h a ha)
  have H := hid h
  clear h
  unfold Mach.lookM romAt
  unfold Fx.memM at hm
  by_cases h1 : a < 32768
  · rw [if_pos h1]
    rw [if_pos h1] at hm
    by_cases h2 : a < M.mrom.length
    · rw [if_pos h2]
      obtain ⟨rfl, hb⟩ := hr (by omega)
      have ec := hb.at _ _ (bcs_at _ a ha.1 h2)
      have ez := hb.z
      clear hr
      go_enter Try.func63, Try.ntmps63
      go_wp2
      go_ret
      exact ⟨rfl, rfl⟩
    · rw [if_neg h2]
      clear hr
      go_enter Try.func63, Try.ntmps63
      go_wp2_with (go_at_call 32; refine hm.out.mono ?_; rintro e w1 ⟨rfl, rfl⟩)
      go_ret
      exact ⟨rfl, rfl⟩
  · rw [if_neg h1]
    rw [if_neg h1] at hm
    by_cases h2 : a < 49152
    · rw [if_pos h2]
      rw [if_pos h2] at hm
      obtain ⟨ec, ez, _⟩ := H.out.ramAt ((a - 32768) % 128) (by omega) (by omega)
      clear hr
      go_enter Try.func63, Try.ntmps63
      go_wp2_with (go_at_call 32; refine hm.out.mono ?_; rintro e w1 ⟨rfl, rfl⟩)
      go_ret
      exact ⟨rfl, rfl⟩
    · rw [if_neg h2]
      rw [if_neg h2] at hm
      by_cases h3 : a < 53248
      · rw [if_pos h3]
        rw [if_pos h3] at hm
        obtain ⟨ec, ez, _⟩ := H.out.viAt ((a - 49152) % 256) (by omega) (by omega)
        clear hr
        go_enter Try.func63, Try.ntmps63
        go_wp2_with (go_at_call 32; refine hm.out.mono ?_; rintro e w1 ⟨rfl, rfl⟩)
        go_ret
        exact ⟨rfl, rfl⟩
      · rw [if_neg h3]
        rw [if_neg h3] at hm
        clear hr
        go_enter Try.func63, Try.ntmps63
        go_wp2_with (go_at_call 32; refine hm.out.mono ?_; rintro e w1 ⟨rfl, rfl⟩)
        go_ret
        exact ⟨rfl, rfl⟩
end
section
variable {F : Fx} {W : World} {M : Mach} {tk : Tk}
theorem Bd.at2 (h : Bd F W M tk) (n : Nat) (v : Value) (e : F.sideA[n]? = some v) : W.cell? ⟨F.g, 143 + n, none⟩ = some v := by
  have hs : F.sideM.length = 66 := by unfold Fx.sideM; rw [List.length_append, portsN_len]; rfl
  exact h.at _ _ (app_at2 (machL M F.S) [.int .i64 tk.n, tk.v] [] F.sideA F.sideM 75 2 0 66 n v (machL_len M F.S) rfl hs rfl e)
set_option maxHeartbeats 800000 in
theorem Bu.look_A (h : Bd F W M tk) (a : Int) (ha : 0 ≤ a ∧ a ≤ 65535) :
    Calls Try.prog 63 #[pt F.g 143, .int .u16 a] W fun e w' => e = .returned (.int .u8 (M.lookA a)) ∧ W = w' := by
  obtain ⟨ad, cap, _, e31, hr⟩ := h.arV
  have hg := h.bx.z
  have e76 := h.at2 0 (pt F.g 31) rfl
  have e77 := h.at2 1 (mval 34 F.g 0) rfl
  have hmr := h.fit.arom
  have hm := hid (Bu.mem_A h a ha)
  have H := hid h
  clear h
  unfold Mach.lookA romAt
  unfold Fx.memA at hm
  by_cases h1 : a < 32768
  · rw [if_pos h1]
    rw [if_pos h1] at hm
    by_cases h2 : a < M.arom.length
    · rw [if_pos h2]
      obtain ⟨rfl, hb⟩ := hr (by omega)
      have ec := hb.at _ _ (bcs_at _ a ha.1 h2)
      have ez := hb.z
      clear hr
      go_enter Try.func63, Try.ntmps63
      go_wp2
      go_ret
      exact ⟨rfl, rfl⟩
    · rw [if_neg h2]
      clear hr
      go_enter Try.func63, Try.ntmps63
      go_wp2_with (go_at_call 34; refine hm.out.mono ?_; rintro e w1 ⟨rfl, rfl⟩)
      go_ret
      exact ⟨rfl, rfl⟩
  · rw [if_neg h1]
    rw [if_neg h1] at hm
    by_cases h2 : a < 49152
    · rw [if_pos h2]
      rw [if_pos h2] at hm
      obtain ⟨ec, ez, _⟩ := H.out.ownAt ((a - 32768) % 64) (by omega) (by omega)
      clear hr
      go_enter Try.func63, Try.ntmps63
      go_wp2_with (go_at_call 34; refine hm.out.mono ?_; rintro e w1 ⟨rfl, rfl⟩)
      go_ret
      exact ⟨rfl, rfl⟩
    · rw [if_neg h2]
      rw [if_neg h2] at hm
      by_cases h3 : a < 53248
      · rw [if_pos h3]
        rw [if_pos h3] at hm
        obtain ⟨ec, ez, _⟩ := H.out.ramAt ((a - 49152) % 128) (by omega) (by omega)
        clear hr
        cases hgr : M.granted
        · rw [hgr] at hm
          go_enter Try.func63, Try.ntmps63
          go_wp2_with (go_at_call 34; refine hm.out.mono ?_; rintro e w1 ⟨rfl, rfl⟩)
          go_ret
          exact ⟨rfl, rfl⟩
        · rw [hgr] at hm
          go_enter Try.func63, Try.ntmps63
          go_wp2_with (go_at_call 34; refine hm.out.mono ?_; rintro e w1 ⟨rfl, rfl⟩)
          go_ret
          exact ⟨rfl, rfl⟩
      · rw [if_neg h3]
        rw [if_neg h3] at hm
        clear hr
        go_enter Try.func63, Try.ntmps63
        go_wp2_with (go_at_call 34; refine hm.out.mono ?_; rintro e w1 ⟨rfl, rfl⟩)
        go_ret
        exact ⟨rfl, rfl⟩
end
section
variable {F : Fx} {W : World} {M M' : Mach} {tk : Tk}
theorem Mach.fit.of {M M' : Mach} (h : M.fit) (hok : M'.ok) (hl : M'.mrom = M.mrom ∧ M'.arom = M.arom ∧ M'.ram.length = M.ram.length ∧ M'.own.length = M.own.length ∧ M'.video.length = M.video.length) (hw : M'.s.w = M.s.w) (hb : M'.b.l = M.b.l ∧ M'.b.a = M.b.a ∧ M'.b.f = M.b.f) (hc : M'.clock = M.clock ∧ M'.mready = M.mready) (ha : M'.aready = M.aready ∨ M'.aready = M.clock) : M'.fit := by
  obtain ⟨l1, l2, l3, l4, l5⟩ := hl
  obtain ⟨b1, b2, b3⟩ := hb
  obtain ⟨c1, c2⟩ := hc
  refine ⟨hok, ?_, ?_, ?_, ?_, ?_, ?_, ?_, ?_, ?_, ?_⟩
  · rw [l1]; exact h.mrom
  · rw [l2]; exact h.arom
  · rw [l3]; exact h.ram
  · rw [l4]; exact h.own
  · rw [l5]; exact h.video
  · rw [hw]; exact h.w
  · rw [b1, b2, b3]; exact h.b
  · rw [c1]; exact h.clock
  · rw [c1, c2]; exact h.mready
  · rw [c1]
    have := h.clock
    rcases ha with e | e
    · rw [e]; exact h.aready
    · rw [e]; omega
end
section
variable {F : Fx} {W : World} {M M' : Mach} {tk : Tk}
theorem Bu.fn_r (n : Nat) (a b : Array Value) (w : World) : (binOp .eql 82 (.func (.func n) a b) .nilFunc).run Try.prog w = .ok (.bool false) w := by kernel_rfl
abbrev reachV (g o : Nat) : Value := .agg #[mval 37 g o, mval 38 g o]
theorem Bu.main_any (g : Nat) (w : World) : Calls Try.prog 26 #[pt g 0] w fun e w' => e = .returned (reachV g 77) ∧ Below w.heap.size w w' := by
  go_enter Try.func26, Try.ntmps26
  go_wp2
  go_region_with fail
  all_goals go_wp2
  all_goals
    refine bodyPost_ret (v := .agg _) (by simp [results, Try.results26, go_sem]) rfl ⟨rfl, ?_⟩
    exact (stA (st0 _) _).drew
def ReadsAt (F : Fx) (M : Mach) (tk : Tk) (o : Nat) (a x : Int) : Prop := ∀ W, Bd F W M tk → Calls Try.prog 37 #[pt F.g o, .int .u16 a] W fun e w' => e = .returned (.int .u8 x) ∧ Bd F w' M tk ∧ Bt F W w'
theorem Bu.byte_at (h : Bd F W M tk) (o : Nat) (a x : Int) (hr : ReadsAt F M tk o a x) : Calls Try.prog 59 #[reachV F.g o, .int .u16 a] W fun e w' => e = .returned (.int .u8 x) ∧ Bd F w' M tk ∧ Bt F W w' := by
  have hn := Bu.fn_r 37 #[pt F.g o] #[]
  have H := hid h
  clear h
  go_enter Try.func59, Try.ntmps59
  go_wp2_with (go_at_call 37; refine (hr _ (H.out.over _)).mono ?_; rintro e w1 ⟨rfl, hB1, hT1⟩)
  go_ret
  exact ⟨rfl, hB1, Mv.trans (Mv.of_below H.out.big (stA (st0 _) _)) hT1⟩
end
section
variable {F : Fx} {W : World} {M M' : Mach} {tk : Tk}
theorem Bd.fresh (h : Bd F W M tk) (ht : F.T W.heap.size) : False := by
  have h1 := h.bx.z
  obtain ⟨_, _, _, h2⟩ := h.ramV
  obtain ⟨_, _, _, h3⟩ := h.ownV
  obtain ⟨_, _, _, h4⟩ := h.viV
  have h2 := h2.z
  have h3 := h3.z
  have h4 := h4.z
  rcases ht with e | e | e | e <;> omega
theorem Bu.word_at (h : Bd F W M tk) (o : Nat) (x0 x1 : Int) (h0 : ReadsAt F M tk o 0 x0) (h1 : ReadsAt F M tk o 1 x1) (b0 : 0 ≤ x0 ∧ x0 ≤ 255) (b1 : 0 ≤ x1 ∧ x1 ≤ 255) :
    Calls Try.prog 36 #[reachV F.g o, .int .u16 0] W fun e w' => e = .returned (.int .u16 (x0 * 256 + x1)) ∧ Bd F w' M tk ∧ Bt F W w' := by
  have H := hid h
  have hB := h.big
  clear h
  go_enter Try.func36, Try.ntmps36
  go_wp2_with (first
    | (go_at_call 60; refine (of_any x0 x1 _ b0 b1).mono ?_; rintro e w3 ⟨rfl, rfl⟩)
    | (go_at_call 59; refine (Bu.byte_at HB1.out o 1 x1 h1).mono ?_; rintro e w2 ⟨rfl, hB2, hT2⟩)
    | (go_at_call 59; refine (Bu.byte_at (H.out.over _) o 0 x0 h0).mono ?_; rintro e w1 ⟨rfl, hB1, hT1⟩; have HB1 := hid hB1; have hc := fun i => hT1.cell (k := W.heap.size) (by simp) (fun ht => H.out.fresh ht) i; have z1 : W.heap.size < w1.heap.size := Nat.lt_of_lt_of_le (by simp) hT1.size))
  go_ret
  exact ⟨rfl, hB2, Mv.trans (Mv.trans (Mv.of_below hB (stA (st0 _) _)) hT1) hT2⟩
end
section
variable {F : Fx} {W : World} {M M' : Mach} {tk : Tk}
def begL (x : Int) : List Value := [.int .u16 0, .int .u16 0, .int .u16 0, .int .u16 0, .int .u16 0, .int .u16 0, .int .u16 0, .int .u16 0, .int .u16 x, .bool false, .bool false, .bool false, .bool false, .bool false, .bool false]
theorem begL_eq (hi lo : Int) : begL (hi * 256 + lo) = cpuL (beginC hi lo) := rfl
theorem info_cpu : (Try.prog.info? 25).map (·.size) = some 15 := by kernel_rfl
theorem beg_one (x : Int) : (#[.int .u16 0, .int .u16 0, .int .u16 0, .int .u16 0, .int .u16 0, .int .u16 0, .int .u16 0, .int .u16 0, .int .u16 x, .bool false, .bool false, .bool false, .bool false, .bool false, .bool false] : Array Value).all (·.oneCell') = true := by simp [Value.oneCell']
theorem load_beg {Y : World} {b : Nat} {x : Int} (h : Bx Y b (begL x)) : (loadVar 25 ⟨b, 0, none⟩).run Try.prog Y = .ok (.agg (begL x).toArray) Y :=
  run_loadVar_mid Y b 0 25 _ _ h.c Try.underlying25 rfl info_cpu
theorem Rw.off {v : Value} {k : Nat} {l0 l : List UInt8} {w1 : World} {b : Nat} (h0 : Rw W v k l0) (h : Rw w1 v k l) (hb : W.heap.size ≤ b) (o : Nat) (vs : List Value) : Rw (w1.setCells b o vs) v k l := by
  rcases h with h | ⟨cap, e, hl, hx⟩
  · exact Or.inl h
  · rcases h0 with ⟨e0, _⟩ | ⟨cap0, e0, _, hx0⟩
    · rw [e0] at e; cases e
    · exact Or.inr ⟨cap, e, hl, hx.fars (by have := hx0.z; omega) o vs⟩
theorem Bd.off {M0 : Mach} {w1 : World} {b : Nat} (h0 : Bd F W M0 tk) (h : Bd F w1 M tk) (hb : W.heap.size ≤ b) (o : Nat) (vs : List Value) : Bd F (w1.setCells b o vs) M tk := by
  refine ⟨h.bx.fars (by have := h0.bx.z; omega) o vs, h0.mr.off h.mr hb o vs, h0.ar.off h.ar hb o vs, h0.ra.off h.ra hb o vs, h0.ow.off h.ow hb o vs, h0.vi.off h.vi hb o vs, fun x u hx => ?_, h.nd, h.fit, by rw [size_sets]; exact h.big, ows_of h.ws (fun k hk => heap_sets_far (by have := (h0.ws.lt k hk).2; omega) _ _ _), h.wd⟩
  have hn : x ≠ b := by have := (h0.env x u hx).1; omega
  obtain ⟨e1, e2⟩ := h.env x u hx
  exact ⟨by rw [size_sets]; exact e1, (World.cell?_of_block (w := w1) (heap_sets_far hn _ _ _)).trans e2⟩
theorem Bt.off {b : Nat} (hB : F.B ≤ W.heap.size) (hb : W.heap.size ≤ b) : ∀ (vs : List Value) (o : Nat) (w1 : World), Bt F W w1 → Bt F W (w1.setCells b o vs)
  | [], o, w1, h => h
  | v :: vs, o, w1, h => Bt.off hB hb vs (o + 1) _ (Mv.setCell h (Nat.le_trans hB hb) (Or.inr hb) v)
theorem Bt.below (h : Bd F W M tk) {w0 : World} (hb : Below W.heap.size W w0) : Bt F W w0 := Mv.of_below h.big hb
set_option maxHeartbeats 1600000 in
theorem Bu.begin_any (h : Bd F W M tk) (o : Nat) (x0 x1 : Int) (h0 : ReadsAt F M tk o 0 x0) (h1 : ReadsAt F M tk o 1 x1) (b0 : 0 ≤ x0 ∧ x0 ≤ 255) (b1 : 0 ≤ x1 ∧ x1 ≤ 255) :
    Calls Try.prog 25 #[reachV F.g o] W fun e w' => e = .returned (.agg (begL (x0 * 256 + x1)).toArray) ∧ Bd F w' M tk ∧ Bt F W w' := by
  have H := hid h
  have hB := h.big
  clear h
  go_enter Try.func25, Try.ntmps25
  go_wp2_with (first
    | (go_at_call 36; refine (Bu.word_at ((H.out.over _).over _) o x0 x1 h0 h1 b0 b1).mono ?_; rintro e w1 ⟨rfl, hB1, hT1⟩; have HX := hid (Bx.same (Bx.new _ (begL 0) _ (by simp)) hT1.size (hT1.block (W.heap.size + 1) (by simp) (fun ht => (H.out.over (.cells #[mval 37 F.g o, mval 38 F.g o] 85)).fresh (by simpa using ht)))); have HB1 := hid hB1; have HT1 := hid hT1; clear hB1 hT1)
    | (refine wpList_store_mid rfl 25 _ _ rfl (W.heap.size + 1) 0 _ rfl rfl (Bx.there HX.out 0 15 (by simp [begL])) info_cpu (beg_one _) ?_
       refine Pl.cutL (fun Y => Bd F Y M tk ∧ Bt F W Y ∧ Bx Y (W.heap.size + 1) (begL (x0 * 256 + x1))) ⟨?_, ?_, ?_⟩ ?_
       · exact Bd.off H.out HB1.out (Nat.le_succ _) 0 _
       · exact Bt.off hB (Nat.le_succ _) _ 0 _ (Mv.trans (Bt.below H.out (stA (stA (st0 _) _) _)) HT1.out)
       · exact HX.out.puts 0 (begL (x0 * 256 + x1)) (by simp [begL])
       rintro Y ⟨hY1, hY2, hY3⟩
       have HY1 := hid hY1
       have HY2 := hid hY2
       have HY3 := hid hY3
       clear hY1 hY2 hY3))
  exact bodyPost_ret (v := .agg _) (by simp only [results, Try.results25]; simp; exact Pl.res (load_beg HY3.out)) rfl ⟨rfl, HY1.out, HY2.out⟩
end
theorem putL_mid (C : List Value) : ∀ (B' B A : List Value), B'.length = B.length → putL (A ++ (B ++ C)) A.length B' = A ++ (B' ++ C)
  | [], [], A, _ => rfl
  | v :: vs, b :: bs, A, h => by
    have e : (A ++ (b :: bs ++ C)).set A.length v = (A ++ [v]) ++ (bs ++ C) := by simp
    have ih := putL_mid C vs bs (A ++ [v]) (by simpa using h)
    simp only [List.length_append, List.length_cons, List.length_nil, Nat.zero_add] at ih
    show putL ((A ++ (b :: bs ++ C)).set A.length v) (A.length + 1) vs = _
    rw [e, ih]
    simp
def sndL (s : Sd) : List Value := [.int .u16 s.a.p, .int .u16 s.a.c, .int .u8 s.a.l, .bool s.a.h, .int .u16 s.a.n, .int .u16 s.b.p, .int .u16 s.b.c, .int .u8 s.b.l, .bool s.b.h, .int .u16 s.b.n, .int .u16 s.c.p, .int .u16 s.c.c, .int .u8 s.c.l, .bool s.c.h, .int .u16 s.c.n, .int .i64 s.w]
theorem Fx.putMain (F : Fx) (M : Mach) (tk : Tk) (c : C.Cpu) : putL (F.cells M tk) 0 (cpuL c) = F.cells { M with main := c } tk := by
  unfold Fx.cells machL
  rw [List.append_assoc]
  exact putL_mid _ (cpuL c) (cpuL M.main) [] rfl
end Go.Proofs.Ytdioiilmpjckfaa
