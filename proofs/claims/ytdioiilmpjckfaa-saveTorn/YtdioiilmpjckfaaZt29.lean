/-
  Parts of a proof, joined.
-/
import Derived.Test.YtdioiilmpjckfaaZt28
import Derived.Test.YtdioiilmpjckfaaZt08
import Derived.Test.YtdioiilmpjckfaaZt10
import Derived.Test.YtdioiilmpjckfaaZt27
import Derived.Deep.DeepCutAuto
import Derived.Test.YtdioiilmpjckfaaZt26
namespace Go.Proofs.Ytdioiilmpjckfaa
open Go.ChangeShapes Go.WideShapes Go.ChangeAt Go.RowKit
set_option linter.unusedVariables false
set_option maxRecDepth 100000
set_option maxHeartbeats 1600000 in
theorem Sv.bytes_ok (M : Mach) (S : Sl) (w : World) (hs : SlAt w S M) (hok : M.ok) (hc : M.chk = 0) :
    Calls Try.prog 5 #[.agg (machL M S).toArray] w fun e w' => ∃ v, e = .returned (.tuple #[v, .int .i64 0]) ∧ w'.ownsRow w.heap.size 5 1 v (enc M).length (bcs (enc M)) ∧ Below w.heap.size w w' := by
  have hf := chk_fit hok hc
  have hq : Below w.heap.size w (w.alloc (.cells (machL M S).toArray 41)) := stA (st0 w) _
  have HQ := hid hq
  have HB := hid (Bx.new w (machL M S) 41 (b := w.heap.size) rfl)
  have HC := hid (Bu.check_any M S (w.alloc (.cells (machL M S).toArray 41)) hs.lens (fun j hj => by
    have := hf.mrom; have := hf.arom; have := hf.ram; have := hf.own; have := hf.video
    rcases five hj with rfl | rfl | rfl | rfl | rfl
    · show M.mrom.length ≤ _; omega
    · show M.arom.length ≤ _; omega
    · show M.ram.length ≤ _; omega
    · show M.own.length ≤ _; omega
    · show M.video.length ≤ _; omega))
  rw [hc] at HC
  have HS := hid hs
  have HF := hid (fit_wok hf)
  clear hq hs hok hc hf
  go_enter Try.func5, Try.ntmps5
  go_wp2_with (first
    | (refine wpList_load_mid rfl 41 _ rfl w.heap.size 0 rfl (machL M S) _ HB1.out.c Try.underlying41 rfl info_mach ?_)
    | (refine wpList_load_mid rfl 41 _ rfl w.heap.size 0 rfl (machL M S) _ HB.out.c Try.underlying41 rfl info_mach ?_)
    | (go_at_call 8; refine HC.out.mono ?_; rintro e w1 ⟨rfl, hb1⟩; have HB1 := hid (HB.out.kept hb1); have HL1 := hid (stp HQ.out hb1); clear hb1)
    | (go_at_call 14; refine (Sv.written M S _ (HS.out.kept HL1.out) HF.out).mono ?_; rintro e w2 ⟨v, rfl, hv, hb2⟩; obtain ⟨va, vn, vc, ev⟩ := sl_form hv; subst ev; have HV := hid hv; have HL2 := hid (stp HL1.out hb2); clear hv hb2))
  go_ret2
  refine ⟨_, rfl, ?_, HL2.out⟩
  refine ⟨HV.out.1, ?_⟩
  rcases HV.out.2 with h | ⟨gg, cap, cur, e1, e2, r⟩
  · exact Or.inl h
  · exact Or.inr ⟨gg, cap, cur, e1, Nat.le_trans HL1.out.size e2, r⟩
set_option maxHeartbeats 1600000 in
theorem Sv.bytes_bad (M : Mach) (S : Sl) (w : World) (hs : SlAt w S M) (hz : ∀ j, j < 5 → (M.byt j).length ≤ 9223372036854775807) (hc : M.chk ≠ 0) :
    Calls Try.prog 5 #[.agg (machL M S).toArray] w fun e w' => e = .returned (.tuple #[.slice none 0 0, .int .i64 M.chk]) ∧ Below w.heap.size w w' := by
  have hq : Below w.heap.size w (w.alloc (.cells (machL M S).toArray 41)) := stA (st0 w) _
  have HQ := hid hq
  have HB := hid (Bx.new w (machL M S) 41 (b := w.heap.size) rfl)
  have HC := hid (Bu.check_any M S (w.alloc (.cells (machL M S).toArray 41)) hs.lens hz)
  have hne : (M.chk != 0) = true := by simpa using hc
  generalize M.chk = x at *
  clear hq hs hc
  go_enter Try.func5, Try.ntmps5
  go_wp2_with (first
    | (refine wpList_load_mid rfl 41 _ rfl w.heap.size 0 rfl (machL M S) _ HB.out.c Try.underlying41 rfl info_mach ?_)
    | (go_at_call 8; refine HC.out.mono ?_; rintro e w1 ⟨rfl, hb1⟩; have HL1 := hid (stp HQ.out hb1); clear hb1))
  go_ret2
  exact ⟨rfl, HL1.out⟩
theorem SlNs.fars {B b o : Nat} {W : World} {S : Sl} {M : Mach} {vs : List Value} (h : SlNs B W S M) (hb : b < B) : SlNs B (W.setCells b o vs) S M := fun j hj => by
  rcases h j hj with h | ⟨b', c, e1, e2, e3, e4⟩
  · exact Or.inl h
  · exact Or.inr ⟨b', c, e1, e2, e3, e4.fars (by omega) o vs⟩
theorem SlNs.mono {B B' : Nat} {W : World} {S : Sl} {M : Mach} (h : SlNs B W S M) (hb : B' ≤ B) : SlNs B' W S M := fun j hj => by
  rcases h j hj with h | ⟨b', c, e1, e2, e3, e4⟩
  · exact Or.inl h
  · exact Or.inr ⟨b', c, e1, e2, by omega, e4⟩
structure OfW (w : World) (L : List Value) (V : World) : Prop where
  m : Bx V w.heap.size L
  low : Below w.heap.size w V
theorem OfW.kept {w V V' : World} {L : List Value} (h : OfW w L V) (hb : Below V.heap.size V V') : OfW w L V' := ⟨h.m.kept hb, stp h.low hb⟩
theorem OfW.put {w V : World} {L : List Value} (h : OfW w L V) (hl : L.length = 75) (M : Mach) (S : Sl) : OfW w (machL M S) (V.setCells w.heap.size 0 (machL M S)) := by
  have h1 := h.m.puts 0 (machL M S) (by rw [machL_len]; omega)
  rw [putL_whole _ _ (by rw [machL_len, hl])] at h1
  exact ⟨h1, Bl.puts h.low (Nat.le_refl _) _⟩
theorem ofw_res {w V : World} {M : Mach} {S : Sl} {x : Int} (h : OfW w (machL M S) V) {tm : Array Value} (h2 : tm[2]? = some (pt w.heap.size 0)) (h3 : tm[3]? = some (.int .i64 x)) : (results Try.f6 tm).run Try.prog V = .ok (.tuple #[.agg (machL M S).toArray, .int .i64 x]) V := by
  have hl := load_mach _ _ h.m.c
  simp only [results, Try.results6]
  simp [h2, h3]
  show (Result.andThen (Sem.run Try.prog (loadVar 41 ⟨w.heap.size, 0, none⟩) V) _) = _
  rw [hl]
  rfl
set_option maxHeartbeats 1600000 in
theorem Sv.of_no (v : Value) (l : List UInt8) (w : World) (hv : sliceAt w v l)
    (hrd : ∀ W, sliceAt W v l → Calls Try.prog 15 #[v] W fun e w' => e = .returned (.tuple #[.agg (machL zeroM nilS).toArray, .bool false]) ∧ Below W.heap.size W w') :
    Calls Try.prog 6 #[v] w fun e w' => e = .returned (.tuple #[.agg (machL zeroM nilS).toArray, .int .i64 7]) ∧ Below w.heap.size w w' := by
  obtain ⟨a, c, ev⟩ := slice_len hv
  subst ev
  have HO : Hid (OfW w (machL zeroM nilS) (w.alloc (.cells (machL zeroM nilS).toArray 41))) := hid ⟨Bx.new w (machL zeroM nilS) 41 rfl, stA (st0 w) _⟩
  have HR := hid (hrd _ (hv.kept (stA (st0 w) (.cells (machL zeroM nilS).toArray 41))))
  clear hv hrd
  go_enter Try.func6, Try.ntmps6
  go_wp2_with (first
    | (go_at_call 15; refine HR.out.mono ?_; rintro e w1 ⟨rfl, hb1⟩; have HO1 := hid (HO.out.kept hb1); clear hb1)
    | (refine wpList_store_mid rfl 41 _ _ rfl w.heap.size 0 (machL zeroM nilS).toArray rfl rfl (HO2.out.m.there 0 75 (by rw [machL_len]; omega)) info_mach (machL_one _ _ zero_sl) ?_; refine Pl.cutL (OfW w (machL zeroM nilS)) (HO2.out.put rfl _ _) ?_; intro V2 hV2; have HO3 := hid hV2; clear hV2)
    | (refine wpList_store_mid rfl 41 _ _ rfl w.heap.size 0 (machL zeroM nilS).toArray rfl rfl (HO1.out.m.there 0 75 (by rw [machL_len]; omega)) info_mach (machL_one _ _ zero_sl) ?_; refine Pl.cutL (OfW w (machL zeroM nilS)) (HO1.out.put rfl _ _) ?_; intro V1 hV1; have HO2 := hid hV1; clear hV1))
  refine bodyPost_ret (v := .tuple #[.agg (machL zeroM nilS).toArray, .int .i64 7]) ?_ rfl ⟨rfl, HO3.out.low⟩
  exact ofw_res HO3.out rfl rfl
set_option maxHeartbeats 1600000 in
theorem Sv.of_bad (v : Value) (l : List UInt8) (w : World) (hv : sliceAt w v l) (M : Mach) (hz : ∀ j, j < 5 → (M.byt j).length ≤ 9223372036854775807) (hc : M.chk ≠ 0)
    (hrd : ∀ W, sliceAt W v l → Calls Try.prog 15 #[v] W fun e w' => ∃ S, e = .returned (.tuple #[.agg (machL M S).toArray, .bool true]) ∧ SlNs W.heap.size w' S M ∧ Below W.heap.size W w') :
    Calls Try.prog 6 #[v] w fun e w' => e = .returned (.tuple #[.agg (machL zeroM nilS).toArray, .int .i64 7]) ∧ Below w.heap.size w w' := by
  obtain ⟨a, c, ev⟩ := slice_len hv
  subst ev
  have HO : Hid (OfW w (machL zeroM nilS) (w.alloc (.cells (machL zeroM nilS).toArray 41))) := hid ⟨Bx.new w (machL zeroM nilS) 41 rfl, stA (st0 w) _⟩
  have HR := hid (hrd _ (hv.kept (stA (st0 w) (.cells (machL zeroM nilS).toArray 41))))
  have hne : (M.chk != 0) = true := by simpa using hc
  have HCK : Hid (∀ S W, SlAt W S M → Calls Try.prog 8 #[.agg (machL M S).toArray] W fun e w' => e = .returned (.int .i64 M.chk) ∧ Below W.heap.size W w') := hid (fun S W h => Bu.check_any M S W h.lens hz)
  generalize M.chk = x at *
  clear hv hrd hc
  go_enter Try.func6, Try.ntmps6
  go_wp2_with (first
    | (go_at_call 15; refine HR.out.mono ?_; rintro e w1 ⟨S, rfl, hS, hb1⟩; have HO1 := hid (HO.out.kept hb1); have HS := hid (hS.mono (B' := w.heap.size + 1) (by simp)); have HSI := hid hS.isSl; clear hb1 hS)
    | (go_at_call 8; refine (HCK.out S _ HS2.out.at).mono ?_; rintro e w2 ⟨rfl, hb2⟩; have HO4 := hid (HO2.out.kept hb2); clear hb2)
    | (refine Bu.loadG rfl 41 _ rfl w.heap.size 0 rfl (machL M S) _ HO2.out.m.c Try.underlying41 rfl info_mach ?_)
    | (refine wpList_store_mid rfl 41 _ _ rfl w.heap.size 0 (machL zeroM nilS).toArray rfl rfl (HO4.out.m.there 0 75 (by rw [machL_len]; omega)) info_mach (machL_one _ _ zero_sl) ?_; refine Pl.cutL (OfW w (machL zeroM nilS)) (HO4.out.put rfl _ _) ?_; intro V2 hV2; have HO3 := hid hV2; clear hV2)
    | (refine wpList_store_mid rfl 41 _ _ rfl w.heap.size 0 (machL M S).toArray rfl rfl (HO1.out.m.there 0 75 (by rw [machL_len]; omega)) info_mach (machL_one _ _ HSI.out) ?_; refine Pl.cutL (fun V => OfW w (machL M S) V ∧ SlNs (w.heap.size + 1) V S M) ⟨HO1.out.put rfl _ _, HS.out.fars (Nat.lt_succ_self _)⟩ ?_; rintro V1 ⟨hV1, hV2⟩; have HO2 := hid hV1; have HS2 := hid hV2; clear hV1 hV2))
  refine bodyPost_ret (v := .tuple #[.agg (machL zeroM nilS).toArray, .int .i64 7]) ?_ rfl ⟨rfl, HO3.out.low⟩
  exact ofw_res HO3.out rfl rfl
set_option maxHeartbeats 1600000 in
theorem Sv.of_ok (v : Value) (l : List UInt8) (w : World) (hv : sliceAt w v l) (M : Mach) (hz : ∀ j, j < 5 → (M.byt j).length ≤ 9223372036854775807) (hc : M.chk = 0)
    (hrd : ∀ W, sliceAt W v l → Calls Try.prog 15 #[v] W fun e w' => ∃ S, e = .returned (.tuple #[.agg (machL M S).toArray, .bool true]) ∧ SlNs W.heap.size w' S M ∧ Below W.heap.size W w') :
    Calls Try.prog 6 #[v] w fun e w' => ∃ S, e = .returned (.tuple #[.agg (machL M S).toArray, .int .i64 0]) ∧ SlNs w.heap.size w' S M ∧ Below w.heap.size w w' := by
  obtain ⟨a, c, ev⟩ := slice_len hv
  subst ev
  have HO : Hid (OfW w (machL zeroM nilS) (w.alloc (.cells (machL zeroM nilS).toArray 41))) := hid ⟨Bx.new w (machL zeroM nilS) 41 rfl, stA (st0 w) _⟩
  have HR := hid (hrd _ (hv.kept (stA (st0 w) (.cells (machL zeroM nilS).toArray 41))))
  have HCK : Hid (∀ S W, SlAt W S M → Calls Try.prog 8 #[.agg (machL M S).toArray] W fun e w' => e = .returned (.int .i64 M.chk) ∧ Below W.heap.size W w') := hid (fun S W h => Bu.check_any M S W h.lens hz)
  rw [hc] at HCK
  clear hv hrd hc
  go_enter Try.func6, Try.ntmps6
  go_wp2_with (first
    | (go_at_call 15; refine HR.out.mono ?_; rintro e w1 ⟨S, rfl, hS, hb1⟩; have HO1 := hid (HO.out.kept hb1); have HS := hid (hS.mono (B' := w.heap.size + 1) (by simp)); have HSI := hid hS.isSl; clear hb1 hS)
    | (go_at_call 8; refine (HCK.out S _ HS2.out.at).mono ?_; rintro e w2 ⟨rfl, hb2⟩; have HO4 := hid (HO2.out.kept hb2); have HS4 := hid (HS2.out.kept hb2); clear hb2)
    | (refine wpList_load_mid rfl 41 _ rfl w.heap.size 0 rfl (machL M S) _ HO4.out.m.c Try.underlying41 rfl info_mach ?_)
    | (refine Bu.loadG rfl 41 _ rfl w.heap.size 0 rfl (machL M S) _ HO2.out.m.c Try.underlying41 rfl info_mach ?_)
    | (refine wpList_store_mid rfl 41 _ _ rfl w.heap.size 0 (machL M S).toArray rfl rfl (HO4.out.m.there 0 75 (by rw [machL_len]; omega)) info_mach (machL_one _ _ HSI.out) ?_; refine Pl.cutL (fun V => OfW w (machL M S) V ∧ SlNs (w.heap.size + 1) V S M) ⟨HO4.out.put rfl _ _, HS4.out.fars (Nat.lt_succ_self _)⟩ ?_; rintro V2 ⟨hV1, hV2⟩; have HO3 := hid hV1; have HS3 := hid hV2; clear hV1 hV2)
    | (refine wpList_store_mid rfl 41 _ _ rfl w.heap.size 0 (machL M S).toArray rfl rfl (HO1.out.m.there 0 75 (by rw [machL_len]; omega)) info_mach (machL_one _ _ HSI.out) ?_; refine Pl.cutL (fun V => OfW w (machL M S) V ∧ SlNs (w.heap.size + 1) V S M) ⟨HO1.out.put rfl _ _, HS.out.fars (Nat.lt_succ_self _)⟩ ?_; rintro V1 ⟨hV1, hV2⟩; have HO2 := hid hV1; have HS2 := hid hV2; clear hV1 hV2))
  refine bodyPost_ret (v := .tuple #[.agg (machL M S).toArray, .int .i64 0]) ?_ rfl ⟨S, rfl, HS3.out.mono (Nat.le_succ _), HO3.out.low⟩
  exact ofw_res HO3.out rfl rfl
def sl1 : List UInt8 := [0, 2, 121, 31]
def sl2 : List UInt8 := [1]
theorem s_pc : (newD sl1 sl2).main.PC = 2 := by decide +kernel
theorem slice_s1 (w : World) (t : TypeId) : sliceAt (w.alloc (.cells #[.int .u8 0, .int .u8 2, .int .u8 121, .int .u8 31] t)) (.slice (some ⟨w.heap.size, 0, none⟩) 4 4) sl1 := by
  refine Or.inr ⟨w.heap.size, 0, 4, rfl, by decide, by simp, fun j c hj => ?_⟩
  have hl := (List.getElem?_eq_some_iff.1 hj).1
  rw [Nat.zero_add, Pl.new _ _ _ _ rfl]
  have hc : j = 0 ∨ j = 1 ∨ j = 2 ∨ j = 3 := by simp [sl1] at hl; omega
  rcases hc with rfl | rfl | rfl | rfl <;> (cases hj; rfl)
theorem slice_s2 (w : World) (t : TypeId) {k : Nat} (hk : k = w.heap.size) : sliceAt (w.alloc (.cells #[.int .u8 1] t)) (.slice (some ⟨k, 0, none⟩) 1 1) sl2 := by
  subst hk
  refine Or.inr ⟨w.heap.size, 0, 1, rfl, by decide, by simp, fun j c hj => ?_⟩
  have hl := (List.getElem?_eq_some_iff.1 hj).1
  rw [Nat.zero_add, Pl.new _ _ _ _ rfl]
  have hc : j = 0 := by simp [sl2] at hl; omega
  subst hc
  cases hj; rfl
theorem SlAt.isSl2 {W : World} {S : Sl} {M : Mach} (h : SlAt W S M) : S.isSl := fun j hj => by
  obtain ⟨a, c, e⟩ := h.lens j hj
  exact ⟨_, _, _, e⟩
structure MS (w : World) (b : Nat) (M : Mach) (S : Sl) (Y : World) : Prop where
  low : Below w.heap.size w Y
  bx : Bx Y b (machL M S)
  sl : SlAt Y S M
theorem MS.kept {w Y Y' : World} {b : Nat} {M : Mach} {S : Sl} (h : MS w b M S Y) (hb : Below Y.heap.size Y Y') : MS w b M S Y' := ⟨stp h.low hb, h.bx.kept hb, h.sl.kept hb⟩
theorem MS.th (Y : World) (t : TypeId) : (Y.alloc (.cells (machL zeroM nilS).toArray t)).there Y.heap.size 0 75 := (Bx.new Y (machL zeroM nilS) t (b := Y.heap.size) rfl).there 0 75 (by rw [machL_len]; omega)
theorem MS.mk0 {w Y : World} {M' : Mach} {S' : Sl} (hl : Below w.heap.size w Y) (hs : SlAt Y S' M') (t : TypeId) : Below Y.heap.size Y ((Y.alloc (.cells (machL zeroM nilS).toArray t)).setCells Y.heap.size 0 (machL M' S')) ∧ MS w Y.heap.size M' S' ((Y.alloc (.cells (machL zeroM nilS).toArray t)).setCells Y.heap.size 0 (machL M' S')) := by
  have hx := (Bx.new Y (machL zeroM nilS) t (b := Y.heap.size) rfl).puts 0 (machL M' S') (by rw [machL_len, machL_len]; omega)
  rw [putL_whole _ _ (by rw [machL_len, machL_len])] at hx
  have hb : Below Y.heap.size Y ((Y.alloc (.cells (machL zeroM nilS).toArray t)).setCells Y.heap.size 0 (machL M' S')) := Bl.puts (stA (st0 Y) _) (Nat.le_refl _) _
  exact ⟨hb, stp hl hb, hx, hs.kept hb⟩
theorem fit_ok {M : Mach} (h : M.fit) : M.ok := { h with main := h.main }
theorem Sv.of_enc (v : Value) (M : Mach) (w : World) (hv : sliceAt w v (enc M)) (hok : M.ok) (hc : M.chk = 0) :
    Calls Try.prog 6 #[v] w fun e w' => ∃ S, e = .returned (.tuple #[.agg (machL M S).toArray, .int .i64 0]) ∧ SlNs w.heap.size w' S M ∧ Below w.heap.size w w' := by
  have hf := chk_fit hok hc
  have hw := fit_wok hf
  have hrd : rdL svK (enc M) = some (svX M, []) := by
    have := rd_enc hw []
    rwa [List.append_nil] at this
  refine Sv.of_ok v (enc M) w hv M (fun j hj => ?_) hc (fun W h => Sv.read_ok v (enc M) W h (by have := hw.2; omega) M hrd)
  have := hf.mrom; have := hf.arom; have := hf.ram; have := hf.own; have := hf.video
  rcases five hj with rfl | rfl | rfl | rfl | rfl
  · show M.mrom.length ≤ _; omega
  · show M.arom.length ≤ _; omega
  · show M.ram.length ≤ _; omega
  · show M.own.length ≤ _; omega
  · show M.video.length ≤ _; omega
set_option maxHeartbeats 3200000 in
theorem Sv.saved (w : World) : Calls Try.prog 7 #[] w fun e w' => e = .returned (.bool true) ∧ Below w.heap.size w w' := by
  have hb0 : Below w.heap.size w ((w.alloc (.cells #[.int .u8 0, .int .u8 2, .int .u8 121, .int .u8 31] 5)).alloc (.cells #[.int .u8 1] 5)) := stA (stA (st0 w) _) _
  have HB0 := hid hb0
  have HN := hid (Bu.new_ok sl1 sl2 (.slice (some ⟨w.heap.size, 0, none⟩) 4 4) (.slice (some ⟨w.heap.size + 1, 0, none⟩) 1 1) ((w.alloc (.cells #[.int .u8 0, .int .u8 2, .int .u8 121, .int .u8 31] 5)).alloc (.cells #[.int .u8 1] 5)) ((slice_s1 w _).kept (stA (st0 _) _)) (slice_s2 _ _ (by simp)) (by decide) (by decide))
  have hpc := s_pc
  generalize newD sl1 sl2 = D at HN hpc
  clear hb0
  go_enter Try.func7, Try.ntmps7
  go_wp2_with (first
    | (go_at_call 16; refine HN.out.mono ?_; rintro e w1 ⟨S1, rfl, hs1, hf1, _, hb1⟩; have HS1 := hid hs1; have HF1 := hid hf1; have HL1 := hid (stp HB0.out hb1); clear hs1 hf1 hb1)
    | (refine wpList_store_mid rfl 41 _ _ rfl w1.heap.size 0 (machL D S1).toArray rfl rfl (MS.th w1 _) info_mach (machL_one _ _ HS1.out.isSl2) ?_; refine Pl.cutL (MS w w1.heap.size D S1) (MS.mk0 HL1.out HS1.out _).2 ?_; intro Y1 hY1; have HY1 := hid hY1; clear hY1)
    | (refine wpList_load_mid rfl 41 _ rfl w1.heap.size 0 rfl (machL D S1) _ HY1.out.bx.c Try.underlying41 rfl info_mach ?_)
    | (go_at_call 5; refine (Sv.bytes_ok D S1 _ HY1.out.sl (fit_ok HF1.out) (fit_chk HF1.out)).mono ?_; rintro e w2 ⟨v, rfl, hv, hb2⟩; obtain ⟨va, vc, ev⟩ := slice_len (slice_of_own hv); subst ev; have hen := (enc_len HF1.out).1; obtain ⟨en, hen2⟩ : ∃ en, en = (enc D).length := ⟨_, rfl⟩; have HV := hid (slice_of_own hv); have HE := hid hen2; rw [← hen2]; have hen3 : (100 : Int) < en := (by omega); have HY2 := hid (HY1.out.kept hb2); clear hv hb2 hen hen2)
    | (go_at_call 6; refine (Sv.of_enc _ D _ (by rw [HE.out]; exact HV.out) (fit_ok HF1.out) (fit_chk HF1.out)).mono ?_; rintro e w3 ⟨S2, rfl, hs3, hb3⟩; have HS3 := hid hs3.at; have HY3 := hid (HY2.out.kept hb3); clear hs3 hb3)
    | (refine wpList_store_mid rfl 41 _ _ rfl w3.heap.size 0 (machL D S2).toArray rfl rfl (MS.th w3 _) info_mach (machL_one _ _ HS3.out.isSl2) ?_; refine Pl.cutL (fun V => MS w w1.heap.size D S1 V ∧ MS w w3.heap.size D S2 V) ⟨HY3.out.kept (MS.mk0 HY3.out.low HS3.out _).1, (MS.mk0 HY3.out.low HS3.out _).2⟩ ?_; rintro Y4 ⟨h1, h2⟩; have HY4 := hid h1; have HX4 := hid h2; clear h1 h2)
    | (refine Bu.loadG rfl 41 _ rfl w1.heap.size 0 rfl (machL D S1) _ HY4.out.bx.c Try.underlying41 rfl info_mach ?_)
    | (refine Bu.loadG rfl 41 _ rfl w3.heap.size 0 rfl (machL D S2) _ HX4.out.bx.c Try.underlying41 rfl info_mach ?_)
    | (go_at_call 9; refine (Bu.same_any D S1 S2 _ HY4.out.sl HX4.out.sl).mono ?_; rintro e w5 ⟨rfl, hb5⟩; have hx5 := HX4.out.kept hb5; have c8 : w5.cell? ⟨w3.heap.size, 8, none⟩ = some (.int .u16 2) := (by rw [← hpc]; exact hx5.bx.at 8 _ rfl); have cz := hx5.bx.z; have HL5 := hid hx5.low; clear hb5 hx5))
  go_ret
  exact ⟨rfl, HL5.out⟩
theorem rd_inv2 {l l' : List UInt8} {xs : List Ct} (h : rdL svK l = some (xs, l')) : ∃ M : Mach, svX M = xs ∧ M.ok ∧ l = enc M ++ l' ∧ ∀ j, j < 5 → (M.byt j).length ≤ 65535 := by
  obtain ⟨M, e, hok, e2⟩ := rd_inv h
  refine ⟨M, e, hok, e2, fun j hj => ?_⟩
  have ho := (rdL_inv _ _ _ _ h).2.1
  rw [← e] at ho
  rcases five hj with rfl | rfl | rfl | rfl | rfl
  · exact ho (.lst M.mrom) (List.mem_of_getElem? (i := 30) (l := svX M) rfl)
  · exact ho (.lst M.arom) (List.mem_of_getElem? (i := 31) (l := svX M) rfl)
  · exact ho (.lst M.ram) (List.mem_of_getElem? (i := 32) (l := svX M) rfl)
  · exact ho (.lst M.own) (List.mem_of_getElem? (i := 33) (l := svX M) rfl)
  · exact ho (.lst M.video) (List.mem_of_getElem? (i := 34) (l := svX M) rfl)
theorem Sv.of_any (v : Value) (l : List UInt8) (hl : l.length ≤ 9223372036854775807) :
    (∃ X : Mach, X.ok ∧ X.chk = 0 ∧ l = enc X) ∨ (∀ W, sliceAt W v l → Calls Try.prog 6 #[v] W fun e w' => e = .returned (.tuple #[.agg (machL zeroM nilS).toArray, .int .i64 7]) ∧ Below W.heap.size W w') := by
  cases hrd : rdL svK l with
  | none => exact Or.inr (fun W h => Sv.of_no v l W h (fun W' h' => Sv.read_torn v l W' h' hl hrd))
  | some p =>
    obtain ⟨xs, lx⟩ := p
    by_cases hx : lx = []
    · subst hx
      obtain ⟨X, e, hok, e2, hlen⟩ := rd_inv2 hrd
      subst e
      rw [List.append_nil] at e2
      by_cases hc : X.chk = 0
      · exact Or.inl ⟨X, hok, hc, e2⟩
      · exact Or.inr (fun W h => Sv.of_bad v l W h X (fun j hj => by have := hlen j hj; omega) hc (fun W' h' => Sv.read_ok v l W' h' hl X hrd))
    · exact Or.inr (fun W h => Sv.of_no v l W h (fun W' h' => Sv.read_more v l W' h' hl xs lx hrd hx))
theorem zero_slat (W : World) : SlAt W nilS zeroM := fun j hj => by rcases five hj with rfl | rfl | rfl | rfl | rfl <;> exact Or.inl ⟨none, 0, rfl, rfl⟩
theorem Sv.at (k n : Int) (w : World) (hn : 0 < n ∧ n ≤ 4000) (hk : -9223372036854775808 ≤ k ∧ k ≤ 9223372036854775807) :
    Calls Try.prog 12 #[.int .i64 k, .int .i64 n] w fun e w' => ∃ r, e = .returned (.int .i64 r) ∧ 0 ≤ r ∧ r < n ∧ w = w' := by
  obtain ⟨n0, n1⟩ := hn
  obtain ⟨k0, k1⟩ := hk
  have hnz : ¬ n = 0 := by omega
  have h1 := Int.tmod_lt_of_pos k n0
  have h2 : -n < Int.tmod k n := by
    have h3 := Int.tmod_lt_of_pos (-k) n0
    rw [Int.neg_tmod] at h3
    omega
  obtain ⟨t, ht⟩ : ∃ t, t = Int.tmod k n := ⟨_, rfl⟩
  rw [← ht] at h1 h2
  have hm := ht.symm
  clear ht
  by_cases h0 : t < 0
  · go_enter Try.func12, Try.ntmps12
    go_wp2
    go_ret
    exact ⟨_, rfl, by omega, by omega, rfl⟩
  · go_enter Try.func12, Try.ntmps12
    go_wp2
    go_ret
    exact ⟨_, rfl, by omega, by omega, rfl⟩
theorem Sv.clone (v : Value) (l : List UInt8) (w : World) (h : sliceAt w v l) (hl : l.length ≤ 100000) :
    Calls Try.prog 13 #[v] w fun e w' => ∃ v', e = .returned v' ∧ w'.ownsRow w.heap.size 5 1 v' l.length (bcs l) ∧ Below w.heap.size w w' := by
  obtain ⟨a, c, rfl⟩ := slice_len h
  cases a with
  | none =>
    have h0 : l = [] := by
      rcases h with ⟨_, _, _, h2⟩ | ⟨g, o, cap, h1, _⟩
      · exact h2
      · cases h1
    subst h0
    have hn := nil_eq2 0 c
    go_enter Try.func13, Try.ntmps13
    go_wp2
    go_ret
    exact ⟨_, rfl, ⟨rfl, Or.inl ⟨rfl, rfl⟩⟩, st0 _⟩
  | some a =>
    have hn := nil_ne a l.length c
    have H := hid h
    clear h
    go_enter Try.func13, Try.ntmps13
    go_wp2_with (at_builtin; refine wpList_appSlice (by rfl) _ _ (by rfl) w.heap.size _ ([] : List UInt8) (by rfl) (own_emptyB (heap_alloc_new w _) (Nat.le_refl _)) _ (by rfl) l (H.out.kept (stA (st0 w) _)) (by simp; exact hl) (by simp) ?_; intro v' w' hown' hb')
    go_ret
    exact ⟨_, rfl, by simpa using hown', (stA (st0 w) _).trans hb'⟩
end Go.Proofs.Ytdioiilmpjckfaa
