/-
  For every machine, every address and every byte the law BusGranted of the program returns true and leaves its arguments as they were; no condition.
-/
import Derived.Test.YtldgjapiobpanaaZbB
import Derived.Test.YtldgjapiobpanaaZbG
import Derived.Test.YtldgjapiobpanaaBusE
import Derived.Test.YtldgjapiobpanaaZbN
import Derived.Deep.DeepCutAuto
import Derived.Test.YtldgjapiobpanaaBusM
import Derived.Test.YtldgjapiobpanaaZbS
import Derived.Laws.BitsAllLaws
import Derived.Test.YtldgjapiobpanaaPlain
namespace Go.Proofs.Ytldgjapiobpanaa
open Go.ChangeShapes Go.WideShapes Go.ChangeAt Go.RowKit
set_option linter.unusedVariables false
set_option maxRecDepth 100000

set_option maxHeartbeats 800000 in
theorem Bu.read_m (M : Mach) (S : Sl) (w : World) (a : Int) (ha : 0 ≤ a ∧ a ≤ 65535) (hs : SlAt w S M) (hf : M.fit) :
    Calls Try.prog 16 #[.agg (machL M S).toArray, .bool false, .int .u16 a] w fun e w' => ∃ S', e = .returned (.tuple #[.int .u8 (M.rdM a).1, .agg (machL (M.rdM a).2 S').toArray, .int .i64 0]) ∧ SlAt w' S' (M.rdM a).2 ∧ (M.rdM a).2.fit ∧ SlNew (w.heap.size + 2) S' ∧ Below w.heap.size w w' := by
  have hB := (Bx.new w (machL M S) 41 (b := w.heap.size) rfl).over (.cells (machL zeroM nilS).toArray 41)
  have HB := hid hB
  have HR := hid (Bx.new (w.alloc (.cells (machL M S).toArray 41)) (machL zeroM nilS) 41 (b := w.heap.size + 1) (by simp))
  have HL := hid (stA (stA (st0 w) (.cells (machL M S).toArray 41)) (.cells (machL zeroM nilS).toArray 41))
  have HS := hid hs
  have HF := hid hf
  clear hB hs hf
  go_enter Try.func16, Try.ntmps16
  go_wp2_with (first
    | (refine wpList_load_mid rfl 41 _ rfl w.heap.size 0 rfl (machL M S) _ HB.out.c Try.underlying41 rfl info_mach ?_)
    | (refine wpList_field rfl 73 _ 0 rfl (.agg #[_, _]) _ rfl (field_0 _ _ _) ?_)
    | (go_at_call 21; refine (Bu.open_ok M S _ (HS.out.kept HL.out).lens (HS.out.kept HL.out) HF.out).mono ?_; rintro e w1 ⟨F, hFB, rfl, hr, hB1, hb1⟩; have HR1 := hid (RB.mk hB1 (stp HL.out hb1) (HR.out.kept hb1) (by rw [hFB]; simp) hr); clear hB1 hb1 hFB hr)
    | (go_at_call 30; refine (Bu.reach_m F.g _).mono ?_; rintro e w2 ⟨rfl, hb2⟩; have HR2 := hid (HR1.out.kept hb2); clear hb2)
    | (go_at_call 50; refine (Bu.read_M HR2.out.bd a ha (fun i hi => getM_all i hi)).mono ?_; rintro e w3 ⟨rfl, hB3, hT3⟩; have HR3 := hid (HR2.out.go hB3 hT3); clear hB3 hT3))
  refine wp_region_held_drew (S := fun _ => True) (by kernel_rfl) trivial ?_
  intro _
  refine wpAnyH_take (i := 0) (oi := { dst := some 27, op := _, type := _, pos := _, after := _, guard := none }) (v := ?_) rfl (by kernel_rfl) (by kernel_rfl) (by kernel_rfl) (fun _ _ _ h => h) (Or.inl ⟨by rfl, ?_⟩) trivial ?_
  rotate_left 1
  focus (intro w hSw; (try dsimp only at hSw); go_simp; try (with_reducible rfl))
  simp only [Act.put, List.setIfInBounds_toArray, List.set_cons_zero, List.set_cons_succ]
  refine wpAnyH_take (i := 1) (oi := { dst := some 28, op := _, type := _, pos := _, after := _, guard := none }) (v := ?_) rfl (by kernel_rfl) (by kernel_rfl) (by kernel_rfl) (fun _ _ _ h => h) (Or.inl ⟨by rfl, ?_⟩) trivial ?_
  rotate_left 1
  focus (intro w hSw; (try dsimp only at hSw); go_simp; try (with_reducible rfl))
  simp only [Act.put, List.setIfInBounds_toArray, List.set_cons_zero, List.set_cons_succ]
  refine wpAnyH_take (i := 2) (oi := { dst := some 29, op := _, type := _, pos := _, after := _, guard := none }) (v := ?_) rfl (by kernel_rfl) (by kernel_rfl) (by kernel_rfl) (fun _ _ _ h => h) (Or.inl ⟨by rfl, ?_⟩) trivial ?_
  rotate_left 1
  focus (intro w hSw; (try dsimp only at hSw); go_simp; try (with_reducible rfl))
  simp only [Act.put, List.setIfInBounds_toArray, List.set_cons_zero, List.set_cons_succ]
  refine wpAnyH_take (i := 3) (oi := { dst := some 30, op := _, type := _, pos := _, after := _, guard := none }) (v := ?_) rfl (by kernel_rfl) (by kernel_rfl) (by kernel_rfl) (fun _ _ _ h => h) (Or.inl ⟨by rfl, ?_⟩) trivial ?_
  rotate_left 1
  focus (intro w hSw; (try dsimp only at hSw); go_simp; try (with_reducible rfl))
  simp only [Act.put, List.setIfInBounds_toArray, List.set_cons_zero, List.set_cons_succ]
  refine wpAnyH_take (i := 5) (oi := { dst := some 6, op := _, type := _, pos := _, after := _, guard := none }) (v := ?_) rfl (by kernel_rfl) (by kernel_rfl) (by kernel_rfl) (fun _ _ _ h => h) (Or.inl ⟨by rfl, ?_⟩) trivial ?_
  rotate_left 1
  focus (intro w hSw; (try dsimp only at hSw); go_simp; try (with_reducible rfl))
  simp only [Act.put, List.setIfInBounds_toArray, List.set_cons_zero, List.set_cons_succ]
  refine readyH_load (i := 4) (op := { dst := some 31, op := _, type := _, pos := _, after := _, guard := none }) (by kernel_rfl) rfl rfl 41 _ rfl F.g 0 rfl (machL (M.rdM a).2 F.S) _ HR3.out.bd.row Try.underlying41 rfl info_mach trivial ?_
  simp only [Act.put, List.setIfInBounds_toArray, List.set_cons_zero, List.set_cons_succ]
  refine readyH_store (i := 6) (op := { dst := none, op := _, type := _, pos := _, after := _, guard := none }) (by kernel_rfl) rfl rfl 41 _ _ rfl (w.heap.size + 1) 0 (machL (M.rdM a).2 F.S).toArray rfl rfl HR3.out.drew.th info_mach (machL_one _ _ HR3.out.bd.isSl) trivial ?_
  simp only [Act.put]
  refine wpAnyH_take (i := 7) (oi := { dst := some 8, op := _, type := _, pos := _, after := _, guard := none }) (v := ?_) rfl (by kernel_rfl) (by kernel_rfl) (by kernel_rfl) (fun _ _ _ h => h) (Or.inl ⟨by rfl, ?_⟩) trivial ?_
  rotate_left 1
  focus (intro w hSw; (try dsimp only at hSw); go_simp; try (with_reducible rfl))
  simp only [Act.put, List.setIfInBounds_toArray, List.set_cons_zero, List.set_cons_succ]
  refine wpAnyH_done (by kernel_rfl) ?_ _
  refine Pl.cutE (fun X => Below w.heap.size w X ∧ Bx X (w.heap.size + 1) (machL (M.rdM a).2 F.S) ∧ SlAt X F.S (M.rdM a).2) (HR3.out.drew.fin rfl) ?_
  rintro X ⟨hX1, hX2, hX3⟩
  have HX1 := hid hX1
  have HX2 := hid hX2
  have HX3 := hid hX3
  have HFI := hid HR3.out.bd.fit
  clear hX1 hX2 hX3
  go_wp2
  have hl := load_mach _ _ HX2.out.c
  refine bodyPost_ret (v := .tuple #[.int .u8 (M.rdM a).1, .agg (machL (M.rdM a).2 F.S).toArray, .int .i64 0]) ?_ rfl ⟨F.S, rfl, HX3.out, HFI.out, HR3.out.new, HX1.out⟩
  simp only [results, Try.results16]
  simp
  show (Result.andThen (Sem.run Try.prog (loadVar 41 ⟨w.heap.size + 1, 0, none⟩) X) _) = _
  rw [hl]
  rfl
set_option maxHeartbeats 800000 in
theorem Bu.read_a (M : Mach) (S : Sl) (w : World) (a : Int) (ha : 0 ≤ a ∧ a ≤ 65535) (hs : SlAt w S M) (hf : M.fit) :
    Calls Try.prog 16 #[.agg (machL M S).toArray, .bool true, .int .u16 a] w fun e w' => ∃ S', e = .returned (.tuple #[.int .u8 (M.rdA a).1, .agg (machL (M.rdA a).2 S').toArray, .int .i64 0]) ∧ SlAt w' S' (M.rdA a).2 ∧ (M.rdA a).2.fit ∧ SlNew (w.heap.size + 2) S' ∧ Below w.heap.size w w' := by
  have hB := (Bx.new w (machL M S) 41 (b := w.heap.size) rfl).over (.cells (machL zeroM nilS).toArray 41)
  have HB := hid hB
  have HR := hid (Bx.new (w.alloc (.cells (machL M S).toArray 41)) (machL zeroM nilS) 41 (b := w.heap.size + 1) (by simp))
  have HL := hid (stA (stA (st0 w) (.cells (machL M S).toArray 41)) (.cells (machL zeroM nilS).toArray 41))
  have HS := hid hs
  have HF := hid hf
  clear hB hs hf
  go_enter Try.func16, Try.ntmps16
  go_wp2_with (first
    | (refine wpList_load_mid rfl 41 _ rfl w.heap.size 0 rfl (machL M S) _ HB.out.c Try.underlying41 rfl info_mach ?_)
    | (refine wpList_field rfl 73 _ 0 rfl (.agg #[_, _]) _ rfl (field_0 _ _ _) ?_)
    | (go_at_call 21; refine (Bu.open_ok M S _ (HS.out.kept HL.out).lens (HS.out.kept HL.out) HF.out).mono ?_; rintro e w1 ⟨F, hFB, rfl, hr, hB1, hb1⟩; have HR1 := hid (RB.mk hB1 (stp HL.out hb1) (HR.out.kept hb1) (by rw [hFB]; simp) hr); clear hB1 hb1 hFB hr)
    | (go_at_call 30; refine (Bu.reach_a F.g _).mono ?_; rintro e w2 ⟨rfl, hb2⟩; have HR2 := hid (HR1.out.kept hb2); clear hb2)
    | (go_at_call 50; refine (Bu.read_A HR2.out.bd a ha (fun i hi => getA_all i hi)).mono ?_; rintro e w3 ⟨rfl, hB3, hT3⟩; have HR3 := hid (HR2.out.go hB3 hT3); clear hB3 hT3))
  refine wp_region_held_drew (S := fun _ => True) (by kernel_rfl) trivial ?_
  intro _
  refine wpAnyH_take (i := 0) (oi := { dst := some 27, op := _, type := _, pos := _, after := _, guard := none }) (v := ?_) rfl (by kernel_rfl) (by kernel_rfl) (by kernel_rfl) (fun _ _ _ h => h) (Or.inl ⟨by rfl, ?_⟩) trivial ?_
  rotate_left 1
  focus (intro w hSw; (try dsimp only at hSw); go_simp; try (with_reducible rfl))
  simp only [Act.put, List.setIfInBounds_toArray, List.set_cons_zero, List.set_cons_succ]
  refine wpAnyH_take (i := 1) (oi := { dst := some 28, op := _, type := _, pos := _, after := _, guard := none }) (v := ?_) rfl (by kernel_rfl) (by kernel_rfl) (by kernel_rfl) (fun _ _ _ h => h) (Or.inl ⟨by rfl, ?_⟩) trivial ?_
  rotate_left 1
  focus (intro w hSw; (try dsimp only at hSw); go_simp; try (with_reducible rfl))
  simp only [Act.put, List.setIfInBounds_toArray, List.set_cons_zero, List.set_cons_succ]
  refine wpAnyH_take (i := 2) (oi := { dst := some 29, op := _, type := _, pos := _, after := _, guard := none }) (v := ?_) rfl (by kernel_rfl) (by kernel_rfl) (by kernel_rfl) (fun _ _ _ h => h) (Or.inl ⟨by rfl, ?_⟩) trivial ?_
  rotate_left 1
  focus (intro w hSw; (try dsimp only at hSw); go_simp; try (with_reducible rfl))
  simp only [Act.put, List.setIfInBounds_toArray, List.set_cons_zero, List.set_cons_succ]
  refine wpAnyH_take (i := 3) (oi := { dst := some 30, op := _, type := _, pos := _, after := _, guard := none }) (v := ?_) rfl (by kernel_rfl) (by kernel_rfl) (by kernel_rfl) (fun _ _ _ h => h) (Or.inl ⟨by rfl, ?_⟩) trivial ?_
  rotate_left 1
  focus (intro w hSw; (try dsimp only at hSw); go_simp; try (with_reducible rfl))
  simp only [Act.put, List.setIfInBounds_toArray, List.set_cons_zero, List.set_cons_succ]
  refine wpAnyH_take (i := 5) (oi := { dst := some 6, op := _, type := _, pos := _, after := _, guard := none }) (v := ?_) rfl (by kernel_rfl) (by kernel_rfl) (by kernel_rfl) (fun _ _ _ h => h) (Or.inl ⟨by rfl, ?_⟩) trivial ?_
  rotate_left 1
  focus (intro w hSw; (try dsimp only at hSw); go_simp; try (with_reducible rfl))
  simp only [Act.put, List.setIfInBounds_toArray, List.set_cons_zero, List.set_cons_succ]
  refine readyH_load (i := 4) (op := { dst := some 31, op := _, type := _, pos := _, after := _, guard := none }) (by kernel_rfl) rfl rfl 41 _ rfl F.g 0 rfl (machL (M.rdA a).2 F.S) _ HR3.out.bd.row Try.underlying41 rfl info_mach trivial ?_
  simp only [Act.put, List.setIfInBounds_toArray, List.set_cons_zero, List.set_cons_succ]
  refine readyH_store (i := 6) (op := { dst := none, op := _, type := _, pos := _, after := _, guard := none }) (by kernel_rfl) rfl rfl 41 _ _ rfl (w.heap.size + 1) 0 (machL (M.rdA a).2 F.S).toArray rfl rfl HR3.out.drew.th info_mach (machL_one _ _ HR3.out.bd.isSl) trivial ?_
  simp only [Act.put]
  refine wpAnyH_take (i := 7) (oi := { dst := some 8, op := _, type := _, pos := _, after := _, guard := none }) (v := ?_) rfl (by kernel_rfl) (by kernel_rfl) (by kernel_rfl) (fun _ _ _ h => h) (Or.inl ⟨by rfl, ?_⟩) trivial ?_
  rotate_left 1
  focus (intro w hSw; (try dsimp only at hSw); go_simp; try (with_reducible rfl))
  simp only [Act.put, List.setIfInBounds_toArray, List.set_cons_zero, List.set_cons_succ]
  refine wpAnyH_done (by kernel_rfl) ?_ _
  refine Pl.cutE (fun X => Below w.heap.size w X ∧ Bx X (w.heap.size + 1) (machL (M.rdA a).2 F.S) ∧ SlAt X F.S (M.rdA a).2) (HR3.out.drew.fin rfl) ?_
  rintro X ⟨hX1, hX2, hX3⟩
  have HX1 := hid hX1
  have HX2 := hid hX2
  have HX3 := hid hX3
  have HFI := hid HR3.out.bd.fit
  clear hX1 hX2 hX3
  go_wp2
  have hl := load_mach _ _ HX2.out.c
  refine bodyPost_ret (v := .tuple #[.int .u8 (M.rdA a).1, .agg (machL (M.rdA a).2 F.S).toArray, .int .i64 0]) ?_ rfl ⟨F.S, rfl, HX3.out, HFI.out, HR3.out.new, HX1.out⟩
  simp only [results, Try.results16]
  simp
  show (Result.andThen (Sem.run Try.prog (loadVar 41 ⟨w.heap.size + 1, 0, none⟩) X) _) = _
  rw [hl]
  rfl
def bl1 : List UInt8 := [0, 4, 0, 0, 7, 9]
def bM1 : Mach := newD bl1 []
def bM2 : Mach := bM1.wrM 32769 5
def bM3 : Mach := bM2.wrM 53262 2
theorem b_t1 : tookM 32769 5 = 0 := by decide
theorem b_t2 : tookM 53262 2 = 4 := by decide
theorem b_rd : (bM3.rdM 32897).1 = 5 := by decide +kernel
theorem b_pc : bM3.main.PC = 4 := by decide +kernel
theorem b_held : bM3.held = true := by decide +kernel
theorem b_vid : bget bM3.video 1 = 4 := by decide +kernel
theorem slice_b (w : World) (t : TypeId) : sliceAt (w.alloc (.cells #[.int .u8 0, .int .u8 4, .int .u8 0, .int .u8 0, .int .u8 7, .int .u8 9] t)) (.slice (some ⟨w.heap.size, 0, none⟩) 6 6) bl1 := by
  refine Or.inr ⟨w.heap.size, 0, 6, rfl, by decide, by simp, fun j c hj => ?_⟩
  have hl := (List.getElem?_eq_some_iff.1 hj).1
  rw [Nat.zero_add, Pl.new _ _ _ _ rfl]
  have hc : j = 0 ∨ j = 1 ∨ j = 2 ∨ j = 3 ∨ j = 4 ∨ j = 5 := by simp [bl1] at hl; omega
  rcases hc with rfl | rfl | rfl | rfl | rfl | rfl <;> (cases hj; rfl)
theorem nil_sl (w : World) : sliceAt w (.slice none 0 0) [] := Or.inl ⟨none, 0, rfl, rfl⟩
theorem SlAt.isSl {W : World} {S : Sl} {M : Mach} (h : SlAt W S M) : S.isSl := fun j hj => by
  obtain ⟨a, c, e⟩ := h.lens j hj
  exact ⟨_, _, _, e⟩
/-- A machine in a box, its bytes where its slices say. -/
structure MB (w : World) (b : Nat) (M : Mach) (S : Sl) (Y : World) : Prop where
  low : Below w.heap.size w Y
  bx : Bx Y b (machL M S)
  sl : SlAt Y S M
  fit : M.fit
  ge : w.heap.size ≤ b
theorem MB.kept {w Y Y' : World} {b : Nat} {M : Mach} {S : Sl} (h : MB w b M S Y) (hb : Below Y.heap.size Y Y') : MB w b M S Y' := ⟨stp h.low hb, h.bx.kept hb, h.sl.kept hb, h.fit, h.ge⟩
theorem MB.th {w Y : World} {b : Nat} {M : Mach} {S : Sl} (h : MB w b M S Y) : Y.there b 0 75 := h.bx.there 0 75 (by rw [machL_len]; omega)
/-- Another machine is put into the box, its slices behind it. -/
theorem MB.put {w Y : World} {b n : Nat} {M M' : Mach} {S S' : Sl} (h : MB w b M S Y) (hs : SlAt Y S' M') (hn : SlNew n S') (hb : b < n) (hf : M'.fit) : MB w b M' S' (Y.setCells b 0 (machL M' S')) := by
  have hx := h.bx.puts 0 (machL M' S') (by rw [machL_len, machL_len]; omega)
  rw [putL_whole _ _ (by rw [machL_len, machL_len])] at hx
  exact ⟨Bl.puts h.low h.ge _, hx, hs.off hn hb _ _, hf, h.ge⟩
/-- A new box for a machine. -/
theorem MB.mk0 {w Y : World} {n : Nat} {M' : Mach} {S' : Sl} (hl : Below w.heap.size w Y) (hs : SlAt Y S' M') (hf : M'.fit) (t : TypeId) : MB w Y.heap.size M' S' ((Y.alloc (.cells (machL zeroM nilS).toArray t)).setCells Y.heap.size 0 (machL M' S')) := by
  have hx := (Bx.new Y (machL zeroM nilS) t (b := Y.heap.size) rfl).puts 0 (machL M' S') (by rw [machL_len, machL_len]; omega)
  rw [putL_whole _ _ (by rw [machL_len, machL_len])] at hx
  refine ⟨Bl.puts (stA hl _) hl.size _, hx, fun j hj => ?_, hf, hl.size⟩
  rcases hs j hj with h0 | ⟨g, o, cap, e1, e2, e3, e4⟩
  · exact Or.inl h0
  · refine Or.inr ⟨g, o, cap, e1, e2, by rw [size_sets]; simp; omega, fun i c hi => ?_⟩
    exact (World.cell?_of_block (heap_sets_far (x := g) (b := Y.heap.size) (by omega) _ _ _)).trans ((World.cell?_of_block (Below.heap_alloc _ _ _ e3)).trans (e4 i c hi))
theorem Bu.bw1 (S : Sl) (w : World) (hs : SlAt w S bM1) (hf : bM1.fit) : Calls Try.prog 17 #[.agg (machL bM1 S).toArray, .bool false, .int .u16 32769, .int .u8 5] w fun e w' => ∃ S', e = .returned (.tuple #[.agg (machL bM2 S').toArray, .int .i64 0, .int .i64 0]) ∧ SlAt w' S' bM2 ∧ bM2.fit ∧ SlNew (w.heap.size + 2) S' ∧ Below w.heap.size w w' := by
  have h := Bu.write_m bM1 S w 32769 5 (by omega) (by omega) hs hf
  rw [b_t1] at h
  exact h
theorem Bu.bw2 (S : Sl) (w : World) (hs : SlAt w S bM2) (hf : bM2.fit) : Calls Try.prog 17 #[.agg (machL bM2 S).toArray, .bool false, .int .u16 53262, .int .u8 2] w fun e w' => ∃ S', e = .returned (.tuple #[.agg (machL bM3 S').toArray, .int .i64 4, .int .i64 0]) ∧ SlAt w' S' bM3 ∧ bM3.fit ∧ SlNew (w.heap.size + 2) S' ∧ Below w.heap.size w w' := by
  have h := Bu.write_m bM2 S w 53262 2 (by omega) (by omega) hs hf
  rw [b_t2] at h
  exact h
def bM4 : Mach := (bM3.rdM 32897).2
theorem Bu.br (S : Sl) (w : World) (hs : SlAt w S bM3) (hf : bM3.fit) : Calls Try.prog 16 #[.agg (machL bM3 S).toArray, .bool false, .int .u16 32897] w fun e w' => ∃ S', e = .returned (.tuple #[.int .u8 5, .agg (machL bM4 S').toArray, .int .i64 0]) ∧ SlAt w' S' bM4 ∧ bM4.fit ∧ SlNew (w.heap.size + 2) S' ∧ Below w.heap.size w w' := by
  have h := Bu.read_m bM3 S w 32897 (by omega) hs hf
  rw [b_rd] at h
  exact h
theorem zero_th (Y : World) (t : TypeId) : (Y.alloc (.cells (machL zeroM nilS).toArray t)).there Y.heap.size 0 75 := (Bx.new Y (machL zeroM nilS) t (b := Y.heap.size) rfl).there 0 75 (by rw [machL_len]; omega)
/-- What the last row reads. -/
theorem MB.last {w Y : World} {b : Nat} {S : Sl} (h : MB w b bM3 S Y) : Y.cell? ⟨b, 8, none⟩ = some (.int .u16 4) ∧ Y.cell? ⟨b, 68, none⟩ = some (.bool true) ∧ b < Y.heap.size ∧ ∃ g o cap, Y.cell? ⟨b, 34, none⟩ = some (.slice (some ⟨g, o, none⟩) 256 cap) ∧ Y.cell? ⟨g, o + 1, none⟩ = some (.int .u8 4) ∧ g < Y.heap.size := by
  have hv : bM3.video.length = 256 := h.fit.video
  refine ⟨?_, ?_, h.bx.z, ?_⟩
  · have := h.bx.at 8 (.int .u16 bM3.main.PC) rfl
    rw [b_pc] at this; exact this
  · have := h.bx.at 68 (.bool bM3.held) rfl
    rw [b_held] at this; exact this
  · have h4 := h.sl 4 (by omega)
    have hc := h.bx.at 34 (S.get 4) rfl
    rcases h4 with ⟨_, _, _, e⟩ | ⟨g, o, cap, e1, e2, e3, e4⟩
    · have e' : bM3.video = [] := e
      rw [e'] at hv; simp at hv
    · have e1' : S.get 4 = .slice (some ⟨g, o, none⟩) bM3.video.length cap := e1
      rw [hv] at e1'
      refine ⟨g, o, cap, by rw [hc, e1'], ?_, e3⟩
      have hx : bM3.video[1]? = some (bM3.video.getD 1 0) := by simp [List.getD, List.getElem?_eq_getElem (show 1 < bM3.video.length by omega)]
      have := e4 1 _ hx
      rw [this]
      have hb := b_vid
      unfold bget at hb
      have hb' : ((bM3.video.getD 1 0).toNat : Int) = 4 := hb
      rw [hb']
set_option maxHeartbeats 1600000 in
theorem Bu.bussed_any (w : World) : Calls Try.prog 9 #[] w fun e w' => e = .returned (.bool true) ∧ Below w.heap.size w w' := by
  go_enter Try.func9, Try.ntmps9
  go_wp2_with (first
    | (go_at_call 8; refine (Bu.new_ok bl1 [] _ _ _ (slice_b w _) (nil_sl _) (by decide) (by decide)).mono ?_; rintro e w1 ⟨S1, rfl, hs1, hf1, hn1, hb1⟩; have HS1 := hid hs1; have HF1 := hid hf1; have HL1 := hid (stp (stA (st0 w) _) hb1); clear hs1 hf1 hn1 hb1)
    | (go_at_call 17; refine (Bu.bw2 S2 _ HY2.out.sl HY2.out.fit).mono ?_; rintro e w3 ⟨S3, rfl, hs3, hf3, hn3, hb3⟩; have HS3 := hid hs3; have HF3 := hid hf3; have HN3 := hid hn3; have HY2k := hid (HY2.out.kept hb3); clear hs3 hf3 hn3 hb3)
    | (go_at_call 17; refine (Bu.bw1 S1 _ HY1.out.sl HY1.out.fit).mono ?_; rintro e w2 ⟨S2, rfl, hs2, hf2, hn2, hb2⟩; have HS2 := hid hs2; have HF2 := hid hf2; have HN2 := hid hn2; have HY1k := hid (HY1.out.kept hb2); clear hs2 hf2 hn2 hb2)
    | (go_at_call 16; refine (Bu.br S3 _ HY3.out.sl HY3.out.fit).mono ?_; rintro e w4 ⟨S4, rfl, hs4, hf4, hn4, hb4⟩; have HS4 := hid hs4; have HY3k := hid (HY3.out.kept hb4); clear hs4 hf4 hn4 hb4)
    | (refine wpList_load_mid rfl 41 _ rfl w1.heap.size 0 rfl (machL bM3 S3) _ HY3.out.bx.c Try.underlying41 rfl info_mach ?_)
    | (refine wpList_load_mid rfl 41 _ rfl w1.heap.size 0 rfl (machL bM2 S2) _ HY2.out.bx.c Try.underlying41 rfl info_mach ?_)
    | (refine wpList_load_mid rfl 41 _ rfl w1.heap.size 0 rfl (machL bM1 S1) _ HY1.out.bx.c Try.underlying41 rfl info_mach ?_)
    | (refine wpList_store_mid rfl 41 _ _ rfl w4.heap.size 0 (machL bM4 S4).toArray rfl rfl (zero_th w4 _) info_mach (machL_one _ _ HS4.out.isSl) ?_
       refine Pl.cutL (MB w w1.heap.size bM3 S3) (HY3k.out.kept (Bl.puts (stA (st0 w4) _) (Nat.le_refl _) _)) ?_
       intro Y4 hY4
       have HY4 := hid hY4
       obtain ⟨g8, g68, gz, gg, go, gc, g34, gv, gz2⟩ := hY4.last
       clear hY4)
    | (refine wpList_store_mid rfl 41 _ _ rfl w1.heap.size 0 (machL bM3 S3).toArray rfl rfl HY2k.out.th info_mach (machL_one _ _ HS3.out.isSl) ?_
       refine Pl.cutL (MB w w1.heap.size bM3 S3) (HY2k.out.put HS3.out HN3.out (Nat.lt_of_lt_of_le HY2.out.bx.z (Nat.le_add_right _ _)) HF3.out) ?_
       intro Y3 hY3
       have HY3 := hid hY3
       clear hY3)
    | (refine wpList_store_mid rfl 41 _ _ rfl w1.heap.size 0 (machL bM2 S2).toArray rfl rfl HY1k.out.th info_mach (machL_one _ _ HS2.out.isSl) ?_
       refine Pl.cutL (MB w w1.heap.size bM2 S2) (HY1k.out.put HS2.out HN2.out (Nat.lt_of_lt_of_le HY1.out.bx.z (Nat.le_add_right _ _)) HF2.out) ?_
       intro Y2 hY2
       have HY2 := hid hY2
       clear hY2)
    | (refine wpList_store_mid rfl 41 _ _ rfl w1.heap.size 0 (machL bM1 S1).toArray rfl rfl (zero_th w1 _) info_mach (machL_one _ _ HS1.out.isSl) ?_
       refine Pl.cutL (MB w w1.heap.size bM1 S1) (MB.mk0 (n := 0) HL1.out HS1.out HF1.out _) ?_
       intro Y1 hY1
       have HY1 := hid hY1
       clear hY1))
  go_ret
  exact ⟨rfl, HY4.out.low⟩
set_option linter.unusedVariables false

theorem bget_bput {l : List UInt8} {i x : Int} (h0 : 0 ≤ i) (hi : i < l.length) (hx : 0 ≤ x ∧ x ≤ 255) : bget (bput l i x) i = x := by
  unfold bget bput
  have hn : i.toNat < l.length := by omega
  rw [List.getD_eq_getElem?_getD, List.getElem?_set_self hn]
  simp only [Option.getD_some, UInt8.toNat_ofNat']
  omega
theorem Bk.port {a : Int} (h : 32768 ≤ a ∧ a ≤ 53247) : isPort a = false := by
  unfold isPort; exact decide_eq_false (by omega)
theorem Bk.took {a n : Int} (h : 32768 ≤ a ∧ a ≤ 53247) : tookM a n = 0 := by
  unfold tookM; rw [Bk.port h]; rfl
theorem Bk.rd {M : Mach} {a n : Int} (hr : M.ram.length = 128) (hv : M.video.length = 256) (h : 32768 ≤ a ∧ a ≤ 53247) (hn : 0 ≤ n ∧ n ≤ 255) : (M.wrM a n).rdM a = (n, M.wrM a n) := by
  unfold Mach.rdM Mach.wrM
  rw [Bk.port h]
  simp only [Bool.false_eq_true, if_false]
  refine Prod.ext ?_ rfl
  unfold Mach.lookM Mach.memM
  by_cases h1 : a < 49152
  · rw [if_neg (by omega), if_pos h1, if_neg (by omega), if_pos h1]
    exact bget_bput (by omega) (by rw [hr]; omega) hn
  · rw [if_neg (by omega), if_neg h1, if_pos (by omega), if_neg (by omega), if_neg h1, if_pos (by omega)]
    exact bget_bput (by omega) (by rw [hv]; omega) hn
theorem Gr.wr {M : Mach} (hg : M.granted = false) (a n : Int) : (M.wrA a n).ram = M.ram ∧ (M.wrA a n).video = M.video ∧ (M.wrA a n).main = M.main ∧ (M.wrA a n).t = M.t := by
  unfold Mach.wrA Mach.putA Mach.memA
  rw [hg]
  simp only [Bool.false_eq_true, if_false]
  (repeat' split) <;> exact ⟨rfl, rfl, rfl, rfl⟩
theorem Gr.rd {M : Mach} (hg : M.granted = false) {a : Int} (h : 49152 ≤ a ∧ a ≤ 53247) : M.rdA a = (255, M) := by
  unfold Mach.rdA Mach.lookA
  rw [Bk.port (by omega), hg]
  simp only [Bool.false_eq_true, if_false]
  rw [if_neg (by omega), if_neg (by omega)]
  simp only [ite_self]
def Mach.bare (M : Mach) : Mach := { M with granted := false }
theorem bare_chk (M : Mach) : M.bare.chk = M.chk := rfl
theorem bare_cells (M : Mach) (S : Sl) : (machL M S).set 67 (.bool false) = machL M.bare S := rfl
set_option maxHeartbeats 1600000 in
theorem Bu.granted_bad (M : Mach) (S : Sl) (w : World) (a n : Int) (hS : S.lens M) (hz : ∀ j, j < 5 → (M.byt j).length ≤ 9223372036854775807) (hc : M.chk ≠ 0) :
    Calls Try.prog 5 #[.agg (machL M S).toArray, .int .u16 a, .int .u8 n] w fun e w' => e = .returned (.bool true) ∧ Below w.heap.size w w' := by
  have hB := Bx.new w (machL M S) 41 (b := w.heap.size) rfl
  have x67 := hB.at 67 (.bool M.granted) rfl
  have HSL : Hid (S.lens M.bare) := hid hS
  have HZ : Hid (∀ j, j < 5 → (M.bare.byt j).length ≤ 9223372036854775807) := hid hz
  have HCN : Hid (M.bare.chk ≠ 0) := hid hc
  have hne : (M.bare.chk != 0) = true := by simpa using HCN.out
  clear hS hz hc hB
  generalize hcc : M.bare.chk = c at hne
  have HCC := hid hcc
  clear hcc
  go_enter Try.func5, Try.ntmps5
  go_upto_region 2 with fail
  rw [bare_cells]
  refine Pl.cutW (fun X => Below w.heap.size w X ∧ Bx X w.heap.size (machL M.bare S)) ⟨stA (st0 w) _, Bx.new w _ _ rfl⟩ ?_
  rintro Y ⟨hY1, hY2⟩
  have HL := hid hY1
  have HB := hid hY2
  clear hY1 hY2 x67
  go_wp2_with (first
    | (refine wpList_load_mid rfl 41 _ rfl w.heap.size 0 rfl (machL M.bare S) _ HB.out.c Try.underlying41 rfl info_mach ?_)
    | (go_at_call 17; refine (Bu.write_bad M.bare S true _ _ _ HSL.out HZ.out HCN.out).mono ?_; rw [HCC.out]; rintro e w1 ⟨rfl, hb1⟩; have HL1 := hid (stp HL.out hb1); clear hb1)
    | (go_at_call 9; refine (Bu.bussed_any _).mono ?_; rintro e w3 ⟨rfl, hb3⟩; have HL3 := hid (stp HL2.out hb3); clear hb3)
    | (go_at_call 9; refine (Bu.bussed_any _).mono ?_; rintro e w2 ⟨rfl, hb2⟩; have HL2 := hid (stp HX.out hb2); clear hb2)
    | (refine wpList_store_mid rfl 41 _ _ rfl w1.heap.size 0 (machL zeroM nilS).toArray rfl rfl (zero_th w1 _) info_mach (machL_one _ _ zero_sl) ?_
       refine Pl.cutL (fun X => Below w.heap.size w X) (Bl.puts (stA HL1.out _) HL1.out.size _) ?_
       intro X hX
       have HX := hid hX
       clear hX))
  go_ret
  exact ⟨rfl, HL3.out⟩
theorem gr_at {a : Int} (ha : 0 ≤ a ∧ a ≤ 65535) : ∃ c, bits .or .u16 49152 (bits .and .u16 a 4095) = c ∧ 49152 ≤ c ∧ c ≤ 53247 := by
  obtain ⟨N, rfl⟩ := Int.eq_ofNat_of_zero_le ha.1
  refine ⟨_, rfl, ?_⟩
  have hx : N &&& 4095 < 2 ^ 12 := Nat.lt_of_le_of_lt Nat.and_le_right (by decide)
  have h0 : (12 <<< 12 : Nat) = 49152 := by decide
  have h1 := Nat.shiftLeft_add_eq_or_of_lt hx 12
  rw [h0] at h1
  have h2 := u16_and_nat N 4095 (by omega) (by omega)
  have h3 := u16_or_nat 49152 (N &&& 4095) (by omega) (by omega)
  have h4 : bits .or .u16 49152 (bits .and .u16 (N : Int) 4095) = ((49152 ||| (N &&& 4095) : Nat) : Int) := (congrArg (bits .or .u16 49152) h2).trans h3
  rw [h4, ← h1]
  omega
theorem neq_of_eql {P : Program} {w : World} {t : TypeId} {xs ys : Array Value} (h : (binOp .eql t (.agg xs) (.agg ys)).run P w = .ok (.bool true) w) : (binOp .neq t (.agg xs) (.agg ys)).run P w = .ok (.bool false) w := by
  rw [run_eql_struct] at h
  rw [run_neq_struct]
  cases hr : (Op.equalIn 10000 t (.agg xs) (.agg ys)).run P w <;> rw [hr] at h <;> simp_all [Result.andThen]
theorem bare_fit {M : Mach} (h : M.fit) : M.bare.fit := { h with main := h.main }
/-- Two machines in two boxes. -/
def TB (w : World) (b b' : Nat) (M M' : Mach) (S S' : Sl) (Y : World) : Prop := MB w b M S Y ∧ MB w b' M' S' Y
set_option maxHeartbeats 1600000 in
theorem Bu.granted_ok (M : Mach) (S : Sl) (w : World) (a n : Int) (ha : 0 ≤ a ∧ a ≤ 65535) (hn : 0 ≤ n ∧ n ≤ 255) (hs : SlAt w S M) (hf : M.fit) :
    Calls Try.prog 5 #[.agg (machL M S).toArray, .int .u16 a, .int .u8 n] w fun e w' => e = .returned (.bool true) ∧ Below w.heap.size w w' := by
  have hB := Bx.new w (machL M S) 41 (b := w.heap.size) rfl
  have x67 := hB.at 67 (.bool M.granted) rfl
  have HM0 : Hid (MB w w.heap.size M.bare S (w.alloc (.cells (machL M.bare S).toArray 41))) := hid ⟨stA (st0 w) _, Bx.new w _ _ rfl, hs.kept (stA (st0 w) _), bare_fit hf, Nat.le_refl _⟩
  have hg : M.bare.granted = false := rfl
  obtain ⟨g1, g2, g3, g4⟩ := Gr.wr hg a n
  have hw := fun S w hs hf => Bu.write_a M.bare S w a n ha hn hs hf
  have hq := fun (S : Sl) (w : World) (c : Int) (hc : 49152 ≤ c ∧ c ≤ 53247) hs hf => Bu.read_a M.bare S w c (by omega) hs hf
  have hr := fun (c : Int) (hc : 49152 ≤ c ∧ c ≤ 53247) => Gr.rd hg hc
  generalize M.bare.wrA a n = M1 at hw g1 g2 g3 g4
  have HW := hid hw
  have HQ := hid hq
  have HR := hid hr
  clear hs hf hw hq hr hB hg
  go_enter Try.func5, Try.ntmps5
  go_upto_region 2 with fail
  rw [bare_cells]
  generalize M.bare = M0 at *
  refine Pl.cutW (MB w w.heap.size M0 S) HM0.out ?_
  intro Y hY
  have HY := hid hY
  clear hY x67 HM0
  go_upto_region 5 with (first
    | (refine wpList_load_mid rfl 41 _ rfl w.heap.size 0 rfl (machL M0 S) _ HY.out.bx.c Try.underlying41 rfl info_mach ?_)
    | (go_at_call 17; refine (HW.out S _ HY.out.sl HY.out.fit).mono ?_; rintro e w1 ⟨S1, rfl, hs1, hf1, hn1, hb1⟩; have HY1 := hid (HY.out.kept hb1); have HS1 := hid hs1; have HF1 := hid hf1; clear hs1 hf1 hn1 hb1)
    | (go_at_call 9; refine (Bu.bussed_any _).mono ?_; rintro e w2 ⟨rfl, hb2⟩; have HX2 : Hid (TB w w.heap.size w1.heap.size M0 M1 S S1 w2) := hid ⟨HX.out.1.kept hb2, HX.out.2.kept hb2⟩; clear hb2)
    | (refine wpList_store_mid rfl 41 _ _ rfl w1.heap.size 0 (machL M1 S1).toArray rfl rfl (zero_th w1 _) info_mach (machL_one _ _ HS1.out.isSl) ?_
       refine Pl.cutL (TB w w.heap.size w1.heap.size M0 M1 S S1) ⟨HY1.out.kept (Bl.puts (stA (st0 w1) _) (Nat.le_refl _) _), MB.mk0 (n := 0) HY1.out.low HS1.out HF1.out _⟩ ?_
       intro X hX
       have HX := hid hX
       clear hX))
  have HG := hid (And.intro g1 (And.intro g2 (And.intro g3 g4)))
  have hT := HX2.out
  obtain ⟨u0, c0, e0⟩ := hT.1.sl.lens 2 (by omega)
  obtain ⟨u1, c1, e1⟩ := hT.1.sl.lens 4 (by omega)
  obtain ⟨v0, d0, f0⟩ := hT.2.sl.lens 2 (by omega)
  obtain ⟨v1, d1, f1⟩ := hT.2.sl.lens 4 (by omega)
  have x0 := hT.1.bx.at 32 (S.get 2) rfl
  have x1 := hT.1.bx.at 34 (S.get 4) rfl
  have y0 := hT.2.bx.at 32 (S1.get 2) rfl
  have y1 := hT.2.bx.at 34 (S1.get 4) rfl
  have k0 := hT.1.sl 2 (by omega)
  have k1 := hT.1.sl 4 (by omega)
  have l0 := hT.2.sl 2 (by omega)
  have l1 := hT.2.sl 4 (by omega)
  have m0 : M1.byt 2 = M0.byt 2 := g1
  have m1 : M1.byt 4 = M0.byt 4 := g2
  rw [e0] at x0 k0
  rw [e1] at x1 k1
  rw [f0] at y0 l0
  rw [f1] at y1 l1
  rw [m0] at y0 l0
  rw [m1] at y1 l1
  have p41 := hT.1.bx.at 41 (.int .u16 M0.t.r) rfl
  have p42 := hT.1.bx.at 42 (.int .u16 M0.t.c) rfl
  have p43 := hT.1.bx.at 43 (.bool M0.t.on) rfl
  have p44 := hT.1.bx.at 44 (.bool M0.t.g) rfl
  have r41 := hT.2.bx.at 41 (.int .u16 M1.t.r) rfl
  have r42 := hT.2.bx.at 42 (.int .u16 M1.t.c) rfl
  have r43 := hT.2.bx.at 43 (.bool M1.t.on) rfl
  have r44 := hT.2.bx.at 44 (.bool M1.t.g) rfl
  have n1 := hT.1.bx.mainR
  have n2 := hT.2.bx.mainR
  rw [g3] at n2
  rw [g4] at r41 r42 r43 r44
  have q1 := fun W => neq_of_eql (Bu.eq_cpuL M0.main W)
  have q4 := fun W => neq_of_eql (Bu.eq_timer M0.t.r M0.t.c M0.t.on M0.t.g W)
  have hz := hT.1.bx.z
  have hz1 := hT.2.bx.z
  have K0 := hid k0
  have K1 := hid k1
  have L0 := hid l0
  have L1 := hid l1
  have N1 := hid n1
  have N2 := hid n2
  clear hT g1 g2 g3 g4 e0 e1 f0 f1 m0 m1 k0 k1 l0 l1 n1 n2
  go_upto_region 7 with (first
    | (go_at_call 20; refine (equal_any _ _ (M0.byt 2) (M0.byt 2) _ L0.out K0.out).mono ?_; rw [beq_self_eq_true]; rintro e w1 ⟨rfl, rfl⟩)
    | (go_at_call 20; refine (equal_any _ _ (M0.byt 4) (M0.byt 4) _ L1.out K1.out).mono ?_; rw [beq_self_eq_true]; rintro e w1 ⟨rfl, rfl⟩)
    | (refine Bu.loadG rfl 26 _ rfl w.heap.size 0 rfl (cpuL M0.main) _ N1.out Try.underlying26 rfl info_cpu ?_)
    | (refine Bu.loadG rfl 26 _ rfl w1.heap.size 0 rfl (cpuL M0.main) _ N2.out Try.underlying26 rfl info_cpu ?_))
  clear q1 q4 p41 p42 p43 p44 r41 r42 r43 r44 x0 x1 y0 y1 hz hz1 K0 K1 L0 L1 N1 N2 HG
  obtain ⟨c, ec, hc⟩ := gr_at ha
  have HC := hid hc
  clear hc
  go_wp2_with (first
    | (refine wpList_load_mid rfl 41 _ rfl w.heap.size 0 rfl (machL M0 S) _ HX2.out.1.bx.c Try.underlying41 rfl info_mach ?_)
    | (refine Bu.loadG rfl 41 _ rfl w3.heap.size 0 rfl (machL M0 S3) _ HZ.out.2.bx.c Try.underlying41 rfl info_mach ?_)
    | (refine Bu.loadG rfl 41 _ rfl w.heap.size 0 rfl (machL M0 S) _ HZ.out.1.bx.c Try.underlying41 rfl info_mach ?_)
    | (go_at_call 16; refine (HQ.out S _ c HC.out HX2.out.1.sl HX2.out.1.fit).mono ?_; rw [HR.out c HC.out]; rintro e w3 ⟨S3, rfl, hs3, hf3, hn3, hb3⟩; have HX3 := hid (HX2.out.1.kept hb3); have HS3 := hid hs3; have HF3 := hid hf3; clear hs3 hf3 hn3 hb3)
    | (go_at_call 13; refine (Bu.same_any M0 S3 S _ HZ.out.2.sl HZ.out.1.sl).mono ?_; rintro e w4 ⟨rfl, hb4⟩; have HL4 := hid (stp HZ.out.1.low hb4); clear hb4)
    | (refine wpList_store_mid rfl 41 _ _ rfl w3.heap.size 0 (machL M0 S3).toArray rfl rfl (zero_th w3 _) info_mach (machL_one _ _ HS3.out.isSl) ?_
       refine Pl.cutL (TB w w.heap.size w3.heap.size M0 M0 S S3) ⟨HX3.out.kept (Bl.puts (stA (st0 w3) _) (Nat.le_refl _) _), MB.mk0 (n := 0) HX3.out.low HS3.out HF3.out _⟩ ?_
       intro Z hZ
       have HZ := hid hZ
       clear hZ))
  go_ret
  exact ⟨rfl, HL4.out⟩
def BusGrantedWalk : Prop := ∀ (H : Type) (enc : TypeId × Value → H) (W : World) (base : Nat) (v0 v1 v2 : Value) (d0 d1 d2 : DataW H) (p0 p1 p2 : List MemPlace),
  Value.okWide Try.prog W .any base (Try.f5.params.getD 0 0) v0 → DataW.Trod enc Try.prog W 0 (fun _ => true) true (Try.f5.params.getD 0 0) v0 d0 p0 → Value.okWide Try.prog W .any base (Try.f5.params.getD 1 0) v1 → DataW.Trod enc Try.prog W 0 (fun _ => true) true (Try.f5.params.getD 1 0) v1 d1 p1 → Value.okWide Try.prog W .any base (Try.f5.params.getD 2 0) v2 → DataW.Trod enc Try.prog W 0 (fun _ => true) true (Try.f5.params.getD 2 0) v2 d2 p2 →
  Calls Try.prog 5 #[v0, v1, v2] W fun e w' => e = .returned (.bool true) ∧ Below W.heap.size W w'
set_option maxRecDepth 100000 in
theorem busGranted_lifted (walk : BusGrantedWalk) (os : Os) (started : os.Started) (H : Type) (enc : TypeId × Value → H) :
    ReturnsInHanded {} Try.checked os 5 .any (Rows.busGrantedSpec.pre6 enc Try.prog Try.f5 Rows.busGrantedRow.domain false) (Rows.busGrantedSpec.post enc Try.prog Try.f5 false true false false) := by
  refine returnsInHanded_of_change (C := Try.checked) own started (by kernel_rfl) Try.func5
    (ChangeSpec.witness6 (enc := enc) (C := Try.checked) false ⟨#[], #[.agg #[.int .u16 0, .int .u16 0, .int .u16 0, .int .u16 0, .int .u16 0, .int .u16 0, .int .u16 0, .int .u16 0, .int .u16 0, .bool false, .bool false, .bool false, .bool false, .bool false, .bool false, .int .u16 0, .int .u16 0, .int .u16 0, .int .u16 0, .int .u16 0, .int .u16 0, .int .u16 0, .int .u16 0, .int .u16 0, .bool false, .bool false, .bool false, .bool false, .bool false, .bool false, .slice none 0 0, .slice none 0 0, .slice none 0 0, .slice none 0 0, .slice none 0 0, .int .u8 0, .bool false, .int .u8 0, .int .u8 0, .bool false, .int .u8 0, .int .u16 0, .int .u16 0, .bool false, .bool false, .int .u16 0, .int .u16 0, .int .u8 0, .bool false, .int .u16 0, .int .u16 0, .int .u16 0, .int .u8 0, .bool false, .int .u16 0, .int .u16 0, .int .u16 0, .int .u8 0, .bool false, .int .u16 0, .int .i64 0, .int .i64 0, .int .i64 0, .bool false, .int .i64 0, .int .u16 0, .int .u16 0, .bool false, .bool false, .int .u8 0, .int .u8 0, .bool false, .int .i64 0, .int .i64 0, .int .i64 0], .int .u16 0, .int .u8 0], []⟩ 8 (by kernel_rfl) (by kernel_rfl) (by kernel_rfl) (by kernel_rfl)) ?_
  intro W base args ds gs before hval0 hW hcnd _
  have hval : ∀ (j : Nat) t v, Try.f5.params[j]? = some t → args[j]? = some v → Value.okWide Try.prog W .any base t v := hval0
  have hW' := hW
  obtain ⟨p, q, hA0, hV, rfl, _, _⟩ := hW
  have hA : DataW.TrodAll enc Try.prog W 0 (fun _ => true) true Try.f5.params.toList args.toList ds p := hA0
  have hA1 := hA
  rw [Try.params5] at hA hval
  obtain ⟨v0, vs0, d0, ds0, p0, q0, hargs, rfl, rfl, h0, r0⟩ := trodAll_cons hA
  obtain ⟨v1, vs1, d1, ds1, p1, q1, rfl, rfl, rfl, h1, r1⟩ := trodAll_cons r0
  obtain ⟨v2, vs2, d2, ds2, p2, q2, rfl, rfl, rfl, h2, r2⟩ := trodAll_cons r1
  obtain ⟨rfl, rfl, rfl⟩ := trodAll_nil r2
  obtain rfl : args = #[v0, v1, v2] := by cases args; simp_all
  obtain ⟨rfl, rfl⟩ := trodVars_none hV
  have hlt := fun x hx => hW'.lt x (List.mem_append_left _ hx)
  refine (walk H enc W base v0 v1 v2 d0 d1 d2 _ _ _ (hval 0 _ v0 rfl rfl) h0 (hval 1 _ v1 rfl rfl) h1 (hval 2 _ v2 rfl rfl) h2).mono fun e W' ⟨he, hb⟩ => ?_
  subst he
  exact ⟨_, rfl, _, _, _, [], _, [], hW', trodAll_mk1 (shut_bool Try.underlying4 _), trodAll_below_all (by kernel_rfl) hb (by kernel_rfl) hA1 hlt, rfl, hb.frame _, fun h => by cases h⟩
theorem busGranted_row (walk : BusGrantedWalk) : Rows.BusGrantedSaid :=
  OpenClaim.holds_of_wide 5 Try.f5 rfl rfl rfl rfl rfl rfl rfl ⟨rfl, rfl, rfl, rfl, rfl⟩ rfl rfl rfl rfl rfl (by kernel_rfl) Try.func5 (by kernel_rfl)
    (of_decide_eq_true (by kernel_rfl)) (by unfold Func.isWrapper; first | (rw [if_pos (by decide +kernel)]; kernel_rfl) | (rw [if_neg (by decide +kernel)]; exact ⟨rfl, rfl⟩))
    (fun os started H enc _ => busGranted_lifted walk os started H enc)
theorem busGranted_walk : BusGrantedWalk := by
  intro H enc W base v0 v1 v2 d0 d1 d2 p0 p1 p2 k0 t0 k1 t1 k2 t2
  obtain ⟨M, S, rfl, hok, hs, hz⟩ := open_mach k0 t0
  obtain ⟨a, rfl, _, _, wa⟩ := open_int Try.underlying23 k1 t1
  obtain ⟨n, rfl, _, _, wn⟩ := open_int Try.underlying5 k2 t2
  have ha := bounds_u16 wa
  have hn := bounds_u8 wn
  by_cases hc : M.chk = 0
  · exact Bu.granted_ok M S W a n ha hn hs (chk_fit hok hc)
  · exact Bu.granted_bad M S W a n hs.lens hz hc
theorem busGranted_holds : Rows.BusGrantedSaid := busGranted_row busGranted_walk
end Go.Proofs.Ytldgjapiobpanaa
