/-
  Joined texts.
-/
import Derived.Test.YthooknikfachnaaZeC
import Derived.Test.YthooknikfachnaaZeG
import Derived.Test.YthooknikfachnaaBusE
import Derived.Test.YthooknikfachnaaZeN
import Derived.Deep.DeepCutAuto
import Derived.Test.YthooknikfachnaaBusT
import Derived.Test.YthooknikfachnaaTonK
import Derived.ChangeKeysEq
import Derived.Laws.StructEq
import Derived.Test.YthooknikfachnaaZeY
import Derived.Test.YthooknikfachnaaZeK
namespace Go.Proofs.Ythooknikfachnaa
open Go.ChangeShapes Go.WideShapes Go.ChangeAt Go.RowKit
set_option linter.unusedVariables false
set_option maxRecDepth 100000

set_option maxHeartbeats 800000 in
theorem Bu.read_m (M : Mach) (S : Sl) (w : World) (a : Int) (ha : 0 ≤ a ∧ a ≤ 65535) (hs : SlAt w S M) (hf : M.fit) :
    Calls Try.prog 16 #[.agg (machL M S).toArray, .bool false, .int .u16 a] w fun e w' => ∃ S', e = .returned (.tuple #[.int .u8 (M.rdM a).1, .agg (machL (M.rdM a).2 S').toArray, .int .i64 0]) ∧ SlAt w' S' (M.rdM a).2 ∧ (M.rdM a).2.fit ∧ SlNew (w.heap.size + 2) S' ∧ Below w.heap.size w w' := by
  have hB := (Bx.new w (machL M S) 41 (b := w.heap.size) rfl).over (.cells (machL zeroM nilS).toArray 41)
  have HB := hid hB
  have HR := hid (Bx.new (w.alloc (.cells (machL M S).toArray 41)) (machL zeroM nilS) 41 (b := w.heap.size + 1) (by simp))
  have HL := hid (stA (stA (st0 w) (.cells (machL M S).toArray 41)) (.cells (machL zeroM nilS).toArray 41))
  have HS := hid hs
  have HF := hid hf
  clear hB hs hf
  go_enter Try.func16, Try.ntmps16
  go_wp2_with (first
    | (refine wpList_load_mid rfl 41 _ rfl w.heap.size 0 rfl (machL M S) _ HB.out.c Try.underlying41 rfl info_mach ?_)
    | (refine wpList_field rfl 73 _ 0 rfl (.agg #[_, _]) _ rfl (field_0 _ _ _) ?_)
    | (go_at_call 21; refine (Bu.open_ok M S _ (HS.out.kept HL.out).lens (HS.out.kept HL.out) HF.out).mono ?_; rintro e w1 ⟨F, hFB, rfl, hr, hB1, hb1⟩; have HR1 := hid (RB.mk hB1 (stp HL.out hb1) (HR.out.kept hb1) (by rw [hFB]; simp) hr); clear hB1 hb1 hFB hr)
    | (go_at_call 30; refine (Bu.reach_m F.g _).mono ?_; rintro e w2 ⟨rfl, hb2⟩; have HR2 := hid (HR1.out.kept hb2); clear hb2)
    | (go_at_call 50; refine (Bu.read_M HR2.out.bd a ha (fun i hi => getM_all i hi)).mono ?_; rintro e w3 ⟨rfl, hB3, hT3⟩; have HR3 := hid (HR2.out.go hB3 hT3); clear hB3 hT3))
  refine wp_region_held_drew (S := fun _ => True) (by kernel_rfl) trivial ?_
  intro _
  refine wpAnyH_take (i := 0) (oi := { dst := some 27, op := _, type := _, pos := _, after := _, guard := none }) (v := ?_) rfl (by kernel_rfl) (by kernel_rfl) (by kernel_rfl) (fun _ _ _ h => h) (Or.inl ⟨by rfl, ?_⟩) trivial ?_
  rotate_left 1
  focus (intro w hSw; (try dsimp only at hSw); go_simp; try (with_reducible rfl))
  simp only [Act.put, List.setIfInBounds_toArray, List.set_cons_zero, List.set_cons_succ]
  refine wpAnyH_take (i := 1) (oi := { dst := some 28, op := _, type := _, pos := _, after := _, guard := none }) (v := ?_) rfl (by kernel_rfl) (by kernel_rfl) (by kernel_rfl) (fun _ _ _ h => h) (Or.inl ⟨by rfl, ?_⟩) trivial ?_
  rotate_left 1
  focus (intro w hSw; (try dsimp only at hSw); go_simp; try (with_reducible rfl))
  simp only [Act.put, List.setIfInBounds_toArray, List.set_cons_zero, List.set_cons_succ]
  refine wpAnyH_take (i := 2) (oi := { dst := some 29, op := _, type := _, pos := _, after := _, guard := none }) (v := ?_) rfl (by kernel_rfl) (by kernel_rfl) (by kernel_rfl) (fun _ _ _ h => h) (Or.inl ⟨by rfl, ?_⟩) trivial ?_
  rotate_left 1
  focus (intro w hSw; (try dsimp only at hSw); go_simp; try (with_reducible rfl))
  simp only [Act.put, List.setIfInBounds_toArray, List.set_cons_zero, List.set_cons_succ]
  refine wpAnyH_take (i := 3) (oi := { dst := some 30, op := _, type := _, pos := _, after := _, guard := none }) (v := ?_) rfl (by kernel_rfl) (by kernel_rfl) (by kernel_rfl) (fun _ _ _ h => h) (Or.inl ⟨by rfl, ?_⟩) trivial ?_
  rotate_left 1
  focus (intro w hSw; (try dsimp only at hSw); go_simp; try (with_reducible rfl))
  simp only [Act.put, List.setIfInBounds_toArray, List.set_cons_zero, List.set_cons_succ]
  refine wpAnyH_take (i := 5) (oi := { dst := some 6, op := _, type := _, pos := _, after := _, guard := none }) (v := ?_) rfl (by kernel_rfl) (by kernel_rfl) (by kernel_rfl) (fun _ _ _ h => h) (Or.inl ⟨by rfl, ?_⟩) trivial ?_
  rotate_left 1
  focus (intro w hSw; (try dsimp only at hSw); go_simp; try (with_reducible rfl))
  simp only [Act.put, List.setIfInBounds_toArray, List.set_cons_zero, List.set_cons_succ]
  refine readyH_load (i := 4) (op := { dst := some 31, op := _, type := _, pos := _, after := _, guard := none }) (by kernel_rfl) rfl rfl 41 _ rfl F.g 0 rfl (machL (M.rdM a).2 F.S) _ HR3.out.bd.row Try.underlying41 rfl info_mach trivial ?_
  simp only [Act.put, List.setIfInBounds_toArray, List.set_cons_zero, List.set_cons_succ]
  refine readyH_store (i := 6) (op := { dst := none, op := _, type := _, pos := _, after := _, guard := none }) (by kernel_rfl) rfl rfl 41 _ _ rfl (w.heap.size + 1) 0 (machL (M.rdM a).2 F.S).toArray rfl rfl HR3.out.drew.th info_mach (machL_one _ _ HR3.out.bd.isSl) trivial ?_
  simp only [Act.put]
  refine wpAnyH_take (i := 7) (oi := { dst := some 8, op := _, type := _, pos := _, after := _, guard := none }) (v := ?_) rfl (by kernel_rfl) (by kernel_rfl) (by kernel_rfl) (fun _ _ _ h => h) (Or.inl ⟨by rfl, ?_⟩) trivial ?_
  rotate_left 1
  focus (intro w hSw; (try dsimp only at hSw); go_simp; try (with_reducible rfl))
  simp only [Act.put, List.setIfInBounds_toArray, List.set_cons_zero, List.set_cons_succ]
  refine wpAnyH_done (by kernel_rfl) ?_ _
  refine Pl.cutE (fun X => Below w.heap.size w X ∧ Bx X (w.heap.size + 1) (machL (M.rdM a).2 F.S) ∧ SlAt X F.S (M.rdM a).2) (HR3.out.drew.fin rfl) ?_
  rintro X ⟨hX1, hX2, hX3⟩
  have HX1 := hid hX1
  have HX2 := hid hX2
  have HX3 := hid hX3
  have HFI := hid HR3.out.bd.fit
  clear hX1 hX2 hX3
  go_wp2
  have hl := load_mach _ _ HX2.out.c
  refine bodyPost_ret (v := .tuple #[.int .u8 (M.rdM a).1, .agg (machL (M.rdM a).2 F.S).toArray, .int .i64 0]) ?_ rfl ⟨F.S, rfl, HX3.out, HFI.out, HR3.out.new, HX1.out⟩
  simp only [results, Try.results16]
  simp
  show (Result.andThen (Sem.run Try.prog (loadVar 41 ⟨w.heap.size + 1, 0, none⟩) X) _) = _
  rw [hl]
  rfl
set_option maxHeartbeats 800000 in
theorem Bu.read_a (M : Mach) (S : Sl) (w : World) (a : Int) (ha : 0 ≤ a ∧ a ≤ 65535) (hs : SlAt w S M) (hf : M.fit) :
    Calls Try.prog 16 #[.agg (machL M S).toArray, .bool true, .int .u16 a] w fun e w' => ∃ S', e = .returned (.tuple #[.int .u8 (M.rdA a).1, .agg (machL (M.rdA a).2 S').toArray, .int .i64 0]) ∧ SlAt w' S' (M.rdA a).2 ∧ (M.rdA a).2.fit ∧ SlNew (w.heap.size + 2) S' ∧ Below w.heap.size w w' := by
  have hB := (Bx.new w (machL M S) 41 (b := w.heap.size) rfl).over (.cells (machL zeroM nilS).toArray 41)
  have HB := hid hB
  have HR := hid (Bx.new (w.alloc (.cells (machL M S).toArray 41)) (machL zeroM nilS) 41 (b := w.heap.size + 1) (by simp))
  have HL := hid (stA (stA (st0 w) (.cells (machL M S).toArray 41)) (.cells (machL zeroM nilS).toArray 41))
  have HS := hid hs
  have HF := hid hf
  clear hB hs hf
  go_enter Try.func16, Try.ntmps16
  go_wp2_with (first
    | (refine wpList_load_mid rfl 41 _ rfl w.heap.size 0 rfl (machL M S) _ HB.out.c Try.underlying41 rfl info_mach ?_)
    | (refine wpList_field rfl 73 _ 0 rfl (.agg #[_, _]) _ rfl (field_0 _ _ _) ?_)
    | (go_at_call 21; refine (Bu.open_ok M S _ (HS.out.kept HL.out).lens (HS.out.kept HL.out) HF.out).mono ?_; rintro e w1 ⟨F, hFB, rfl, hr, hB1, hb1⟩; have HR1 := hid (RB.mk hB1 (stp HL.out hb1) (HR.out.kept hb1) (by rw [hFB]; simp) hr); clear hB1 hb1 hFB hr)
    | (go_at_call 30; refine (Bu.reach_a F.g _).mono ?_; rintro e w2 ⟨rfl, hb2⟩; have HR2 := hid (HR1.out.kept hb2); clear hb2)
    | (go_at_call 50; refine (Bu.read_A HR2.out.bd a ha (fun i hi => getA_all i hi)).mono ?_; rintro e w3 ⟨rfl, hB3, hT3⟩; have HR3 := hid (HR2.out.go hB3 hT3); clear hB3 hT3))
  refine wp_region_held_drew (S := fun _ => True) (by kernel_rfl) trivial ?_
  intro _
  refine wpAnyH_take (i := 0) (oi := { dst := some 27, op := _, type := _, pos := _, after := _, guard := none }) (v := ?_) rfl (by kernel_rfl) (by kernel_rfl) (by kernel_rfl) (fun _ _ _ h => h) (Or.inl ⟨by rfl, ?_⟩) trivial ?_
  rotate_left 1
  focus (intro w hSw; (try dsimp only at hSw); go_simp; try (with_reducible rfl))
  simp only [Act.put, List.setIfInBounds_toArray, List.set_cons_zero, List.set_cons_succ]
  refine wpAnyH_take (i := 1) (oi := { dst := some 28, op := _, type := _, pos := _, after := _, guard := none }) (v := ?_) rfl (by kernel_rfl) (by kernel_rfl) (by kernel_rfl) (fun _ _ _ h => h) (Or.inl ⟨by rfl, ?_⟩) trivial ?_
  rotate_left 1
  focus (intro w hSw; (try dsimp only at hSw); go_simp; try (with_reducible rfl))
  simp only [Act.put, List.setIfInBounds_toArray, List.set_cons_zero, List.set_cons_succ]
  refine wpAnyH_take (i := 2) (oi := { dst := some 29, op := _, type := _, pos := _, after := _, guard := none }) (v := ?_) rfl (by kernel_rfl) (by kernel_rfl) (by kernel_rfl) (fun _ _ _ h => h) (Or.inl ⟨by rfl, ?_⟩) trivial ?_
  rotate_left 1
  focus (intro w hSw; (try dsimp only at hSw); go_simp; try (with_reducible rfl))
  simp only [Act.put, List.setIfInBounds_toArray, List.set_cons_zero, List.set_cons_succ]
  refine wpAnyH_take (i := 3) (oi := { dst := some 30, op := _, type := _, pos := _, after := _, guard := none }) (v := ?_) rfl (by kernel_rfl) (by kernel_rfl) (by kernel_rfl) (fun _ _ _ h => h) (Or.inl ⟨by rfl, ?_⟩) trivial ?_
  rotate_left 1
  focus (intro w hSw; (try dsimp only at hSw); go_simp; try (with_reducible rfl))
  simp only [Act.put, List.setIfInBounds_toArray, List.set_cons_zero, List.set_cons_succ]
  refine wpAnyH_take (i := 5) (oi := { dst := some 6, op := _, type := _, pos := _, after := _, guard := none }) (v := ?_) rfl (by kernel_rfl) (by kernel_rfl) (by kernel_rfl) (fun _ _ _ h => h) (Or.inl ⟨by rfl, ?_⟩) trivial ?_
  rotate_left 1
  focus (intro w hSw; (try dsimp only at hSw); go_simp; try (with_reducible rfl))
  simp only [Act.put, List.setIfInBounds_toArray, List.set_cons_zero, List.set_cons_succ]
  refine readyH_load (i := 4) (op := { dst := some 31, op := _, type := _, pos := _, after := _, guard := none }) (by kernel_rfl) rfl rfl 41 _ rfl F.g 0 rfl (machL (M.rdA a).2 F.S) _ HR3.out.bd.row Try.underlying41 rfl info_mach trivial ?_
  simp only [Act.put, List.setIfInBounds_toArray, List.set_cons_zero, List.set_cons_succ]
  refine readyH_store (i := 6) (op := { dst := none, op := _, type := _, pos := _, after := _, guard := none }) (by kernel_rfl) rfl rfl 41 _ _ rfl (w.heap.size + 1) 0 (machL (M.rdA a).2 F.S).toArray rfl rfl HR3.out.drew.th info_mach (machL_one _ _ HR3.out.bd.isSl) trivial ?_
  simp only [Act.put]
  refine wpAnyH_take (i := 7) (oi := { dst := some 8, op := _, type := _, pos := _, after := _, guard := none }) (v := ?_) rfl (by kernel_rfl) (by kernel_rfl) (by kernel_rfl) (fun _ _ _ h => h) (Or.inl ⟨by rfl, ?_⟩) trivial ?_
  rotate_left 1
  focus (intro w hSw; (try dsimp only at hSw); go_simp; try (with_reducible rfl))
  simp only [Act.put, List.setIfInBounds_toArray, List.set_cons_zero, List.set_cons_succ]
  refine wpAnyH_done (by kernel_rfl) ?_ _
  refine Pl.cutE (fun X => Below w.heap.size w X ∧ Bx X (w.heap.size + 1) (machL (M.rdA a).2 F.S) ∧ SlAt X F.S (M.rdA a).2) (HR3.out.drew.fin rfl) ?_
  rintro X ⟨hX1, hX2, hX3⟩
  have HX1 := hid hX1
  have HX2 := hid hX2
  have HX3 := hid hX3
  have HFI := hid HR3.out.bd.fit
  clear hX1 hX2 hX3
  go_wp2
  have hl := load_mach _ _ HX2.out.c
  refine bodyPost_ret (v := .tuple #[.int .u8 (M.rdA a).1, .agg (machL (M.rdA a).2 F.S).toArray, .int .i64 0]) ?_ rfl ⟨F.S, rfl, HX3.out, HFI.out, HR3.out.new, HX1.out⟩
  simp only [results, Try.results16]
  simp
  show (Result.andThen (Sem.run Try.prog (loadVar 41 ⟨w.heap.size + 1, 0, none⟩) X) _) = _
  rw [hl]
  rfl
def bl1 : List UInt8 := [0, 4, 0, 0, 7, 9]
def bM1 : Mach := newD bl1 []
def bM2 : Mach := bM1.wrM 32769 5
def bM3 : Mach := bM2.wrM 53262 2
theorem b_t1 : tookM 32769 5 = 0 := by decide
theorem b_t2 : tookM 53262 2 = 4 := by decide
theorem b_rd : (bM3.rdM 32897).1 = 5 := by decide +kernel
theorem b_pc : bM3.main.PC = 4 := by decide +kernel
theorem b_held : bM3.held = true := by decide +kernel
theorem b_vid : bget bM3.video 1 = 4 := by decide +kernel
theorem slice_b (w : World) (t : TypeId) : sliceAt (w.alloc (.cells #[.int .u8 0, .int .u8 4, .int .u8 0, .int .u8 0, .int .u8 7, .int .u8 9] t)) (.slice (some ⟨w.heap.size, 0, none⟩) 6 6) bl1 := by
  refine Or.inr ⟨w.heap.size, 0, 6, rfl, by decide, by simp, fun j c hj => ?_⟩
  have hl := (List.getElem?_eq_some_iff.1 hj).1
  rw [Nat.zero_add, Pl.new _ _ _ _ rfl]
  have hc : j = 0 ∨ j = 1 ∨ j = 2 ∨ j = 3 ∨ j = 4 ∨ j = 5 := by simp [bl1] at hl; omega
  rcases hc with rfl | rfl | rfl | rfl | rfl | rfl <;> (cases hj; rfl)
theorem nil_sl (w : World) : sliceAt w (.slice none 0 0) [] := Or.inl ⟨none, 0, rfl, rfl⟩
theorem SlAt.isSl {W : World} {S : Sl} {M : Mach} (h : SlAt W S M) : S.isSl := fun j hj => by
  obtain ⟨a, c, e⟩ := h.lens j hj
  exact ⟨_, _, _, e⟩
/-- A machine in a box, its bytes where its slices say. -/
structure MB (w : World) (b : Nat) (M : Mach) (S : Sl) (Y : World) : Prop where
  low : Below w.heap.size w Y
  bx : Bx Y b (machL M S)
  sl : SlAt Y S M
  fit : M.fit
  ge : w.heap.size ≤ b
theorem MB.kept {w Y Y' : World} {b : Nat} {M : Mach} {S : Sl} (h : MB w b M S Y) (hb : Below Y.heap.size Y Y') : MB w b M S Y' := ⟨stp h.low hb, h.bx.kept hb, h.sl.kept hb, h.fit, h.ge⟩
theorem MB.th {w Y : World} {b : Nat} {M : Mach} {S : Sl} (h : MB w b M S Y) : Y.there b 0 75 := h.bx.there 0 75 (by rw [machL_len]; omega)
/-- Another machine is put into the box, its slices behind it. -/
theorem MB.put {w Y : World} {b n : Nat} {M M' : Mach} {S S' : Sl} (h : MB w b M S Y) (hs : SlAt Y S' M') (hn : SlNew n S') (hb : b < n) (hf : M'.fit) : MB w b M' S' (Y.setCells b 0 (machL M' S')) := by
  have hx := h.bx.puts 0 (machL M' S') (by rw [machL_len, machL_len]; omega)
  rw [putL_whole _ _ (by rw [machL_len, machL_len])] at hx
  exact ⟨Bl.puts h.low h.ge _, hx, hs.off hn hb _ _, hf, h.ge⟩
/-- A new box for a machine. -/
theorem MB.mk0 {w Y : World} {n : Nat} {M' : Mach} {S' : Sl} (hl : Below w.heap.size w Y) (hs : SlAt Y S' M') (hf : M'.fit) (t : TypeId) : MB w Y.heap.size M' S' ((Y.alloc (.cells (machL zeroM nilS).toArray t)).setCells Y.heap.size 0 (machL M' S')) := by
  have hx := (Bx.new Y (machL zeroM nilS) t (b := Y.heap.size) rfl).puts 0 (machL M' S') (by rw [machL_len, machL_len]; omega)
  rw [putL_whole _ _ (by rw [machL_len, machL_len])] at hx
  refine ⟨Bl.puts (stA hl _) hl.size _, hx, fun j hj => ?_, hf, hl.size⟩
  rcases hs j hj with h0 | ⟨g, o, cap, e1, e2, e3, e4⟩
  · exact Or.inl h0
  · refine Or.inr ⟨g, o, cap, e1, e2, by rw [size_sets]; simp; omega, fun i c hi => ?_⟩
    exact (World.cell?_of_block (heap_sets_far (x := g) (b := Y.heap.size) (by omega) _ _ _)).trans ((World.cell?_of_block (Below.heap_alloc _ _ _ e3)).trans (e4 i c hi))
theorem Bu.bw1 (S : Sl) (w : World) (hs : SlAt w S bM1) (hf : bM1.fit) : Calls Try.prog 17 #[.agg (machL bM1 S).toArray, .bool false, .int .u16 32769, .int .u8 5] w fun e w' => ∃ S', e = .returned (.tuple #[.agg (machL bM2 S').toArray, .int .i64 0, .int .i64 0]) ∧ SlAt w' S' bM2 ∧ bM2.fit ∧ SlNew (w.heap.size + 2) S' ∧ Below w.heap.size w w' := by
  have h := Bu.write_m bM1 S w 32769 5 (by omega) (by omega) hs hf
  rw [b_t1] at h
  exact h
theorem Bu.bw2 (S : Sl) (w : World) (hs : SlAt w S bM2) (hf : bM2.fit) : Calls Try.prog 17 #[.agg (machL bM2 S).toArray, .bool false, .int .u16 53262, .int .u8 2] w fun e w' => ∃ S', e = .returned (.tuple #[.agg (machL bM3 S').toArray, .int .i64 4, .int .i64 0]) ∧ SlAt w' S' bM3 ∧ bM3.fit ∧ SlNew (w.heap.size + 2) S' ∧ Below w.heap.size w w' := by
  have h := Bu.write_m bM2 S w 53262 2 (by omega) (by omega) hs hf
  rw [b_t2] at h
  exact h
def bM4 : Mach := (bM3.rdM 32897).2
theorem Bu.br (S : Sl) (w : World) (hs : SlAt w S bM3) (hf : bM3.fit) : Calls Try.prog 16 #[.agg (machL bM3 S).toArray, .bool false, .int .u16 32897] w fun e w' => ∃ S', e = .returned (.tuple #[.int .u8 5, .agg (machL bM4 S').toArray, .int .i64 0]) ∧ SlAt w' S' bM4 ∧ bM4.fit ∧ SlNew (w.heap.size + 2) S' ∧ Below w.heap.size w w' := by
  have h := Bu.read_m bM3 S w 32897 (by omega) hs hf
  rw [b_rd] at h
  exact h
theorem zero_th (Y : World) (t : TypeId) : (Y.alloc (.cells (machL zeroM nilS).toArray t)).there Y.heap.size 0 75 := (Bx.new Y (machL zeroM nilS) t (b := Y.heap.size) rfl).there 0 75 (by rw [machL_len]; omega)
/-- What the last row reads. -/
theorem MB.last {w Y : World} {b : Nat} {S : Sl} (h : MB w b bM3 S Y) : Y.cell? ⟨b, 8, none⟩ = some (.int .u16 4) ∧ Y.cell? ⟨b, 68, none⟩ = some (.bool true) ∧ b < Y.heap.size ∧ ∃ g o cap, Y.cell? ⟨b, 34, none⟩ = some (.slice (some ⟨g, o, none⟩) 256 cap) ∧ Y.cell? ⟨g, o + 1, none⟩ = some (.int .u8 4) ∧ g < Y.heap.size := by
  have hv : bM3.video.length = 256 := h.fit.video
  refine ⟨?_, ?_, h.bx.z, ?_⟩
  · have := h.bx.at 8 (.int .u16 bM3.main.PC) rfl
    rw [b_pc] at this; exact this
  · have := h.bx.at 68 (.bool bM3.held) rfl
    rw [b_held] at this; exact this
  · have h4 := h.sl 4 (by omega)
    have hc := h.bx.at 34 (S.get 4) rfl
    rcases h4 with ⟨_, _, _, e⟩ | ⟨g, o, cap, e1, e2, e3, e4⟩
    · have e' : bM3.video = [] := e
      rw [e'] at hv; simp at hv
    · have e1' : S.get 4 = .slice (some ⟨g, o, none⟩) bM3.video.length cap := e1
      rw [hv] at e1'
      refine ⟨g, o, cap, by rw [hc, e1'], ?_, e3⟩
      have hx : bM3.video[1]? = some (bM3.video.getD 1 0) := by simp [List.getD, List.getElem?_eq_getElem (show 1 < bM3.video.length by omega)]
      have := e4 1 _ hx
      rw [this]
      have hb := b_vid
      unfold bget at hb
      have hb' : ((bM3.video.getD 1 0).toNat : Int) = 4 := hb
      rw [hb']
set_option maxHeartbeats 1600000 in
theorem Bu.bussed_any (w : World) : Calls Try.prog 9 #[] w fun e w' => e = .returned (.bool true) ∧ Below w.heap.size w w' := by
  go_enter Try.func9, Try.ntmps9
  go_wp2_with (first
    | (go_at_call 8; refine (Bu.new_ok bl1 [] _ _ _ (slice_b w _) (nil_sl _) (by decide) (by decide)).mono ?_; rintro e w1 ⟨S1, rfl, hs1, hf1, hn1, hb1⟩; have HS1 := hid hs1; have HF1 := hid hf1; have HL1 := hid (stp (stA (st0 w) _) hb1); clear hs1 hf1 hn1 hb1)
    | (go_at_call 17; refine (Bu.bw2 S2 _ HY2.out.sl HY2.out.fit).mono ?_; rintro e w3 ⟨S3, rfl, hs3, hf3, hn3, hb3⟩; have HS3 := hid hs3; have HF3 := hid hf3; have HN3 := hid hn3; have HY2k := hid (HY2.out.kept hb3); clear hs3 hf3 hn3 hb3)
    | (go_at_call 17; refine (Bu.bw1 S1 _ HY1.out.sl HY1.out.fit).mono ?_; rintro e w2 ⟨S2, rfl, hs2, hf2, hn2, hb2⟩; have HS2 := hid hs2; have HF2 := hid hf2; have HN2 := hid hn2; have HY1k := hid (HY1.out.kept hb2); clear hs2 hf2 hn2 hb2)
    | (go_at_call 16; refine (Bu.br S3 _ HY3.out.sl HY3.out.fit).mono ?_; rintro e w4 ⟨S4, rfl, hs4, hf4, hn4, hb4⟩; have HS4 := hid hs4; have HY3k := hid (HY3.out.kept hb4); clear hs4 hf4 hn4 hb4)
    | (refine wpList_load_mid rfl 41 _ rfl w1.heap.size 0 rfl (machL bM3 S3) _ HY3.out.bx.c Try.underlying41 rfl info_mach ?_)
    | (refine wpList_load_mid rfl 41 _ rfl w1.heap.size 0 rfl (machL bM2 S2) _ HY2.out.bx.c Try.underlying41 rfl info_mach ?_)
    | (refine wpList_load_mid rfl 41 _ rfl w1.heap.size 0 rfl (machL bM1 S1) _ HY1.out.bx.c Try.underlying41 rfl info_mach ?_)
    | (refine wpList_store_mid rfl 41 _ _ rfl w4.heap.size 0 (machL bM4 S4).toArray rfl rfl (zero_th w4 _) info_mach (machL_one _ _ HS4.out.isSl) ?_
       refine Pl.cutL (MB w w1.heap.size bM3 S3) (HY3k.out.kept (Bl.puts (stA (st0 w4) _) (Nat.le_refl _) _)) ?_
       intro Y4 hY4
       have HY4 := hid hY4
       obtain ⟨g8, g68, gz, gg, go, gc, g34, gv, gz2⟩ := hY4.last
       clear hY4)
    | (refine wpList_store_mid rfl 41 _ _ rfl w1.heap.size 0 (machL bM3 S3).toArray rfl rfl HY2k.out.th info_mach (machL_one _ _ HS3.out.isSl) ?_
       refine Pl.cutL (MB w w1.heap.size bM3 S3) (HY2k.out.put HS3.out HN3.out (Nat.lt_of_lt_of_le HY2.out.bx.z (Nat.le_add_right _ _)) HF3.out) ?_
       intro Y3 hY3
       have HY3 := hid hY3
       clear hY3)
    | (refine wpList_store_mid rfl 41 _ _ rfl w1.heap.size 0 (machL bM2 S2).toArray rfl rfl HY1k.out.th info_mach (machL_one _ _ HS2.out.isSl) ?_
       refine Pl.cutL (MB w w1.heap.size bM2 S2) (HY1k.out.put HS2.out HN2.out (Nat.lt_of_lt_of_le HY1.out.bx.z (Nat.le_add_right _ _)) HF2.out) ?_
       intro Y2 hY2
       have HY2 := hid hY2
       clear hY2)
    | (refine wpList_store_mid rfl 41 _ _ rfl w1.heap.size 0 (machL bM1 S1).toArray rfl rfl (zero_th w1 _) info_mach (machL_one _ _ HS1.out.isSl) ?_
       refine Pl.cutL (MB w w1.heap.size bM1 S1) (MB.mk0 (n := 0) HL1.out HS1.out HF1.out _) ?_
       intro Y1 hY1
       have HY1 := hid hY1
       clear hY1))
  go_ret
  exact ⟨rfl, HY4.out.low⟩
set_option maxRecDepth 100000 in
theorem Bu.eq_arr (a0 a1 a2 a3 a4 a5 a6 a7 : Int) (d : Nat) (w : World) :
    (Op.equalIn (d + 2) 24 (.agg #[.int .u16 a0, .int .u16 a1, .int .u16 a2, .int .u16 a3, .int .u16 a4, .int .u16 a5, .int .u16 a6, .int .u16 a7]) (.agg #[.int .u16 a0, .int .u16 a1, .int .u16 a2, .int .u16 a3, .int .u16 a4, .int .u16 a5, .int .u16 a6, .int .u16 a7])).run Try.prog w = .ok true w := by
  have u3 := Try.underlying23
  have x3 := Try.isAgg23
  have z3 := Try.sizeOf23
  have hU : Try.prog.cellsOf 23 = 1 := by kernel_rfl
  have hs : (Try.prog.info? 23).isSome = true := by kernel_rfl
  obtain ⟨i, hi⟩ := Option.isSome_iff_exists.1 hs
  rw [run_equalIn_array w (d + 1) _ _ Try.underlying24 hi, hU]
  simp only [List.range, List.range.loop, Op.eqItems]
  go_simp
set_option maxRecDepth 100000 in
theorem Bu.eq_cpu (c : C.Cpu) (w : World) : (binOp .eql 26 (.agg #[.int .u16 (c.r 0), .int .u16 (c.r 1), .int .u16 (c.r 2), .int .u16 (c.r 3), .int .u16 (c.r 4), .int .u16 (c.r 5), .int .u16 (c.r 6), .int .u16 (c.r 7), .int .u16 c.PC, .bool c.Z, .bool c.N, .bool c.C, .bool c.V, .bool c.May, .bool c.Waits]) (.agg #[.int .u16 (c.r 0), .int .u16 (c.r 1), .int .u16 (c.r 2), .int .u16 (c.r 3), .int .u16 (c.r 4), .int .u16 (c.r 5), .int .u16 (c.r 6), .int .u16 (c.r 7), .int .u16 c.PC, .bool c.Z, .bool c.N, .bool c.C, .bool c.V, .bool c.May, .bool c.Waits])).run Try.prog w = .ok (.bool true) w := by
  have u3 := Try.underlying23
  have x3 := Try.isAgg23
  have z3 := Try.sizeOf23
  have u4 := Try.underlying4
  have x4 := Try.isAgg4
  have z4 := Try.sizeOf4
  have x5 := Try.isAgg24
  have z5 := Try.sizeOf24
  have ha := Bu.eq_arr (c.r 0) (c.r 1) (c.r 2) (c.r 3) (c.r 4) (c.r 5) (c.r 6) (c.r 7) 9997
  have hS : Try.prog.underlying 26 = some (.struct (Try.prog.fieldsOf 26)) := by kernel_rfl
  have hp : Try.prog.stoodInHeld 26 = false := by kernel_rfl
  rw [run_eql_struct, show (10000 : Nat) = 9999 + 1 from rfl, run_equalIn_agg w 9999 26 _ _ hS hp]
  simp only [Program.fieldsOf, Try.underlying26]
  go_simp

theorem Bu.eq_cpuL (c : C.Cpu) (w : World) : (binOp .eql 26 (.agg (cpuL c).toArray) (.agg (cpuL c).toArray)).run Try.prog w = .ok (.bool true) w := Bu.eq_cpu c w
theorem Bu.eq_sndL (s : Sd) (w : World) : (binOp .eql 36 (.agg (sndL s).toArray) (.agg (sndL s).toArray)).run Try.prog w = .ok (.bool true) w := eq_sound s w
set_option maxRecDepth 100000 in
theorem Bu.eq_pad (d s : Int) (l : Bool) (n : Nat) (w : World) : (Op.equalIn (n + 2) 28 (.agg #[.int .u8 d, .bool l, .int .u8 s]) (.agg #[.int .u8 d, .bool l, .int .u8 s])).run Try.prog w = .ok true w := by
  have u4 := Try.underlying4
  have a4 := Try.isAgg4
  have z4 := Try.sizeOf4
  have u5 := Try.underlying5
  have a5 := Try.isAgg5
  have z5 := Try.sizeOf5
  have hS : Try.prog.underlying 28 = some (.struct (Try.prog.fieldsOf 28)) := by kernel_rfl
  have hp : Try.prog.stoodInHeld 28 = false := by kernel_rfl
  rw [run_equalIn_agg w (n + 1) 28 _ _ hS hp]
  simp only [Program.fieldsOf, Try.underlying28]
  go_simp
set_option maxRecDepth 100000 in
theorem Bu.eq_timer (r c : Int) (on g : Bool) (w : World) : (binOp .eql 31 (.agg #[.int .u16 r, .int .u16 c, .bool on, .bool g]) (.agg #[.int .u16 r, .int .u16 c, .bool on, .bool g])).run Try.prog w = .ok (.bool true) w := by
  have u3 := Try.underlying23
  have a3 := Try.isAgg23
  have z3 := Try.sizeOf23
  have u4 := Try.underlying4
  have a4 := Try.isAgg4
  have z4 := Try.sizeOf4
  have hS : Try.prog.underlying 31 = some (.struct (Try.prog.fieldsOf 31)) := by kernel_rfl
  have hp : Try.prog.stoodInHeld 31 = false := by kernel_rfl
  rw [run_eql_struct, show (10000 : Nat) = 9999 + 1 from rfl, run_equalIn_agg w 9999 31 _ _ hS hp]
  simp only [Program.fieldsOf, Try.underlying31]
  go_simp
set_option maxRecDepth 100000 in
theorem Bu.eq_beam (l a f : Int) (g : Bool) (w : World) : (binOp .eql 38 (.agg #[.int .i64 l, .int .i64 a, .bool g, .int .i64 f]) (.agg #[.int .i64 l, .int .i64 a, .bool g, .int .i64 f])).run Try.prog w = .ok (.bool true) w := by
  have u3 := Try.underlying3
  have a3 := Try.isAgg3
  have z3 := Try.sizeOf3
  have u4 := Try.underlying4
  have a4 := Try.isAgg4
  have z4 := Try.sizeOf4
  have hS : Try.prog.underlying 38 = some (.struct (Try.prog.fieldsOf 38)) := by kernel_rfl
  have hp : Try.prog.stoodInHeld 38 = false := by kernel_rfl
  rw [run_eql_struct, show (10000 : Nat) = 9999 + 1 from rfl, run_equalIn_agg w 9999 38 _ _ hS hp]
  simp only [Program.fieldsOf, Try.underlying38]
  go_simp
set_option maxRecDepth 100000 in
theorem Bu.eq_pads (d s d' s' : Int) (l l' : Bool) (w : World) : (binOp .eql 29 (.agg #[.int .u8 d, .bool l, .int .u8 s, .int .u8 d', .bool l', .int .u8 s']) (.agg #[.int .u8 d, .bool l, .int .u8 s, .int .u8 d', .bool l', .int .u8 s'])).run Try.prog w = .ok (.bool true) w := by
  have h0 := Bu.eq_pad d s l 9997
  have h1 := Bu.eq_pad d' s' l' 9997
  have a3 := Try.isAgg28
  have z3 := Try.sizeOf28
  have hU : Try.prog.cellsOf 28 = 3 := by kernel_rfl
  have hs : (Try.prog.info? 28).isSome = true := by kernel_rfl
  obtain ⟨i, hi⟩ := Option.isSome_iff_exists.1 hs
  rw [run_eql_struct, show (10000 : Nat) = 9999 + 1 from rfl, run_equalIn_array w 9999 _ _ Try.underlying29 hi, hU]
  simp only [List.range, List.range.loop, Op.eqItems]
  go_simp
set_option maxRecDepth 100000 in
theorem Bu.eq_mail (x y : Int) (w : World) : (binOp .eql 39 (.agg #[.int .u8 x, .int .u8 y]) (.agg #[.int .u8 x, .int .u8 y])).run Try.prog w = .ok (.bool true) w := by
  have u3 := Try.underlying5
  have a3 := Try.isAgg5
  have z3 := Try.sizeOf5
  have hU : Try.prog.cellsOf 5 = 1 := by kernel_rfl
  have hs : (Try.prog.info? 5).isSome = true := by kernel_rfl
  obtain ⟨i, hi⟩ := Option.isSome_iff_exists.1 hs
  rw [run_eql_struct, show (10000 : Nat) = 9999 + 1 from rfl, run_equalIn_array w 9999 _ _ Try.underlying39 hi, hU]
  simp only [List.range, List.range.loop, Op.eqItems]
  go_simp
theorem Bu.loadG {P : Program} {ops : Array Oper} {rest : List Oper} {op : Oper} {a : Act} {w : World} {Q : Exit → Act → World → Prop} (hw : Region.wanted op (yielded ops a.tmps) = true) (ty : TypeId) (x : Operand) (ho : op.op = .load ty x)
    (b o : Nat) (hx : a.eval x = .pointer (some ⟨b, o, none⟩)) (cs : List Value) (d : TypeDesc) (hc : w.rangeAt b o cs)
    (hu : P.underlying ty = some d) (hd : d.isRow = true) (hi : (P.info? ty).map (·.size) = some cs.length)
    (h : wpList P ops Q rest (a.put op.dst (.agg cs.toArray)) w) : wpList P ops Q (op :: rest) a w :=
  wpList_step fun K hK => by rw [if_pos hw]; exact wp_load_mid ty x ho b o hx cs d hc hu hd hi (hK _ _ h)
def five2 (S1 S2 : Sl) : List Value := [S1.mr, S2.mr, S1.ar, S2.ar, S1.ra, S2.ra, S1.ow, S2.ow, S1.vi, S2.vi]
theorem five2_at (S1 S2 : Sl) (k : Nat) (hk : k < 5) : (five2 S1 S2)[k * 2]? = some (S1.get k) ∧ (five2 S1 S2)[k * 2 + 1]? = some (S2.get k) := by
  rcases five hk with rfl | rfl | rfl | rfl | rfl <;> exact ⟨rfl, rfl⟩
structure SM (w : World) (M : Mach) (S1 S2 : Sl) (Y : World) : Prop where
  low : Below w.heap.size w Y
  a : Bx Y w.heap.size (machL M S1)
  b : Bx Y (w.heap.size + 1) (machL M S2)
  l : Bx Y (w.heap.size + 2) (five2 S1 S2)
theorem SM.kept {w Y Y' : World} {M : Mach} {S1 S2 : Sl} (h : SM w M S1 S2 Y) (hb : Below Y.heap.size Y Y') : SM w M S1 S2 Y' := ⟨stp h.low hb, h.a.kept hb, h.b.kept hb, h.l.kept hb⟩
theorem Bx.mainR {Y : World} {b : Nat} {M : Mach} {S : Sl} (h : Bx Y b (machL M S)) : Y.rangeAt b 0 (cpuL M.main) := fun i v hi => by
  refine h.at (0 + i) v ?_
  rw [Nat.zero_add]
  unfold machL
  rw [List.getElem?_append_left (List.getElem?_eq_some_iff.1 hi).1]
  exact hi
theorem Bx.auxR {Y : World} {b : Nat} {M : Mach} {S : Sl} (h : Bx Y b (machL M S)) : Y.rangeAt b 15 (cpuL M.aux) := fun i v hi => by
  refine h.at (15 + i) v ?_
  unfold machL
  have hl : (cpuL M.main).length = 15 := rfl
  rw [List.getElem?_append_right (by omega), hl, show 15 + i - 15 = i by omega, List.getElem?_append_left (List.getElem?_eq_some_iff.1 hi).1]
  exact hi
theorem Bx.scl {Y : World} {b : Nat} {M : Mach} {S : Sl} (h : Bx Y b (machL M S)) : Y.cell? ⟨b, 35, none⟩ = some (.int .u8 M.p0.d) ∧ Y.cell? ⟨b, 36, none⟩ = some (.bool M.p0.l) ∧ Y.cell? ⟨b, 37, none⟩ = some (.int .u8 M.p0.s) ∧ Y.cell? ⟨b, 38, none⟩ = some (.int .u8 M.p1.d) ∧ Y.cell? ⟨b, 39, none⟩ = some (.bool M.p1.l) ∧ Y.cell? ⟨b, 40, none⟩ = some (.int .u8 M.p1.s) ∧ Y.cell? ⟨b, 41, none⟩ = some (.int .u16 M.t.r) ∧ Y.cell? ⟨b, 42, none⟩ = some (.int .u16 M.t.c) ∧ Y.cell? ⟨b, 43, none⟩ = some (.bool M.t.on) ∧ Y.cell? ⟨b, 44, none⟩ = some (.bool M.t.g) ∧ Y.cell? ⟨b, 61, none⟩ = some (.int .i64 M.b.l) ∧ Y.cell? ⟨b, 62, none⟩ = some (.int .i64 M.b.a) ∧ Y.cell? ⟨b, 63, none⟩ = some (.bool M.b.g) ∧ Y.cell? ⟨b, 64, none⟩ = some (.int .i64 M.b.f) ∧ Y.cell? ⟨b, 65, none⟩ = some (.int .u16 M.fr) ∧ Y.cell? ⟨b, 66, none⟩ = some (.int .u16 M.to) ∧ Y.cell? ⟨b, 67, none⟩ = some (.bool M.granted) ∧ Y.cell? ⟨b, 68, none⟩ = some (.bool M.held) ∧ Y.cell? ⟨b, 69, none⟩ = some (.int .u8 M.m0) ∧ Y.cell? ⟨b, 70, none⟩ = some (.int .u8 M.m1) ∧ Y.cell? ⟨b, 71, none⟩ = some (.bool M.rung) ∧ Y.cell? ⟨b, 72, none⟩ = some (.int .i64 M.clock) ∧ Y.cell? ⟨b, 73, none⟩ = some (.int .i64 M.mready) ∧ Y.cell? ⟨b, 74, none⟩ = some (.int .i64 M.aready) :=
  ⟨h.at 35 _ rfl, h.at 36 _ rfl, h.at 37 _ rfl, h.at 38 _ rfl, h.at 39 _ rfl, h.at 40 _ rfl, h.at 41 _ rfl, h.at 42 _ rfl, h.at 43 _ rfl, h.at 44 _ rfl, h.at 61 _ rfl, h.at 62 _ rfl, h.at 63 _ rfl, h.at 64 _ rfl, h.at 65 _ rfl, h.at 66 _ rfl, h.at 67 _ rfl, h.at 68 _ rfl, h.at 69 _ rfl, h.at 70 _ rfl, h.at 71 _ rfl, h.at 72 _ rfl, h.at 73 _ rfl, h.at 74 _ rfl⟩
theorem SM.start (w : World) (M : Mach) (S1 S2 : Sl) (o1 o2 o3 : TypeId) : SM w M S1 S2 (((w.alloc (.cells (machL M S1).toArray o1)).alloc (.cells (machL M S2).toArray o2)).alloc (.cells (five2 S1 S2).toArray o3)) :=
  ⟨stA (stA (stA (st0 w) _) _) _, ((Bx.new w (machL M S1) o1 rfl).over _).over _, (Bx.new (w.alloc _) (machL M S2) o2 (by simp)).over _, Bx.new _ (five2 S1 S2) o3 (by simp)⟩
theorem info_two : (Try.prog.info? 90).map (·.size) = some 2 := by kernel_rfl
set_option maxHeartbeats 1600000 in
theorem Bu.same_any (M : Mach) (S1 S2 : Sl) (w : World) (h1 : SlAt w S1 M) (h2 : SlAt w S2 M) :
    Calls Try.prog 13 #[.agg (machL M S1).toArray, .agg (machL M S2).toArray] w fun e w' => e = .returned (.bool true) ∧ Below w.heap.size w w' := by
  have hA := (Bx.new w (machL M S1) 41 (b := w.heap.size) rfl).over (.cells (machL M S2).toArray 41)
  have hB := Bx.new (w.alloc (.cells (machL M S1).toArray 41)) (machL M S2) 41 (b := w.heap.size + 1) (by simp)
  obtain ⟨a0, c0, e0⟩ := h1.lens 0 (by omega)
  obtain ⟨a1, c1, e1⟩ := h1.lens 1 (by omega)
  obtain ⟨a2, c2, e2⟩ := h1.lens 2 (by omega)
  obtain ⟨a3, c3, e3⟩ := h1.lens 3 (by omega)
  obtain ⟨a4, c4, e4⟩ := h1.lens 4 (by omega)
  obtain ⟨b0, d0, f0⟩ := h2.lens 0 (by omega)
  obtain ⟨b1, d1, f1⟩ := h2.lens 1 (by omega)
  obtain ⟨b2, d2, f2⟩ := h2.lens 2 (by omega)
  obtain ⟨b3, d3, f3⟩ := h2.lens 3 (by omega)
  obtain ⟨b4, d4, f4⟩ := h2.lens 4 (by omega)
  obtain ⟨x0, x1, x2, x3, x4⟩ := mcells5 hA e0 e1 e2 e3 e4
  obtain ⟨y0, y1, y2, y3, y4⟩ := mcells5 hB f0 f1 f2 f3 f4
  have hz := hA.z
  have hz1 := hB.z
  have HE : Hid (five2 S1 S2 = [.slice a0 M.mrom.length c0, .slice b0 M.mrom.length d0, .slice a1 M.arom.length c1, .slice b1 M.arom.length d1, .slice a2 M.ram.length c2, .slice b2 M.ram.length d2, .slice a3 M.own.length c3, .slice b3 M.own.length d3, .slice a4 M.video.length c4, .slice b4 M.video.length d4]) := hid (by
    unfold five2
    have e0' : S1.mr = _ := e0
    have e1' : S1.ar = _ := e1
    have e2' : S1.ra = _ := e2
    have e3' : S1.ow = _ := e3
    have e4' : S1.vi = _ := e4
    have f0' : S2.mr = _ := f0
    have f1' : S2.ar = _ := f1
    have f2' : S2.ra = _ := f2
    have f3' : S2.ow = _ := f3
    have f4' : S2.vi = _ := f4
    rw [e0', e1', e2', e3', e4', f0', f1', f2', f3', f4']
    rfl)
  have H1 := hid h1
  have H2 := hid h2
  clear hA hB e0 e1 e2 e3 e4 f0 f1 f2 f3 f4 h1 h2
  go_enter Try.func13, Try.ntmps13
  go_wp2
  refine Pl.cutW (SM w M S1 S2) (by have hs := SM.start w M S1 S2 41 41 90; rw [HE.out] at hs; exact hs) ?_
  intro Y hY
  have HY := hid hY
  clear hY
  go_loopw [34] (fun i wr => ∃ k : Nat, k ≤ 5 ∧ i = .int .i64 k ∧ SM w M S1 S2 wr) (fun i _ => 5 - (intOf i).toNat)
  case atStart => exact ⟨0, by omega, rfl, HY.out⟩
  case round =>
    clear HY x0 x1 x2 x3 x4 y0 y1 y2 y3 y4 hz hz1
    obtain ⟨k, hk, rfl, hS⟩ := hrel
    by_cases hlt : k < 5
    · have hlt2 : (k : Int) < 5 := by omega
      obtain ⟨l1, l2⟩ := five2_at S1 S2 k hlt
      obtain ⟨u1, v1, g1⟩ := H1.out.lens k hlt
      obtain ⟨u2, v2, g2⟩ := H2.out.lens k hlt
      have m1 := hS.l.at _ _ l1
      have m2 := hS.l.at _ _ l2
      rw [g1] at m1
      rw [g2] at m2
      have K1 := H1.out k hlt
      have K2 := H2.out k hlt
      rw [g1] at K1
      rw [g2] at K2
      have HK1 := hid (K1.kept hS.low)
      have HK2 := hid (K2.kept hS.low)
      have hz := hS.l.z
      have HS := hid hS
      clear hS l1 l2 g1 g2 K1 K2 HE
      go_wp2_with (go_at_call 20; refine (equal_any _ _ (M.byt k) (M.byt k) _ (HK1.out.kept (stA (st0 _) _)) (HK2.out.kept (stA (st0 _) _))).mono ?_; rw [beq_self_eq_true]; rintro e w1 ⟨rfl, rfl⟩)
      go_roundw
      case rel => exact ⟨k + 1, by omega, by go_num, HS.out.kept (stA (st0 _) _)⟩
      case measure => simp [intOf]; omega
    · obtain rfl : k = 5 := by omega
      have q1 := Bu.eq_cpuL M.main
      have q2 := Bu.eq_cpuL M.aux
      have q3 := Bu.eq_pads M.p0.d M.p0.s M.p1.d M.p1.s M.p0.l M.p1.l
      have q4 := Bu.eq_timer M.t.r M.t.c M.t.on M.t.g
      have q5 := Bu.eq_sndL M.s
      have q6 := Bu.eq_beam M.b.l M.b.a M.b.f M.b.g
      have q7 := Bu.eq_mail M.m0 M.m1
      obtain ⟨p35, p36, p37, p38, p39, p40, p41, p42, p43, p44, p61, p62, p63, p64, p65, p66, p67, p68, p69, p70, p71, p72, p73, p74⟩ := hS.a.scl
      obtain ⟨r35, r36, r37, r38, r39, r40, r41, r42, r43, r44, r61, r62, r63, r64, r65, r66, r67, r68, r69, r70, r71, r72, r73, r74⟩ := hS.b.scl
      have hz := hS.a.z
      have hz1 := hS.b.z
      have HS := hid hS
      clear hS HE
      go_upto_region 7 with fail
      simp only [List.append]
      go_wp2_with (first
        | (refine wpList_load_mid rfl 26 _ rfl w.heap.size 0 rfl (cpuL M.main) _ HS.out.a.mainR Try.underlying26 rfl info_cpu ?_)
        | (refine wpList_load_mid rfl 26 _ rfl (w.heap.size + 1) 0 rfl (cpuL M.main) _ HS.out.b.mainR Try.underlying26 rfl info_cpu ?_)
        | (refine Bu.loadG rfl 26 _ rfl w.heap.size 15 rfl (cpuL M.aux) _ HS.out.a.auxR Try.underlying26 rfl info_cpu ?_)
        | (refine Bu.loadG rfl 26 _ rfl (w.heap.size + 1) 15 rfl (cpuL M.aux) _ HS.out.b.auxR Try.underlying26 rfl info_cpu ?_)
        | (refine Bu.loadG rfl 36 _ rfl w.heap.size 45 rfl (sndL M.s) _ HS.out.a.sndR Try.underlying36 rfl info_sound ?_)
        | (refine Bu.loadG rfl 36 _ rfl (w.heap.size + 1) 45 rfl (sndL M.s) _ HS.out.b.sndR Try.underlying36 rfl info_sound ?_))
      go_ret
      exact ⟨rfl, HS.out.low⟩
set_option maxHeartbeats 800000 in
theorem Bu.read_bad (M : Mach) (S : Sl) (aux : Bool) (w : World) (a : Int) (hS : S.lens M) (hz : ∀ j, j < 5 → (M.byt j).length ≤ 9223372036854775807) (hc : M.chk ≠ 0) :
    Calls Try.prog 16 #[.agg (machL M S).toArray, .bool aux, .int .u16 a] w fun e w' => e = .returned (.tuple #[.int .u8 0, .agg (machL zeroM nilS).toArray, .int .i64 M.chk]) ∧ Below w.heap.size w w' := by
  have hB := (Bx.new w (machL M S) 41 (b := w.heap.size) rfl).over (.cells (machL zeroM nilS).toArray 41)
  have HB := hid hB
  have HR := hid (Bx.new (w.alloc (.cells (machL M S).toArray 41)) (machL zeroM nilS) 41 (b := w.heap.size + 1) (by simp))
  have HL := hid (stA (stA (st0 w) (.cells (machL M S).toArray 41)) (.cells (machL zeroM nilS).toArray 41))
  have HSL := hid hS
  have HZ := hid hz
  have HCN := hid hc
  have hne : (M.chk == 0) = false := by simpa using hc
  clear hB hS hz hc
  generalize hcc : M.chk = c at hne ⊢
  have HCC := hid hcc
  clear hcc
  go_enter Try.func16, Try.ntmps16
  go_wp2_with (first
    | (refine wpList_load_mid rfl 41 _ rfl w.heap.size 0 rfl (machL M S) _ HB.out.c Try.underlying41 rfl info_mach ?_)
    | (refine wpList_build0 rfl 41 rfl _ (run_none _) ?_)
    | (go_at_call 21; refine (Bu.open_bad M S _ HSL.out HZ.out HCN.out).mono ?_; rw [HCC.out]; rintro e w1 ⟨rfl, hb1⟩; have HL1 := hid (stp HL.out hb1); have HR1 := hid (HR.out.kept hb1); clear hb1)
    | (refine wpList_store_mid rfl 41 _ _ rfl (w.heap.size + 1) 0 (machL zeroM nilS).toArray rfl rfl (HR1.out.there 0 75 (by rw [machL_len]; omega)) info_mach (machL_one _ _ zero_sl) ?_
       refine Pl.cutL (fun X => Below w.heap.size w X ∧ Bx X (w.heap.size + 1) (machL zeroM nilS)) ⟨?_, ?_⟩ ?_
       · exact Bl.puts HL1.out (by omega) _
       · have hx := HR1.out.puts 0 (machL zeroM nilS) (by omega)
         rw [putL_whole _ _ rfl] at hx
         exact hx
       rintro X ⟨hX1, hX2⟩
       have HX1 := hid hX1
       have HX2 := hid hX2
       clear hX1 hX2))
  have hl := load_mach _ _ HX2.out.c
  refine bodyPost_ret (v := .tuple #[.int .u8 0, .agg (machL zeroM nilS).toArray, .int .i64 c]) ?_ rfl ⟨rfl, HX1.out⟩
  simp only [results, Try.results16]
  simp
  show (Result.andThen (Sem.run Try.prog (loadVar 41 ⟨w.heap.size + 1, 0, none⟩) X) _) = _
  rw [hl]
  rfl
/-- What CheckMachine reads. -/
structure CkW (w : World) (u0 u1 u2 u3 u4 : Option Addr) (n0 n1 n2 n3 n4 c0 c1 c2 c3 c4 : Nat) (x l a f k m q : Int) (g : Bool) (Y : World) : Prop where
  low : Below w.heap.size w Y
  z : w.heap.size < Y.heap.size
  r0 : Y.cell? ⟨w.heap.size, 30, none⟩ = some (.slice u0 n0 c0)
  r1 : Y.cell? ⟨w.heap.size, 31, none⟩ = some (.slice u1 n1 c1)
  r2 : Y.cell? ⟨w.heap.size, 32, none⟩ = some (.slice u2 n2 c2)
  r3 : Y.cell? ⟨w.heap.size, 33, none⟩ = some (.slice u3 n3 c3)
  r4 : Y.cell? ⟨w.heap.size, 34, none⟩ = some (.slice u4 n4 c4)
  s : Y.cell? ⟨w.heap.size, 60, none⟩ = some (.int .i64 x)
  b0 : Y.cell? ⟨w.heap.size, 61, none⟩ = some (.int .i64 l)
  b1 : Y.cell? ⟨w.heap.size, 62, none⟩ = some (.int .i64 a)
  b2 : Y.cell? ⟨w.heap.size, 63, none⟩ = some (.bool g)
  b3 : Y.cell? ⟨w.heap.size, 64, none⟩ = some (.int .i64 f)
  k : Y.cell? ⟨w.heap.size, 72, none⟩ = some (.int .i64 k)
  m : Y.cell? ⟨w.heap.size, 73, none⟩ = some (.int .i64 m)
  q : Y.cell? ⟨w.heap.size, 74, none⟩ = some (.int .i64 q)
theorem CkW.mk0 (M : Mach) (S : Sl) (w : World) (t : TypeId) {u0 u1 u2 u3 u4 : Option Addr} {c0 c1 c2 c3 c4 : Nat} (e0 : S.get 0 = .slice u0 M.mrom.length c0) (e1 : S.get 1 = .slice u1 M.arom.length c1) (e2 : S.get 2 = .slice u2 M.ram.length c2) (e3 : S.get 3 = .slice u3 M.own.length c3) (e4 : S.get 4 = .slice u4 M.video.length c4) :
    CkW w u0 u1 u2 u3 u4 M.mrom.length M.arom.length M.ram.length M.own.length M.video.length c0 c1 c2 c3 c4 M.s.w M.b.l M.b.a M.b.f M.clock M.mready M.aready M.b.g (w.alloc (.cells (machL M S).toArray t)) := by
  have h := Bx.new w (machL M S) t (b := w.heap.size) rfl
  exact ⟨stA (st0 w) _, h.z, (h.at 30 (S.get 0) rfl).trans (by rw [e0]), (h.at 31 (S.get 1) rfl).trans (by rw [e1]), (h.at 32 (S.get 2) rfl).trans (by rw [e2]), (h.at 33 (S.get 3) rfl).trans (by rw [e3]), (h.at 34 (S.get 4) rfl).trans (by rw [e4]), h.at 60 _ rfl, h.at 61 _ rfl, h.at 62 _ rfl, h.at 63 _ rfl, h.at 64 _ rfl, h.at 72 _ rfl, h.at 73 _ rfl, h.at 74 _ rfl⟩
section
variable {w : World} {u0 u1 u2 u3 u4 : Option Addr} {n0 n1 n2 n3 n4 c0 c1 c2 c3 c4 : Nat} {x l a f k m q : Int} {g : Bool}
/-- What it tells, whatever the machine is. -/
def CkT (w : World) (u0 u1 u2 u3 u4 : Option Addr) (n0 n1 n2 n3 n4 c0 c1 c2 c3 c4 : Nat) (x l a f k m q : Int) (g : Bool) (v : Int) : Prop :=
  ∀ (M : Mach) (S : Sl), CkW w u0 u1 u2 u3 u4 n0 n1 n2 n3 n4 c0 c1 c2 c3 c4 x l a f k m q g (w.alloc (.cells (machL M S).toArray 41)) →
    Calls Try.prog 11 #[.agg (machL M S).toArray] w fun e w' => e = .returned (.int .i64 v) ∧ Below w.heap.size w w'
set_option maxHeartbeats 1600000 in
theorem Gm.ck_many (h0 : 1024 < max (n0 : Int) n1) : CkT w u0 u1 u2 u3 u4 n0 n1 n2 n3 n4 c0 c1 c2 c3 c4 x l a f k m q g 2 := by
  intro M S hC
  have HC := hid hC
  clear hC
  go_enter Try.func11, Try.ntmps11
  go_upto_region 1 with fail
  refine Pl.cutW (CkW w u0 u1 u2 u3 u4 n0 n1 n2 n3 n4 c0 c1 c2 c3 c4 x l a f k m q g) HC.out ?_
  intro Y hY
  obtain ⟨hlow, z, r0, r1, r2, r3, r4, s, b0, b1, b2, b3, hk, hm, hq⟩ := hY
  have HL := hid hlow
  clear hlow HC
  go_wp2
  all_goals
    go_ret
    exact ⟨rfl, HL.out⟩
set_option maxHeartbeats 1600000 in
theorem Gm.ck_ram (m0 : (n0 : Int) ≤ 1024) (m1 : (n1 : Int) ≤ 1024) (h1 : ((n2 : Int) == 128) = false) : CkT w u0 u1 u2 u3 u4 n0 n1 n2 n3 n4 c0 c1 c2 c3 c4 x l a f k m q g 4 := by
  intro M S hC
  have hmx : max (n0 : Int) n1 ≤ 1024 := by omega
  have HC := hid hC
  clear hC
  go_enter Try.func11, Try.ntmps11
  go_upto_region 1 with fail
  refine Pl.cutW (CkW w u0 u1 u2 u3 u4 n0 n1 n2 n3 n4 c0 c1 c2 c3 c4 x l a f k m q g) HC.out ?_
  intro Y hY
  obtain ⟨hlow, z, r0, r1, r2, r3, r4, s, b0, b1, b2, b3, hk, hm, hq⟩ := hY
  have HL := hid hlow
  clear hlow HC
  go_wp2
  all_goals
    go_ret
    exact ⟨rfl, HL.out⟩
set_option maxHeartbeats 1600000 in
theorem Gm.ck_own (m0 : (n0 : Int) ≤ 1024) (m1 : (n1 : Int) ≤ 1024) (h1 : n2 = 128) (h2 : ((n3 : Int) == 64) = false) : CkT w u0 u1 u2 u3 u4 n0 n1 n2 n3 n4 c0 c1 c2 c3 c4 x l a f k m q g 4 := by
  intro M S hC
  have hmx : max (n0 : Int) n1 ≤ 1024 := by omega
  have j1 : ((n2 : Int) == 128) = true := by simp [h1]
  clear h1
  have HC := hid hC
  clear hC
  go_enter Try.func11, Try.ntmps11
  go_upto_region 1 with fail
  refine Pl.cutW (CkW w u0 u1 u2 u3 u4 n0 n1 n2 n3 n4 c0 c1 c2 c3 c4 x l a f k m q g) HC.out ?_
  intro Y hY
  obtain ⟨hlow, z, r0, r1, r2, r3, r4, s, b0, b1, b2, b3, hk, hm, hq⟩ := hY
  have HL := hid hlow
  clear hlow HC
  go_wp2
  all_goals
    go_ret
    exact ⟨rfl, HL.out⟩
set_option maxHeartbeats 1600000 in
theorem Gm.ck_video (m0 : (n0 : Int) ≤ 1024) (m1 : (n1 : Int) ≤ 1024) (h1 : n2 = 128) (h2 : n3 = 64) (h3 : ((n4 : Int) == 256) = false) : CkT w u0 u1 u2 u3 u4 n0 n1 n2 n3 n4 c0 c1 c2 c3 c4 x l a f k m q g 4 := by
  intro M S hC
  have hmx : max (n0 : Int) n1 ≤ 1024 := by omega
  have j1 : ((n2 : Int) == 128) = true := by simp [h1]
  clear h1
  have j2 : ((n3 : Int) == 64) = true := by simp [h2]
  clear h2
  have HC := hid hC
  clear hC
  go_enter Try.func11, Try.ntmps11
  go_upto_region 1 with fail
  refine Pl.cutW (CkW w u0 u1 u2 u3 u4 n0 n1 n2 n3 n4 c0 c1 c2 c3 c4 x l a f k m q g) HC.out ?_
  intro Y hY
  obtain ⟨hlow, z, r0, r1, r2, r3, r4, s, b0, b1, b2, b3, hk, hm, hq⟩ := hY
  have HL := hid hlow
  clear hlow HC
  go_wp2
  all_goals
    go_ret
    exact ⟨rfl, HL.out⟩
set_option maxHeartbeats 1600000 in
theorem Gm.ck_w0 (m0 : (n0 : Int) ≤ 1024) (m1 : (n1 : Int) ≤ 1024) (ew0 : x < 0) : CkT w u0 u1 u2 u3 u4 n0 n1 128 64 256 c0 c1 c2 c3 c4 x l a f k m q g 3 := by
  intro M S hC
  have hmx : max (n0 : Int) n1 ≤ 1024 := by omega
  have HC := hid hC
  clear hC
  go_enter Try.func11, Try.ntmps11
  go_upto_region 1 with fail
  refine Pl.cutW (CkW w u0 u1 u2 u3 u4 n0 n1 128 64 256 c0 c1 c2 c3 c4 x l a f k m q g) HC.out ?_
  intro Y hY
  obtain ⟨hlow, z, r0, r1, r2, r3, r4, s, b0, b1, b2, b3, hk, hm, hq⟩ := hY
  have HL := hid hlow
  clear hlow HC
  go_wp2
  all_goals
    go_ret
    exact ⟨rfl, stA HL.out _⟩
set_option maxHeartbeats 1600000 in
theorem Gm.ck_w1 (m0 : (n0 : Int) ≤ 1024) (m1 : (n1 : Int) ≤ 1024) (ew0 : 0 ≤ x) (ew1 : 15 < x) : CkT w u0 u1 u2 u3 u4 n0 n1 128 64 256 c0 c1 c2 c3 c4 x l a f k m q g 3 := by
  intro M S hC
  have hmx : max (n0 : Int) n1 ≤ 1024 := by omega
  have HC := hid hC
  clear hC
  go_enter Try.func11, Try.ntmps11
  go_upto_region 1 with fail
  refine Pl.cutW (CkW w u0 u1 u2 u3 u4 n0 n1 128 64 256 c0 c1 c2 c3 c4 x l a f k m q g) HC.out ?_
  intro Y hY
  obtain ⟨hlow, z, r0, r1, r2, r3, r4, s, b0, b1, b2, b3, hk, hm, hq⟩ := hY
  have HL := hid hlow
  clear hlow HC
  go_wp2
  all_goals
    go_ret
    exact ⟨rfl, stA HL.out _⟩
set_option maxHeartbeats 1600000 in
theorem Gm.ck_l0 (m0 : (n0 : Int) ≤ 1024) (m1 : (n1 : Int) ≤ 1024) (ew0 : 0 ≤ x) (ew1 : x ≤ 15) (el0 : l < 0) : CkT w u0 u1 u2 u3 u4 n0 n1 128 64 256 c0 c1 c2 c3 c4 x l a f k m q g 3 := by
  intro M S hC
  have hmx : max (n0 : Int) n1 ≤ 1024 := by omega
  have HC := hid hC
  clear hC
  go_enter Try.func11, Try.ntmps11
  go_upto_region 1 with fail
  refine Pl.cutW (CkW w u0 u1 u2 u3 u4 n0 n1 128 64 256 c0 c1 c2 c3 c4 x l a f k m q g) HC.out ?_
  intro Y hY
  obtain ⟨hlow, z, r0, r1, r2, r3, r4, s, b0, b1, b2, b3, hk, hm, hq⟩ := hY
  have HL := hid hlow
  clear hlow HC
  go_wp2
  all_goals
    go_ret
    exact ⟨rfl, stA HL.out _⟩
set_option maxHeartbeats 1600000 in
theorem Gm.ck_l1 (m0 : (n0 : Int) ≤ 1024) (m1 : (n1 : Int) ≤ 1024) (ew0 : 0 ≤ x) (ew1 : x ≤ 15) (el0 : 0 ≤ l) (el1 : 9 < l) : CkT w u0 u1 u2 u3 u4 n0 n1 128 64 256 c0 c1 c2 c3 c4 x l a f k m q g 3 := by
  intro M S hC
  have hmx : max (n0 : Int) n1 ≤ 1024 := by omega
  have HC := hid hC
  clear hC
  go_enter Try.func11, Try.ntmps11
  go_upto_region 1 with fail
  refine Pl.cutW (CkW w u0 u1 u2 u3 u4 n0 n1 128 64 256 c0 c1 c2 c3 c4 x l a f k m q g) HC.out ?_
  intro Y hY
  obtain ⟨hlow, z, r0, r1, r2, r3, r4, s, b0, b1, b2, b3, hk, hm, hq⟩ := hY
  have HL := hid hlow
  clear hlow HC
  go_wp2
  all_goals
    go_ret
    exact ⟨rfl, stA HL.out _⟩
set_option maxHeartbeats 1600000 in
theorem Gm.ck_a0 (m0 : (n0 : Int) ≤ 1024) (m1 : (n1 : Int) ≤ 1024) (ew0 : 0 ≤ x) (ew1 : x ≤ 15) (el0 : 0 ≤ l) (el1 : l ≤ 9) (ea0 : a < 0) : CkT w u0 u1 u2 u3 u4 n0 n1 128 64 256 c0 c1 c2 c3 c4 x l a f k m q g 3 := by
  intro M S hC
  have hmx : max (n0 : Int) n1 ≤ 1024 := by omega
  have HC := hid hC
  clear hC
  go_enter Try.func11, Try.ntmps11
  go_upto_region 1 with fail
  refine Pl.cutW (CkW w u0 u1 u2 u3 u4 n0 n1 128 64 256 c0 c1 c2 c3 c4 x l a f k m q g) HC.out ?_
  intro Y hY
  obtain ⟨hlow, z, r0, r1, r2, r3, r4, s, b0, b1, b2, b3, hk, hm, hq⟩ := hY
  have HL := hid hlow
  clear hlow HC
  go_wp2
  all_goals
    go_ret
    exact ⟨rfl, stA HL.out _⟩
set_option maxHeartbeats 1600000 in
theorem Gm.ck_a1 (m0 : (n0 : Int) ≤ 1024) (m1 : (n1 : Int) ≤ 1024) (ew0 : 0 ≤ x) (ew1 : x ≤ 15) (el0 : 0 ≤ l) (el1 : l ≤ 9) (ea0 : 0 ≤ a) (ea1 : 63 < a) : CkT w u0 u1 u2 u3 u4 n0 n1 128 64 256 c0 c1 c2 c3 c4 x l a f k m q g 3 := by
  intro M S hC
  have hmx : max (n0 : Int) n1 ≤ 1024 := by omega
  have HC := hid hC
  clear hC
  go_enter Try.func11, Try.ntmps11
  go_upto_region 1 with fail
  refine Pl.cutW (CkW w u0 u1 u2 u3 u4 n0 n1 128 64 256 c0 c1 c2 c3 c4 x l a f k m q g) HC.out ?_
  intro Y hY
  obtain ⟨hlow, z, r0, r1, r2, r3, r4, s, b0, b1, b2, b3, hk, hm, hq⟩ := hY
  have HL := hid hlow
  clear hlow HC
  go_wp2
  all_goals
    go_ret
    exact ⟨rfl, stA HL.out _⟩
set_option maxHeartbeats 1600000 in
theorem Gm.ck_f0 (m0 : (n0 : Int) ≤ 1024) (m1 : (n1 : Int) ≤ 1024) (ew0 : 0 ≤ x) (ew1 : x ≤ 15) (el0 : 0 ≤ l) (el1 : l ≤ 9) (ea0 : 0 ≤ a) (ea1 : a ≤ 63) (ef0 : f < 0) : CkT w u0 u1 u2 u3 u4 n0 n1 128 64 256 c0 c1 c2 c3 c4 x l a f k m q g 3 := by
  intro M S hC
  have hmx : max (n0 : Int) n1 ≤ 1024 := by omega
  have HC := hid hC
  clear hC
  go_enter Try.func11, Try.ntmps11
  go_upto_region 1 with fail
  refine Pl.cutW (CkW w u0 u1 u2 u3 u4 n0 n1 128 64 256 c0 c1 c2 c3 c4 x l a f k m q g) HC.out ?_
  intro Y hY
  obtain ⟨hlow, z, r0, r1, r2, r3, r4, s, b0, b1, b2, b3, hk, hm, hq⟩ := hY
  have HL := hid hlow
  clear hlow HC
  go_wp2
  all_goals
    go_ret
    exact ⟨rfl, stA HL.out _⟩
set_option maxHeartbeats 1600000 in
theorem Gm.ck_f1 (m0 : (n0 : Int) ≤ 1024) (m1 : (n1 : Int) ≤ 1024) (ew0 : 0 ≤ x) (ew1 : x ≤ 15) (el0 : 0 ≤ l) (el1 : l ≤ 9) (ea0 : 0 ≤ a) (ea1 : a ≤ 63) (ef0 : 0 ≤ f) (ef1 : 20000 < f) : CkT w u0 u1 u2 u3 u4 n0 n1 128 64 256 c0 c1 c2 c3 c4 x l a f k m q g 3 := by
  intro M S hC
  have hmx : max (n0 : Int) n1 ≤ 1024 := by omega
  have HC := hid hC
  clear hC
  go_enter Try.func11, Try.ntmps11
  go_upto_region 1 with fail
  refine Pl.cutW (CkW w u0 u1 u2 u3 u4 n0 n1 128 64 256 c0 c1 c2 c3 c4 x l a f k m q g) HC.out ?_
  intro Y hY
  obtain ⟨hlow, z, r0, r1, r2, r3, r4, s, b0, b1, b2, b3, hk, hm, hq⟩ := hY
  have HL := hid hlow
  clear hlow HC
  go_wp2
  all_goals
    go_ret
    exact ⟨rfl, stA HL.out _⟩
set_option maxHeartbeats 1600000 in
theorem Gm.ck_k0 (m0 : (n0 : Int) ≤ 1024) (m1 : (n1 : Int) ≤ 1024) (ew0 : 0 ≤ x) (ew1 : x ≤ 15) (el0 : 0 ≤ l) (el1 : l ≤ 9) (ea0 : 0 ≤ a) (ea1 : a ≤ 63) (ef0 : 0 ≤ f) (ef1 : f ≤ 20000) (ek0 : k < 0) : CkT w u0 u1 u2 u3 u4 n0 n1 128 64 256 c0 c1 c2 c3 c4 x l a f k m q g 3 := by
  intro M S hC
  have hmx : max (n0 : Int) n1 ≤ 1024 := by omega
  have HC := hid hC
  clear hC
  go_enter Try.func11, Try.ntmps11
  go_upto_region 1 with fail
  refine Pl.cutW (CkW w u0 u1 u2 u3 u4 n0 n1 128 64 256 c0 c1 c2 c3 c4 x l a f k m q g) HC.out ?_
  intro Y hY
  obtain ⟨hlow, z, r0, r1, r2, r3, r4, s, b0, b1, b2, b3, hk, hm, hq⟩ := hY
  have HL := hid hlow
  clear hlow HC
  go_wp2
  all_goals
    go_ret
    exact ⟨rfl, stA HL.out _⟩
set_option maxHeartbeats 1600000 in
theorem Gm.ck_k1 (m0 : (n0 : Int) ≤ 1024) (m1 : (n1 : Int) ≤ 1024) (ew0 : 0 ≤ x) (ew1 : x ≤ 15) (el0 : 0 ≤ l) (el1 : l ≤ 9) (ea0 : 0 ≤ a) (ea1 : a ≤ 63) (ef0 : 0 ≤ f) (ef1 : f ≤ 20000) (ek0 : 0 ≤ k) (ek1 : 200000 < k) : CkT w u0 u1 u2 u3 u4 n0 n1 128 64 256 c0 c1 c2 c3 c4 x l a f k m q g 3 := by
  intro M S hC
  have hmx : max (n0 : Int) n1 ≤ 1024 := by omega
  have HC := hid hC
  clear hC
  go_enter Try.func11, Try.ntmps11
  go_upto_region 1 with fail
  refine Pl.cutW (CkW w u0 u1 u2 u3 u4 n0 n1 128 64 256 c0 c1 c2 c3 c4 x l a f k m q g) HC.out ?_
  intro Y hY
  obtain ⟨hlow, z, r0, r1, r2, r3, r4, s, b0, b1, b2, b3, hk, hm, hq⟩ := hY
  have HL := hid hlow
  clear hlow HC
  go_wp2
  all_goals
    go_ret
    exact ⟨rfl, stA HL.out _⟩
set_option maxHeartbeats 1600000 in
theorem Gm.ck_p0 (m0 : (n0 : Int) ≤ 1024) (m1 : (n1 : Int) ≤ 1024) (ew0 : 0 ≤ x) (ew1 : x ≤ 15) (el0 : 0 ≤ l) (el1 : l ≤ 9) (ea0 : 0 ≤ a) (ea1 : a ≤ 63) (ef0 : 0 ≤ f) (ef1 : f ≤ 20000) (ek0 : 0 ≤ k) (ek1 : k ≤ 200000) (ep0 : m < 0) : CkT w u0 u1 u2 u3 u4 n0 n1 128 64 256 c0 c1 c2 c3 c4 x l a f k m q g 3 := by
  intro M S hC
  have hmx : max (n0 : Int) n1 ≤ 1024 := by omega
  have HC := hid hC
  clear hC
  go_enter Try.func11, Try.ntmps11
  go_upto_region 1 with fail
  refine Pl.cutW (CkW w u0 u1 u2 u3 u4 n0 n1 128 64 256 c0 c1 c2 c3 c4 x l a f k m q g) HC.out ?_
  intro Y hY
  obtain ⟨hlow, z, r0, r1, r2, r3, r4, s, b0, b1, b2, b3, hk, hm, hq⟩ := hY
  have HL := hid hlow
  clear hlow HC
  go_wp2
  all_goals
    go_ret
    exact ⟨rfl, stA HL.out _⟩
set_option maxHeartbeats 1600000 in
theorem Gm.ck_p1 (m0 : (n0 : Int) ≤ 1024) (m1 : (n1 : Int) ≤ 1024) (ew0 : 0 ≤ x) (ew1 : x ≤ 15) (el0 : 0 ≤ l) (el1 : l ≤ 9) (ea0 : 0 ≤ a) (ea1 : a ≤ 63) (ef0 : 0 ≤ f) (ef1 : f ≤ 20000) (ek0 : 0 ≤ k) (ek1 : k ≤ 200000) (ep0 : 0 ≤ m) (ep1 : k + 20000 < m) : CkT w u0 u1 u2 u3 u4 n0 n1 128 64 256 c0 c1 c2 c3 c4 x l a f k m q g 3 := by
  intro M S hC
  have hmx : max (n0 : Int) n1 ≤ 1024 := by omega
  have HC := hid hC
  clear hC
  go_enter Try.func11, Try.ntmps11
  go_upto_region 1 with fail
  refine Pl.cutW (CkW w u0 u1 u2 u3 u4 n0 n1 128 64 256 c0 c1 c2 c3 c4 x l a f k m q g) HC.out ?_
  intro Y hY
  obtain ⟨hlow, z, r0, r1, r2, r3, r4, s, b0, b1, b2, b3, hk, hm, hq⟩ := hY
  have HL := hid hlow
  clear hlow HC
  go_wp2
  all_goals
    go_ret
    exact ⟨rfl, stA HL.out _⟩
set_option maxHeartbeats 1600000 in
theorem Gm.ck_q0 (m0 : (n0 : Int) ≤ 1024) (m1 : (n1 : Int) ≤ 1024) (ew0 : 0 ≤ x) (ew1 : x ≤ 15) (el0 : 0 ≤ l) (el1 : l ≤ 9) (ea0 : 0 ≤ a) (ea1 : a ≤ 63) (ef0 : 0 ≤ f) (ef1 : f ≤ 20000) (ek0 : 0 ≤ k) (ek1 : k ≤ 200000) (ep0 : 0 ≤ m) (ep1 : m ≤ k + 20000) (eq0 : q < 0) : CkT w u0 u1 u2 u3 u4 n0 n1 128 64 256 c0 c1 c2 c3 c4 x l a f k m q g 3 := by
  intro M S hC
  have hmx : max (n0 : Int) n1 ≤ 1024 := by omega
  have HC := hid hC
  clear hC
  go_enter Try.func11, Try.ntmps11
  go_upto_region 1 with fail
  refine Pl.cutW (CkW w u0 u1 u2 u3 u4 n0 n1 128 64 256 c0 c1 c2 c3 c4 x l a f k m q g) HC.out ?_
  intro Y hY
  obtain ⟨hlow, z, r0, r1, r2, r3, r4, s, b0, b1, b2, b3, hk, hm, hq⟩ := hY
  have HL := hid hlow
  clear hlow HC
  go_wp2
  all_goals
    go_ret
    exact ⟨rfl, stA HL.out _⟩
set_option maxHeartbeats 1600000 in
theorem Gm.ck_q1 (m0 : (n0 : Int) ≤ 1024) (m1 : (n1 : Int) ≤ 1024) (ew0 : 0 ≤ x) (ew1 : x ≤ 15) (el0 : 0 ≤ l) (el1 : l ≤ 9) (ea0 : 0 ≤ a) (ea1 : a ≤ 63) (ef0 : 0 ≤ f) (ef1 : f ≤ 20000) (ek0 : 0 ≤ k) (ek1 : k ≤ 200000) (ep0 : 0 ≤ m) (ep1 : m ≤ k + 20000) (eq0 : 0 ≤ q) (eq1 : k + 20000 < q) : CkT w u0 u1 u2 u3 u4 n0 n1 128 64 256 c0 c1 c2 c3 c4 x l a f k m q g 3 := by
  intro M S hC
  have hmx : max (n0 : Int) n1 ≤ 1024 := by omega
  have HC := hid hC
  clear hC
  go_enter Try.func11, Try.ntmps11
  go_upto_region 1 with fail
  refine Pl.cutW (CkW w u0 u1 u2 u3 u4 n0 n1 128 64 256 c0 c1 c2 c3 c4 x l a f k m q g) HC.out ?_
  intro Y hY
  obtain ⟨hlow, z, r0, r1, r2, r3, r4, s, b0, b1, b2, b3, hk, hm, hq⟩ := hY
  have HL := hid hlow
  clear hlow HC
  go_wp2
  all_goals
    go_ret
    exact ⟨rfl, stA HL.out _⟩
set_option maxHeartbeats 1600000 in
theorem Gm.ck_ok (m0 : (n0 : Int) ≤ 1024) (m1 : (n1 : Int) ≤ 1024) (ew0 : 0 ≤ x) (ew1 : x ≤ 15) (el0 : 0 ≤ l) (el1 : l ≤ 9) (ea0 : 0 ≤ a) (ea1 : a ≤ 63) (ef0 : 0 ≤ f) (ef1 : f ≤ 20000) (ek0 : 0 ≤ k) (ek1 : k ≤ 200000) (ep0 : 0 ≤ m) (ep1 : m ≤ k + 20000) (eq0 : 0 ≤ q) (eq1 : q ≤ k + 20000) : CkT w u0 u1 u2 u3 u4 n0 n1 128 64 256 c0 c1 c2 c3 c4 x l a f k m q g 0 := by
  intro M S hC
  have hmx : max (n0 : Int) n1 ≤ 1024 := by omega
  have HC := hid hC
  clear hC
  go_enter Try.func11, Try.ntmps11
  go_upto_region 1 with fail
  refine Pl.cutW (CkW w u0 u1 u2 u3 u4 n0 n1 128 64 256 c0 c1 c2 c3 c4 x l a f k m q g) HC.out ?_
  intro Y hY
  obtain ⟨hlow, z, r0, r1, r2, r3, r4, s, b0, b1, b2, b3, hk, hm, hq⟩ := hY
  have HL := hid hlow
  clear hlow HC
  go_wp2
  all_goals
    go_ret
    exact ⟨rfl, stA HL.out _⟩
theorem Gm.check_any (M : Mach) (S : Sl) (w : World) (hS : S.lens M) : Calls Try.prog 11 #[.agg (machL M S).toArray] w fun e w' => e = .returned (.int .i64 M.chk) ∧ Below w.heap.size w w' := by
  obtain ⟨u0, c0, e0⟩ := hS 0 (by omega)
  obtain ⟨u1, c1, e1⟩ := hS 1 (by omega)
  obtain ⟨u2, c2, e2⟩ := hS 2 (by omega)
  obtain ⟨u3, c3, e3⟩ := hS 3 (by omega)
  obtain ⟨u4, c4, e4⟩ := hS 4 (by omega)
  have hC := CkW.mk0 M S w 41 e0 e1 e2 e3 e4
  unfold Mach.chk
  by_cases hr : M.mrom.length ≤ 1024 ∧ M.arom.length ≤ 1024
  · rw [if_pos hr]
    have t0 : (M.mrom.length : Int) ≤ 1024 := by omega
    have t1 : (M.arom.length : Int) ≤ 1024 := by omega
    by_cases hl : M.ram.length = 128 ∧ M.own.length = 64 ∧ M.video.length = 256
    · rw [if_pos hl]
      obtain ⟨l1, l2, l3⟩ := hl
      rw [l1, l2, l3] at hC
      by_cases gw0 : 0 ≤ M.s.w
      case neg =>
        rw [if_neg (by omega)]
        exact Gm.ck_w0 t0 t1  (by omega) M S hC
      case pos =>
      by_cases gw1 : M.s.w ≤ 15
      case neg =>
        rw [if_neg (by omega)]
        exact Gm.ck_w1 t0 t1 gw0 (by omega) M S hC
      case pos =>
      by_cases gl0 : 0 ≤ M.b.l
      case neg =>
        rw [if_pos ⟨gw0, gw1⟩, if_neg (fun hb => by have hb := (bok_iff _ _ _).1 hb; have := hb.l0; have := hb.l1; have := hb.a0; have := hb.a1; have := hb.f0; have := hb.f1; omega)]
        exact Gm.ck_l0 t0 t1 gw0 gw1 (by omega) M S hC
      case pos =>
      by_cases gl1 : M.b.l ≤ 9
      case neg =>
        rw [if_pos ⟨gw0, gw1⟩, if_neg (fun hb => by have hb := (bok_iff _ _ _).1 hb; have := hb.l0; have := hb.l1; have := hb.a0; have := hb.a1; have := hb.f0; have := hb.f1; omega)]
        exact Gm.ck_l1 t0 t1 gw0 gw1 gl0 (by omega) M S hC
      case pos =>
      by_cases ga0 : 0 ≤ M.b.a
      case neg =>
        rw [if_pos ⟨gw0, gw1⟩, if_neg (fun hb => by have hb := (bok_iff _ _ _).1 hb; have := hb.l0; have := hb.l1; have := hb.a0; have := hb.a1; have := hb.f0; have := hb.f1; omega)]
        exact Gm.ck_a0 t0 t1 gw0 gw1 gl0 gl1 (by omega) M S hC
      case pos =>
      by_cases ga1 : M.b.a ≤ 63
      case neg =>
        rw [if_pos ⟨gw0, gw1⟩, if_neg (fun hb => by have hb := (bok_iff _ _ _).1 hb; have := hb.l0; have := hb.l1; have := hb.a0; have := hb.a1; have := hb.f0; have := hb.f1; omega)]
        exact Gm.ck_a1 t0 t1 gw0 gw1 gl0 gl1 ga0 (by omega) M S hC
      case pos =>
      by_cases gf0 : 0 ≤ M.b.f
      case neg =>
        rw [if_pos ⟨gw0, gw1⟩, if_neg (fun hb => by have hb := (bok_iff _ _ _).1 hb; have := hb.l0; have := hb.l1; have := hb.a0; have := hb.a1; have := hb.f0; have := hb.f1; omega)]
        exact Gm.ck_f0 t0 t1 gw0 gw1 gl0 gl1 ga0 ga1 (by omega) M S hC
      case pos =>
      by_cases gf1 : M.b.f ≤ 20000
      case neg =>
        rw [if_pos ⟨gw0, gw1⟩, if_neg (fun hb => by have hb := (bok_iff _ _ _).1 hb; have := hb.l0; have := hb.l1; have := hb.a0; have := hb.a1; have := hb.f0; have := hb.f1; omega)]
        exact Gm.ck_f1 t0 t1 gw0 gw1 gl0 gl1 ga0 ga1 gf0 (by omega) M S hC
      case pos =>
      by_cases gk0 : 0 ≤ M.clock
      case neg =>
        rw [if_pos ⟨gw0, gw1⟩, if_pos ((bok_iff _ _ _).2 ⟨gl0, gl1, ga0, ga1, gf0, gf1⟩), if_neg (by omega)]
        exact Gm.ck_k0 t0 t1 gw0 gw1 gl0 gl1 ga0 ga1 gf0 gf1 (by omega) M S hC
      case pos =>
      by_cases gk1 : M.clock ≤ 200000
      case neg =>
        rw [if_pos ⟨gw0, gw1⟩, if_pos ((bok_iff _ _ _).2 ⟨gl0, gl1, ga0, ga1, gf0, gf1⟩), if_neg (by omega)]
        exact Gm.ck_k1 t0 t1 gw0 gw1 gl0 gl1 ga0 ga1 gf0 gf1 gk0 (by omega) M S hC
      case pos =>
      by_cases gp0 : 0 ≤ M.mready
      case neg =>
        rw [if_pos ⟨gw0, gw1⟩, if_pos ((bok_iff _ _ _).2 ⟨gl0, gl1, ga0, ga1, gf0, gf1⟩), if_neg (by omega)]
        exact Gm.ck_p0 t0 t1 gw0 gw1 gl0 gl1 ga0 ga1 gf0 gf1 gk0 gk1 (by omega) M S hC
      case pos =>
      by_cases gp1 : M.mready ≤ M.clock + 20000
      case neg =>
        rw [if_pos ⟨gw0, gw1⟩, if_pos ((bok_iff _ _ _).2 ⟨gl0, gl1, ga0, ga1, gf0, gf1⟩), if_neg (by omega)]
        exact Gm.ck_p1 t0 t1 gw0 gw1 gl0 gl1 ga0 ga1 gf0 gf1 gk0 gk1 gp0 (by omega) M S hC
      case pos =>
      by_cases gq0 : 0 ≤ M.aready
      case neg =>
        rw [if_pos ⟨gw0, gw1⟩, if_pos ((bok_iff _ _ _).2 ⟨gl0, gl1, ga0, ga1, gf0, gf1⟩), if_neg (by omega)]
        exact Gm.ck_q0 t0 t1 gw0 gw1 gl0 gl1 ga0 ga1 gf0 gf1 gk0 gk1 gp0 gp1 (by omega) M S hC
      case pos =>
      by_cases gq1 : M.aready ≤ M.clock + 20000
      case neg =>
        rw [if_pos ⟨gw0, gw1⟩, if_pos ((bok_iff _ _ _).2 ⟨gl0, gl1, ga0, ga1, gf0, gf1⟩), if_neg (by omega)]
        exact Gm.ck_q1 t0 t1 gw0 gw1 gl0 gl1 ga0 ga1 gf0 gf1 gk0 gk1 gp0 gp1 gq0 (by omega) M S hC
      case pos =>
      rw [if_pos ⟨gw0, gw1⟩, if_pos ((bok_iff _ _ _).2 ⟨gl0, gl1, ga0, ga1, gf0, gf1⟩), if_pos ⟨⟨gk0, gk1⟩, ⟨gp0, gp1⟩, ⟨gq0, gq1⟩⟩]
      exact Gm.ck_ok t0 t1 gw0 gw1 gl0 gl1 ga0 ga1 gf0 gf1 gk0 gk1 gp0 gp1 gq0 gq1 M S hC
    · rw [if_neg hl]
      by_cases l1 : M.ram.length = 128
      case neg => exact Gm.ck_ram t0 t1 (by simp; omega) M S hC
      by_cases l2 : M.own.length = 64
      case neg => exact Gm.ck_own t0 t1 l1 (by simp; omega) M S hC
      exact Gm.ck_video t0 t1 l1 l2 (by simp; omega) M S hC
  · rw [if_neg hr]
    exact Gm.ck_many (by omega) M S hC
end
theorem exec_load_mid {P : Program} {a : Act} {o : Oper} {w : World} (ty : TypeId) (x : Operand) (ho : o.op = .load ty x) (b off : Nat) (hx : a.eval x = .pointer (some ⟨b, off, none⟩)) (cs : List Value) (u : TypeDesc) (hc : w.rangeAt b off cs) (hu : P.underlying ty = some u) (hag : u.isRow = true) (hi : (P.info? ty).map (·.size) = some cs.length) :
    (execOp a.eval o).run P w = .ok (.value (.agg cs.toArray)) w := by
  unfold execOp
  simp only [ho, hx, Sem.run_bind, run_loadAt_mid w b off ty cs u hc hu hag hi, Result.andThen_ok, Sem.run_pure]
theorem zero_at (w : World) : SlAt w nilS zeroM := fun j hj => by
  rcases five hj with rfl | rfl | rfl | rfl | rfl <;> exact Or.inl ⟨none, 0, rfl, rfl⟩
theorem Bu.none_any (w : World) : Calls Try.prog 12 #[.agg (machL zeroM nilS).toArray] w fun e w' => e = .returned (.bool true) ∧ Below w.heap.size w w' := by
  have HB := hid (Bx.new w (machL zeroM nilS) 41 (b := w.heap.size) rfl)
  go_enter Try.func12, Try.ntmps12
  go_wp2_with (first
    | (refine wpList_load_mid rfl 41 _ rfl w.heap.size 0 rfl (machL zeroM nilS) _ HB.out.c Try.underlying41 rfl info_mach ?_)
    | (refine wpList_build0 rfl 41 rfl _ (run_none _) ?_)
    | (go_at_call 13; refine (Bu.same_any zeroM nilS nilS _ (zero_at _) (zero_at _)).mono ?_; rintro e w4 ⟨rfl, hb4⟩))
  go_ret
  exact ⟨rfl, stp (stA (st0 w) _) hb4⟩
/-- Two machines in two boxes, two programs. -/
structure NW (w : World) (b : Nat) (M X : Mach) (S S1 : Sl) (v1 v2 : Value) (l1 l2 : List UInt8) (Y : World) : Prop where
  low : Below w.heap.size w Y
  m : Bx Y w.heap.size (machL M S)
  x : Bx Y b (machL X S1)
  xs : SlAt Y S1 X
  h1 : sliceAt Y v1 l1
  h2 : sliceAt Y v2 l2
theorem NW.kept {w Y Y' : World} {b : Nat} {M X : Mach} {S S1 : Sl} {v1 v2 : Value} {l1 l2 : List UInt8} (h : NW w b M X S S1 v1 v2 l1 l2 Y) (hb : Below Y.heap.size Y Y') : NW w b M X S S1 v1 v2 l1 l2 Y' := ⟨stp h.low hb, h.m.kept hb, h.x.kept hb, h.xs.kept hb, h.h1.kept hb, h.h2.kept hb⟩
theorem NW.mk0 {w Y : World} {M X : Mach} {S S1 : Sl} {v1 v2 : Value} {l1 l2 : List UInt8} (hl : Below w.heap.size w Y) (hm : Bx Y w.heap.size (machL M S)) (hs : SlAt Y S1 X) (h1 : sliceAt Y v1 l1) (h2 : sliceAt Y v2 l2) (t : TypeId) : NW w Y.heap.size M X S S1 v1 v2 l1 l2 ((Y.alloc (.cells (machL zeroM nilS).toArray t)).setCells Y.heap.size 0 (machL X S1)) := by
  have hx := (Bx.new Y (machL zeroM nilS) t (b := Y.heap.size) rfl).puts 0 (machL X S1) (by rw [machL_len, machL_len]; omega)
  rw [putL_whole _ _ (by rw [machL_len, machL_len])] at hx
  have hb : Below Y.heap.size Y ((Y.alloc (.cells (machL zeroM nilS).toArray t)).setCells Y.heap.size 0 (machL X S1)) := Bl.puts (stA (st0 Y) _) (Nat.le_refl _) _
  exact ⟨stp hl hb, hm.kept hb, hx, hs.kept hb, h1.kept hb, h2.kept hb⟩
set_option maxHeartbeats 3200000 in
theorem Bu.new_yes (l1 l2 : List UInt8) (v1 v2 : Value) (M : Mach) (S : Sl) (w : World) (h1 : sliceAt w v1 l1) (h2 : sliceAt w v2 l2) (hl1 : l1.length ≤ 1024) (hl2 : l2.length ≤ 1024) (hS : S.lens M) (hz : ∀ j, j < 5 → (M.byt j).length ≤ 9223372036854775807) :
    Calls Try.prog 3 #[v1, v2, .agg (machL M S).toArray] w fun e w' => e = .returned (.bool true) ∧ Below w.heap.size w w' := by
  obtain ⟨a1, c1, e1⟩ := slice_len h1
  obtain ⟨a2, c2, e2⟩ := slice_len h2
  subst e1 e2
  have HB := hid (Bx.new w (machL M S) 41 (b := w.heap.size) rfl)
  have HL := hid (stA (st0 w) (.cells (machL M S).toArray 41))
  have H1 := hid (h1.kept HL.out)
  have H2 := hid (h2.kept HL.out)
  have HSL := hid hS
  have HZL := hid hz
  obtain ⟨c, hcc⟩ : ∃ c, M.chk = c := ⟨_, rfl⟩
  have HCK := hid hcc
  clear h1 h2 hS hz hcc
  have q1 : (l1.length : Int) ≤ 1024 := by omega
  have q2 : (l2.length : Int) ≤ 1024 := by omega
  have HL1 := hid hl1
  have HL2 := hid hl2
  clear hl1 hl2
  go_enter Try.func3, Try.ntmps3
  go_upto_region 2 with (first
    | (go_at_call 8; refine (Bu.new_ok l1 l2 _ _ _ H1.out H2.out HL1.out HL2.out).mono ?_; rintro e w1 ⟨S1, rfl, hs1, hf1, hn1, hb1⟩; have HS1 := hid hs1; have HF1 := hid hf1; have HB1 := hid hb1; clear hs1 hf1 hn1 hb1)
    | (refine wpList_store_mid rfl 41 _ _ rfl w1.heap.size 0 (machL (newD l1 l2) S1).toArray rfl rfl (zero_th w1 _) info_mach (machL_one _ _ HS1.out.isSl) ?_
       refine Pl.cutL (NW w w1.heap.size M (newD l1 l2) S S1 (.slice a1 l1.length c1) (.slice a2 l2.length c2) l1 l2) (NW.mk0 (stp HL.out HB1.out) (HB.out.kept HB1.out) HS1.out (H1.out.kept HB1.out) (H2.out.kept HB1.out) _) ?_
       intro Y hY
       have HY1 := hid hY
       clear hY))
  refine wp_region_held_drew (S := fun w' => w'.rangeAt w.heap.size 0 (machL M S)) (by kernel_rfl) (HY1.out.m.c) ?_
  intro hS
  refine wpAnyH_ready (rs := [0]) (by kernel_rfl) (by simp) ?_
  refine AllReadyH.cons (o := { dst := some 15, op := _, type := _, pos := _, after := _, guard := none }) rfl (fun K hK => ?_) AllReadyH.nil
  go_simp
  go_at_call 9
  refine (Bu.bussed_any _).mono ?_
  rintro e w2 ⟨rfl, hb2⟩
  have HY2 := hid (HY1.out.kept (stp (st0 Y).drew hb2))
  clear hb2
  try go_wp2_with fail
  refine hK.out _ _ (HY2.out.m.c) (fun _ => ?_)
  clear hK K
  try simp only [Act.put, List.setIfInBounds_toArray, List.set_cons_zero, List.set_cons_succ]
  clear hS
  have hS : w2.rangeAt w.heap.size 0 (machL M S) := HY2.out.m.c
  refine wpAnyH_take (i := 1) (oi := { dst := some 16, op := _, type := _, pos := _, after := _, guard := none }) (v := ?_) rfl (by kernel_rfl) (by kernel_rfl) (by kernel_rfl) (fun _ _ _ h => h) (Or.inl ⟨by rfl, ?_⟩) hS ?_
  rotate_left 1
  focus (intro w hSw; (try dsimp only at hSw); go_simp; try (with_reducible rfl))
  simp only [Act.put, List.setIfInBounds_toArray, List.set_cons_zero, List.set_cons_succ]
  refine wpAnyH_take (i := 2) (oi := { dst := some 17, op := _, type := _, pos := _, after := _, guard := none }) (v := ?_) rfl (by kernel_rfl) (by kernel_rfl) (by kernel_rfl) (fun _ _ _ h => h) (Or.inl ⟨by rfl, ?_⟩) hS ?_
  rotate_left 1
  focus (intro w hSw; (try dsimp only at hSw); go_simp; try (with_reducible rfl))
  simp only [Act.put, List.setIfInBounds_toArray, List.set_cons_zero, List.set_cons_succ]
  refine wpAnyH_take (i := 3) (oi := { dst := some 18, op := _, type := _, pos := _, after := _, guard := some (2, false) }) (v := .agg (machL M S).toArray) rfl (by kernel_rfl) (by kernel_rfl) (by kernel_rfl) (fun _ _ _ h => h) (Or.inl ⟨by rfl, fun w' hSw => exec_load_mid 41 _ rfl w.heap.size 0 rfl (machL M S) _ hSw Try.underlying41 rfl info_mach⟩) hS ?_
  simp only [Act.put, List.setIfInBounds_toArray, List.set_cons_zero, List.set_cons_succ]
  refine wpAnyH_take (i := 5) (oi := { dst := some 20, op := _, type := _, pos := _, after := _, guard := some (2, false) }) (v := .agg (machL M S).toArray) rfl (by kernel_rfl) (by kernel_rfl) (by kernel_rfl) (fun _ _ _ h => h) (Or.inl ⟨by rfl, fun w' hSw => exec_load_mid 41 _ rfl w.heap.size 0 rfl (machL M S) _ hSw Try.underlying41 rfl info_mach⟩) hS ?_
  simp only [Act.put, List.setIfInBounds_toArray, List.set_cons_zero, List.set_cons_succ]
  refine wpAnyH_ready (rs := [4]) (by kernel_rfl) (by simp) ?_
  refine AllReadyH.cons (o := { dst := some 19, op := _, type := _, pos := _, after := _, guard := some (2, false) }) rfl (fun K hK => ?_) AllReadyH.nil
  go_simp
  go_at_call 10
  refine (Bu.check_any M S _ HSL.out HZL.out).mono ?_
  rw [HCK.out]
  rintro e w3 ⟨rfl, hb3⟩
  have HY3 := hid (HY2.out.kept hb3)
  clear hb3
  try go_wp2_with fail
  refine hK.out _ _ (HY3.out.m.c) (fun _ => ?_)
  clear hK K
  try simp only [Act.put, List.setIfInBounds_toArray, List.set_cons_zero, List.set_cons_succ]
  clear hS
  have hS : w3.rangeAt w.heap.size 0 (machL M S) := HY3.out.m.c
  refine wpAnyH_ready (rs := [6]) (by kernel_rfl) (by simp) ?_
  refine AllReadyH.cons (o := { dst := some 21, op := _, type := _, pos := _, after := _, guard := some (2, false) }) rfl (fun K hK => ?_) AllReadyH.nil
  go_simp
  go_at_call 11
  refine (Gm.check_any M S _ HSL.out).mono ?_
  rw [HCK.out]
  rintro e w4 ⟨rfl, hb4⟩
  have HY4 := hid (HY3.out.kept hb4)
  clear hb4
  try go_wp2_with fail
  refine hK.out _ _ (HY4.out.m.c) (fun _ => ?_)
  clear hK K
  try simp only [Act.put, List.setIfInBounds_toArray, List.set_cons_zero, List.set_cons_succ]
  clear hS
  have hS : w4.rangeAt w.heap.size 0 (machL M S) := HY4.out.m.c
  refine wpAnyH_take (i := 7) (oi := { dst := some 22, op := _, type := _, pos := _, after := _, guard := some (2, false) }) (v := ?_) rfl (by kernel_rfl) (by kernel_rfl) (by kernel_rfl) (fun _ _ _ h => h) (Or.inl ⟨by rfl, ?_⟩) hS ?_
  rotate_left 1
  focus (intro w hSw; (try dsimp only at hSw); go_simp; try (with_reducible rfl))
  simp only [Act.put, List.setIfInBounds_toArray, List.set_cons_zero, List.set_cons_succ]
  refine wpAnyH_take (i := 8) (oi := { dst := some 23, op := _, type := _, pos := _, after := _, guard := none }) (v := ?_) rfl (by kernel_rfl) (by kernel_rfl) (by kernel_rfl) (fun _ _ _ h => h) (Or.inl ⟨by rfl, ?_⟩) hS ?_
  rotate_left 1
  focus (intro w hSw; (try dsimp only at hSw); go_simp; try (with_reducible rfl))
  simp only [Act.put, List.setIfInBounds_toArray, List.set_cons_zero, List.set_cons_succ]
  refine wpAnyH_done (by kernel_rfl) ?_ _
  refine Pl.cutE (NW w w1.heap.size M (newD l1 l2) S S1 (.slice a1 l1.length c1) (.slice a2 l2.length c2) l1 l2) HY4.out ?_
  intro V hV
  have HV := hid hV
  clear hV hS HY1 HY2 HY3 HY4 HB HL H1 H2 HB1
  go_wp2
  refine wp_region_held_drew (S := fun w' => w'.rangeAt w1.heap.size 0 (machL (newD l1 l2) S1)) (by kernel_rfl) (HV.out.x.c) ?_
  intro hS
  refine wpAnyH_take (i := 0) (oi := { dst := some 38, op := _, type := _, pos := _, after := _, guard := none }) (v := ?_) rfl (by kernel_rfl) (by kernel_rfl) (by kernel_rfl) (fun _ _ _ h => h) (Or.inl ⟨by rfl, ?_⟩) hS ?_
  rotate_left 1
  focus (intro w hSw; (try dsimp only at hSw); go_simp; try (with_reducible rfl))
  simp only [Act.put, List.setIfInBounds_toArray, List.set_cons_zero, List.set_cons_succ]
  refine wpAnyH_take (i := 1) (oi := { dst := some 39, op := _, type := _, pos := _, after := _, guard := none }) (v := ?_) rfl (by kernel_rfl) (by kernel_rfl) (by kernel_rfl) (fun _ _ _ h => h) (Or.inl ⟨by rfl, ?_⟩) hS ?_
  rotate_left 1
  focus (intro w hSw; (try dsimp only at hSw); go_simp; try (with_reducible rfl))
  simp only [Act.put, List.setIfInBounds_toArray, List.set_cons_zero, List.set_cons_succ]
  refine wpAnyH_take (i := 2) (oi := { dst := some 40, op := _, type := _, pos := _, after := _, guard := none }) (v := ?_) rfl (by kernel_rfl) (by kernel_rfl) (by kernel_rfl) (fun _ _ _ h => h) (Or.inl ⟨by rfl, ?_⟩) hS ?_
  rotate_left 1
  focus (intro w hSw; (try dsimp only at hSw); go_simp; try (with_reducible rfl))
  simp only [Act.put, List.setIfInBounds_toArray, List.set_cons_zero, List.set_cons_succ]
  refine wpAnyH_take (i := 3) (oi := { dst := some 41, op := _, type := _, pos := _, after := _, guard := some (2, true) }) (v := .agg (machL (newD l1 l2) S1).toArray) rfl (by kernel_rfl) (by kernel_rfl) (by kernel_rfl) (fun _ _ _ h => h) (Or.inl ⟨by rfl, fun w' hSw => exec_load_mid 41 _ rfl w1.heap.size 0 rfl (machL (newD l1 l2) S1) _ hSw Try.underlying41 rfl info_mach⟩) hS ?_
  simp only [Act.put, List.setIfInBounds_toArray, List.set_cons_zero, List.set_cons_succ]
  refine wpAnyH_take (i := 4) (oi := { dst := some 42, op := _, type := _, pos := _, after := _, guard := some (2, true) }) (v := ?_) rfl (by kernel_rfl) (by kernel_rfl) (by kernel_rfl) (fun _ _ _ h => h) (Or.inl ⟨by rfl, ?_⟩) hS ?_
  rotate_left 1
  focus (intro w hSw; (try dsimp only at hSw); go_simp; try (with_reducible rfl))
  simp only [Act.put, List.setIfInBounds_toArray, List.set_cons_zero, List.set_cons_succ]
  refine wpAnyH_take (i := 5) (oi := { dst := some 43, op := _, type := _, pos := _, after := _, guard := some (2, true) }) (v := ?_) rfl (by kernel_rfl) (by kernel_rfl) (by kernel_rfl) (fun _ _ _ h => h) (Or.inl ⟨by rfl, ?_⟩) hS ?_
  rotate_left 1
  focus (intro w hSw; (try dsimp only at hSw); go_simp; try (with_reducible rfl))
  simp only [Act.put, List.setIfInBounds_toArray, List.set_cons_zero, List.set_cons_succ]
  refine wpAnyH_ready (rs := [6]) (by kernel_rfl) (by simp) ?_
  refine AllReadyH.cons (o := { dst := some 44, op := _, type := _, pos := _, after := _, guard := some (2, true) }) rfl (fun K hK => ?_) AllReadyH.nil
  go_simp
  go_at_call 14
  refine (Gm.new_any l1 l2 _ _ _ (HV.out.kept (st0 V).drew).h1 (HV.out.kept (st0 V).drew).h2 HL1.out HL2.out).mono ?_
  rintro e w5 ⟨S5, rfl, hs5, hf5, hb5⟩
  have HV5 := hid (HV.out.kept (stp (st0 V).drew hb5))
  have HS5 := hid hs5
  clear hs5 hf5 hb5
  try go_wp2_with fail
  refine hK.out _ _ (HV5.out.x.c) (fun _ => ?_)
  clear hK K
  try simp only [Act.put, List.setIfInBounds_toArray, List.set_cons_zero, List.set_cons_succ]
  clear hS
  have hS : w5.rangeAt w1.heap.size 0 (machL (newD l1 l2) S1) := HV5.out.x.c
  refine wpAnyH_ready (rs := [7]) (by kernel_rfl) (by simp) ?_
  refine AllReadyH.cons (o := { dst := some 45, op := _, type := _, pos := _, after := _, guard := some (2, true) }) rfl (fun K hK => ?_) AllReadyH.nil
  go_simp
  go_at_call 13
  refine (Bu.same_any (newD l1 l2) S1 S5 _ HV5.out.xs HS5.out).mono ?_
  rintro e w6 ⟨rfl, hb6⟩
  have HV6 := hid (HV5.out.kept hb6)
  clear hb6
  try go_wp2_with fail
  refine hK.out _ _ (HV6.out.x.c) (fun _ => ?_)
  clear hK K
  try simp only [Act.put, List.setIfInBounds_toArray, List.set_cons_zero, List.set_cons_succ]
  clear hS
  have hS : w6.rangeAt w1.heap.size 0 (machL (newD l1 l2) S1) := HV6.out.x.c
  refine wpAnyH_take (i := 8) (oi := { dst := some 46, op := _, type := _, pos := _, after := _, guard := none }) (v := ?_) rfl (by kernel_rfl) (by kernel_rfl) (by kernel_rfl) (fun _ _ _ h => h) (Or.inl ⟨by rfl, ?_⟩) hS ?_
  rotate_left 1
  focus (intro w hSw; (try dsimp only at hSw); go_simp; try (with_reducible rfl))
  simp only [Act.put, List.setIfInBounds_toArray, List.set_cons_zero, List.set_cons_succ]
  refine wpAnyH_take (i := 9) (oi := { dst := some 6, op := _, type := _, pos := _, after := _, guard := none }) (v := ?_) rfl (by kernel_rfl) (by kernel_rfl) (by kernel_rfl) (fun _ _ _ h => h) (Or.inl ⟨by rfl, ?_⟩) hS ?_
  rotate_left 1
  focus (intro w hSw; (try dsimp only at hSw); go_simp; try (with_reducible rfl))
  simp only [Act.put, List.setIfInBounds_toArray, List.set_cons_zero, List.set_cons_succ]
  refine wpAnyH_done (by kernel_rfl) ?_ _
  go_simp
  go_wp2
  go_ret
  exact ⟨rfl, HV6.out.low⟩
set_option maxHeartbeats 3200000 in
theorem Bu.new_no (l1 l2 : List UInt8) (v1 v2 : Value) (M : Mach) (S : Sl) (w : World) (h1 : sliceAt w v1 l1) (h2 : sliceAt w v2 l2) (hl1 : l1.length ≤ 9223372036854775807) (hl2 : l2.length ≤ 9223372036854775807) (hc : ¬ (l1.length ≤ 1024 ∧ l2.length ≤ 1024)) (hS : S.lens M) (hz : ∀ j, j < 5 → (M.byt j).length ≤ 9223372036854775807) :
    Calls Try.prog 3 #[v1, v2, .agg (machL M S).toArray] w fun e w' => e = .returned (.bool true) ∧ Below w.heap.size w w' := by
  obtain ⟨a1, c1, e1⟩ := slice_len h1
  obtain ⟨a2, c2, e2⟩ := slice_len h2
  subst e1 e2
  have HB := hid (Bx.new w (machL M S) 41 (b := w.heap.size) rfl)
  have HL := hid (stA (st0 w) (.cells (machL M S).toArray 41))
  have H1 := hid (h1.kept HL.out)
  have H2 := hid (h2.kept HL.out)
  have HSL := hid hS
  have HZL := hid hz
  obtain ⟨c, hcc⟩ : ∃ c, M.chk = c := ⟨_, rfl⟩
  have HCK := hid hcc
  clear h1 h2 hS hz hcc
  go_enter Try.func3, Try.ntmps3
  go_upto_region 2 with (first
    | (go_at_call 8; refine (Bu.new_bad l1 l2 _ _ _ H1.out H2.out hl1 hl2 hc).mono ?_; rintro e w1 ⟨rfl, hb1⟩; have HB1 := hid hb1; have HS1 := hid (zero_at w1); clear hb1)
    | (refine wpList_store_mid rfl 41 _ _ rfl w1.heap.size 0 (machL (zeroM) nilS).toArray rfl rfl (zero_th w1 _) info_mach (machL_one _ _ zero_sl) ?_
       refine Pl.cutL (NW w w1.heap.size M (zeroM) S nilS (.slice a1 l1.length c1) (.slice a2 l2.length c2) l1 l2) (NW.mk0 (stp HL.out HB1.out) (HB.out.kept HB1.out) HS1.out (H1.out.kept HB1.out) (H2.out.kept HB1.out) _) ?_
       intro Y hY
       have HY1 := hid hY
       clear hY))
  refine wp_region_held_drew (S := fun w' => w'.rangeAt w.heap.size 0 (machL M S)) (by kernel_rfl) (HY1.out.m.c) ?_
  intro hS
  refine wpAnyH_ready (rs := [0]) (by kernel_rfl) (by simp) ?_
  refine AllReadyH.cons (o := { dst := some 15, op := _, type := _, pos := _, after := _, guard := none }) rfl (fun K hK => ?_) AllReadyH.nil
  go_simp
  go_at_call 9
  refine (Bu.bussed_any _).mono ?_
  rintro e w2 ⟨rfl, hb2⟩
  have HY2 := hid (HY1.out.kept (stp (st0 Y).drew hb2))
  clear hb2
  try go_wp2_with fail
  refine hK.out _ _ (HY2.out.m.c) (fun _ => ?_)
  clear hK K
  try simp only [Act.put, List.setIfInBounds_toArray, List.set_cons_zero, List.set_cons_succ]
  clear hS
  have hS : w2.rangeAt w.heap.size 0 (machL M S) := HY2.out.m.c
  refine wpAnyH_take (i := 1) (oi := { dst := some 16, op := _, type := _, pos := _, after := _, guard := none }) (v := ?_) rfl (by kernel_rfl) (by kernel_rfl) (by kernel_rfl) (fun _ _ _ h => h) (Or.inl ⟨by rfl, ?_⟩) hS ?_
  rotate_left 1
  focus (intro w hSw; (try dsimp only at hSw); go_simp; try (with_reducible rfl))
  simp only [Act.put, List.setIfInBounds_toArray, List.set_cons_zero, List.set_cons_succ]
  refine wpAnyH_take (i := 2) (oi := { dst := some 17, op := _, type := _, pos := _, after := _, guard := none }) (v := ?_) rfl (by kernel_rfl) (by kernel_rfl) (by kernel_rfl) (fun _ _ _ h => h) (Or.inl ⟨by rfl, ?_⟩) hS ?_
  rotate_left 1
  focus (intro w hSw; (try dsimp only at hSw); go_simp; try (with_reducible rfl))
  simp only [Act.put, List.setIfInBounds_toArray, List.set_cons_zero, List.set_cons_succ]
  refine wpAnyH_take (i := 3) (oi := { dst := some 18, op := _, type := _, pos := _, after := _, guard := some (2, false) }) (v := .agg (machL M S).toArray) rfl (by kernel_rfl) (by kernel_rfl) (by kernel_rfl) (fun _ _ _ h => h) (Or.inl ⟨by rfl, fun w' hSw => exec_load_mid 41 _ rfl w.heap.size 0 rfl (machL M S) _ hSw Try.underlying41 rfl info_mach⟩) hS ?_
  simp only [Act.put, List.setIfInBounds_toArray, List.set_cons_zero, List.set_cons_succ]
  refine wpAnyH_take (i := 5) (oi := { dst := some 20, op := _, type := _, pos := _, after := _, guard := some (2, false) }) (v := .agg (machL M S).toArray) rfl (by kernel_rfl) (by kernel_rfl) (by kernel_rfl) (fun _ _ _ h => h) (Or.inl ⟨by rfl, fun w' hSw => exec_load_mid 41 _ rfl w.heap.size 0 rfl (machL M S) _ hSw Try.underlying41 rfl info_mach⟩) hS ?_
  simp only [Act.put, List.setIfInBounds_toArray, List.set_cons_zero, List.set_cons_succ]
  refine wpAnyH_ready (rs := [4]) (by kernel_rfl) (by simp) ?_
  refine AllReadyH.cons (o := { dst := some 19, op := _, type := _, pos := _, after := _, guard := some (2, false) }) rfl (fun K hK => ?_) AllReadyH.nil
  go_simp
  go_at_call 10
  refine (Bu.check_any M S _ HSL.out HZL.out).mono ?_
  rw [HCK.out]
  rintro e w3 ⟨rfl, hb3⟩
  have HY3 := hid (HY2.out.kept hb3)
  clear hb3
  try go_wp2_with fail
  refine hK.out _ _ (HY3.out.m.c) (fun _ => ?_)
  clear hK K
  try simp only [Act.put, List.setIfInBounds_toArray, List.set_cons_zero, List.set_cons_succ]
  clear hS
  have hS : w3.rangeAt w.heap.size 0 (machL M S) := HY3.out.m.c
  refine wpAnyH_ready (rs := [6]) (by kernel_rfl) (by simp) ?_
  refine AllReadyH.cons (o := { dst := some 21, op := _, type := _, pos := _, after := _, guard := some (2, false) }) rfl (fun K hK => ?_) AllReadyH.nil
  go_simp
  go_at_call 11
  refine (Gm.check_any M S _ HSL.out).mono ?_
  rw [HCK.out]
  rintro e w4 ⟨rfl, hb4⟩
  have HY4 := hid (HY3.out.kept hb4)
  clear hb4
  try go_wp2_with fail
  refine hK.out _ _ (HY4.out.m.c) (fun _ => ?_)
  clear hK K
  try simp only [Act.put, List.setIfInBounds_toArray, List.set_cons_zero, List.set_cons_succ]
  clear hS
  have hS : w4.rangeAt w.heap.size 0 (machL M S) := HY4.out.m.c
  refine wpAnyH_take (i := 7) (oi := { dst := some 22, op := _, type := _, pos := _, after := _, guard := some (2, false) }) (v := ?_) rfl (by kernel_rfl) (by kernel_rfl) (by kernel_rfl) (fun _ _ _ h => h) (Or.inl ⟨by rfl, ?_⟩) hS ?_
  rotate_left 1
  focus (intro w hSw; (try dsimp only at hSw); go_simp; try (with_reducible rfl))
  simp only [Act.put, List.setIfInBounds_toArray, List.set_cons_zero, List.set_cons_succ]
  refine wpAnyH_take (i := 8) (oi := { dst := some 23, op := _, type := _, pos := _, after := _, guard := none }) (v := ?_) rfl (by kernel_rfl) (by kernel_rfl) (by kernel_rfl) (fun _ _ _ h => h) (Or.inl ⟨by rfl, ?_⟩) hS ?_
  rotate_left 1
  focus (intro w hSw; (try dsimp only at hSw); go_simp; try (with_reducible rfl))
  simp only [Act.put, List.setIfInBounds_toArray, List.set_cons_zero, List.set_cons_succ]
  refine wpAnyH_done (by kernel_rfl) ?_ _
  refine Pl.cutE (NW w w1.heap.size M (zeroM) S nilS (.slice a1 l1.length c1) (.slice a2 l2.length c2) l1 l2) HY4.out ?_
  intro V hV
  have HV := hid hV
  clear hV hS HY1 HY2 HY3 HY4 HB HL H1 H2 HB1
  by_cases hg : (l1.length : Int) ≤ 1024
  · have q2 : 1024 < (l2.length : Int) := by omega
    clear hc hl1 hl2
    go_wp2_with (first
      | (refine Bu.loadG rfl 41 _ rfl w1.heap.size 0 rfl (machL zeroM nilS) _ HV.out.x.c Try.underlying41 rfl info_mach ?_)
      | (go_at_call 12; refine (Bu.none_any _).mono ?_; rintro e w5 ⟨rfl, hb5⟩; have HL5 := hid (stp HV.out.low hb5); clear hb5))
    go_ret
    exact ⟨rfl, HL5.out⟩
  · have q1 : 1024 < (l1.length : Int) := by omega
    clear hc hl1 hl2 hg
    go_wp2_with (first
      | (refine Bu.loadG rfl 41 _ rfl w1.heap.size 0 rfl (machL zeroM nilS) _ HV.out.x.c Try.underlying41 rfl info_mach ?_)
      | (go_at_call 12; refine (Bu.none_any _).mono ?_; rintro e w5 ⟨rfl, hb5⟩; have HL5 := hid (stp HV.out.low hb5); clear hb5))
    go_ret
    exact ⟨rfl, HL5.out⟩
end Go.Proofs.Ythooknikfachnaa
