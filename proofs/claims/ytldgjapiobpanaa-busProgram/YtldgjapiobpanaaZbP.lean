/-
  For every machine, either processor, every address and every byte the law BusProgram of the program returns true and leaves its arguments as they were; no condition.
-/
import Derived.Test.YtldgjapiobpanaaZbB
import Derived.Test.YtldgjapiobpanaaZbG
import Derived.Test.YtldgjapiobpanaaBusE
import Derived.Test.YtldgjapiobpanaaZbN
import Derived.Deep.DeepCutAuto
import Derived.Test.YtldgjapiobpanaaZbS
import Derived.Laws.BitsAllLaws
import Derived.Test.YtldgjapiobpanaaPlain
namespace Go.Proofs.Ytldgjapiobpanaa
open Go.ChangeShapes Go.WideShapes Go.ChangeAt Go.RowKit
set_option linter.unusedVariables false
set_option maxRecDepth 100000

set_option maxHeartbeats 800000 in
theorem Bu.read_m (M : Mach) (S : Sl) (w : World) (a : Int) (ha : 0 ≤ a ∧ a ≤ 65535) (hs : SlAt w S M) (hf : M.fit) :
    Calls Try.prog 16 #[.agg (machL M S).toArray, .bool false, .int .u16 a] w fun e w' => ∃ S', e = .returned (.tuple #[.int .u8 (M.rdM a).1, .agg (machL (M.rdM a).2 S').toArray, .int .i64 0]) ∧ SlAt w' S' (M.rdM a).2 ∧ (M.rdM a).2.fit ∧ SlNew (w.heap.size + 2) S' ∧ Below w.heap.size w w' := by
  have hB := (Bx.new w (machL M S) 41 (b := w.heap.size) rfl).over (.cells (machL zeroM nilS).toArray 41)
  have HB := hid hB
  have HR := hid (Bx.new (w.alloc (.cells (machL M S).toArray 41)) (machL zeroM nilS) 41 (b := w.heap.size + 1) (by simp))
  have HL := hid (stA (stA (st0 w) (.cells (machL M S).toArray 41)) (.cells (machL zeroM nilS).toArray 41))
  have HS := hid hs
  have HF := hid hf
  clear hB hs hf
  go_enter Try.func16, Try.ntmps16
  go_wp2_with (first
    | (refine wpList_load_mid rfl 41 _ rfl w.heap.size 0 rfl (machL M S) _ HB.out.c Try.underlying41 rfl info_mach ?_)
    | (refine wpList_field rfl 73 _ 0 rfl (.agg #[_, _]) _ rfl (field_0 _ _ _) ?_)
    | (go_at_call 21; refine (Bu.open_ok M S _ (HS.out.kept HL.out).lens (HS.out.kept HL.out) HF.out).mono ?_; rintro e w1 ⟨F, hFB, rfl, hr, hB1, hb1⟩; have HR1 := hid (RB.mk hB1 (stp HL.out hb1) (HR.out.kept hb1) (by rw [hFB]; simp) hr); clear hB1 hb1 hFB hr)
    | (go_at_call 30; refine (Bu.reach_m F.g _).mono ?_; rintro e w2 ⟨rfl, hb2⟩; have HR2 := hid (HR1.out.kept hb2); clear hb2)
    | (go_at_call 50; refine (Bu.read_M HR2.out.bd a ha (fun i hi => getM_all i hi)).mono ?_; rintro e w3 ⟨rfl, hB3, hT3⟩; have HR3 := hid (HR2.out.go hB3 hT3); clear hB3 hT3))
  refine wp_region_held_drew (S := fun _ => True) (by kernel_rfl) trivial ?_
  intro _
  refine wpAnyH_take (i := 0) (oi := { dst := some 27, op := _, type := _, pos := _, after := _, guard := none }) (v := ?_) rfl (by kernel_rfl) (by kernel_rfl) (by kernel_rfl) (fun _ _ _ h => h) (Or.inl ⟨by rfl, ?_⟩) trivial ?_
  rotate_left 1
  focus (intro w hSw; (try dsimp only at hSw); go_simp; try (with_reducible rfl))
  simp only [Act.put, List.setIfInBounds_toArray, List.set_cons_zero, List.set_cons_succ]
  refine wpAnyH_take (i := 1) (oi := { dst := some 28, op := _, type := _, pos := _, after := _, guard := none }) (v := ?_) rfl (by kernel_rfl) (by kernel_rfl) (by kernel_rfl) (fun _ _ _ h => h) (Or.inl ⟨by rfl, ?_⟩) trivial ?_
  rotate_left 1
  focus (intro w hSw; (try dsimp only at hSw); go_simp; try (with_reducible rfl))
  simp only [Act.put, List.setIfInBounds_toArray, List.set_cons_zero, List.set_cons_succ]
  refine wpAnyH_take (i := 2) (oi := { dst := some 29, op := _, type := _, pos := _, after := _, guard := none }) (v := ?_) rfl (by kernel_rfl) (by kernel_rfl) (by kernel_rfl) (fun _ _ _ h => h) (Or.inl ⟨by rfl, ?_⟩) trivial ?_
  rotate_left 1
  focus (intro w hSw; (try dsimp only at hSw); go_simp; try (with_reducible rfl))
  simp only [Act.put, List.setIfInBounds_toArray, List.set_cons_zero, List.set_cons_succ]
  refine wpAnyH_take (i := 3) (oi := { dst := some 30, op := _, type := _, pos := _, after := _, guard := none }) (v := ?_) rfl (by kernel_rfl) (by kernel_rfl) (by kernel_rfl) (fun _ _ _ h => h) (Or.inl ⟨by rfl, ?_⟩) trivial ?_
  rotate_left 1
  focus (intro w hSw; (try dsimp only at hSw); go_simp; try (with_reducible rfl))
  simp only [Act.put, List.setIfInBounds_toArray, List.set_cons_zero, List.set_cons_succ]
  refine wpAnyH_take (i := 5) (oi := { dst := some 6, op := _, type := _, pos := _, after := _, guard := none }) (v := ?_) rfl (by kernel_rfl) (by kernel_rfl) (by kernel_rfl) (fun _ _ _ h => h) (Or.inl ⟨by rfl, ?_⟩) trivial ?_
  rotate_left 1
  focus (intro w hSw; (try dsimp only at hSw); go_simp; try (with_reducible rfl))
  simp only [Act.put, List.setIfInBounds_toArray, List.set_cons_zero, List.set_cons_succ]
  refine readyH_load (i := 4) (op := { dst := some 31, op := _, type := _, pos := _, after := _, guard := none }) (by kernel_rfl) rfl rfl 41 _ rfl F.g 0 rfl (machL (M.rdM a).2 F.S) _ HR3.out.bd.row Try.underlying41 rfl info_mach trivial ?_
  simp only [Act.put, List.setIfInBounds_toArray, List.set_cons_zero, List.set_cons_succ]
  refine readyH_store (i := 6) (op := { dst := none, op := _, type := _, pos := _, after := _, guard := none }) (by kernel_rfl) rfl rfl 41 _ _ rfl (w.heap.size + 1) 0 (machL (M.rdM a).2 F.S).toArray rfl rfl HR3.out.drew.th info_mach (machL_one _ _ HR3.out.bd.isSl) trivial ?_
  simp only [Act.put]
  refine wpAnyH_take (i := 7) (oi := { dst := some 8, op := _, type := _, pos := _, after := _, guard := none }) (v := ?_) rfl (by kernel_rfl) (by kernel_rfl) (by kernel_rfl) (fun _ _ _ h => h) (Or.inl ⟨by rfl, ?_⟩) trivial ?_
  rotate_left 1
  focus (intro w hSw; (try dsimp only at hSw); go_simp; try (with_reducible rfl))
  simp only [Act.put, List.setIfInBounds_toArray, List.set_cons_zero, List.set_cons_succ]
  refine wpAnyH_done (by kernel_rfl) ?_ _
  refine Pl.cutE (fun X => Below w.heap.size w X ∧ Bx X (w.heap.size + 1) (machL (M.rdM a).2 F.S) ∧ SlAt X F.S (M.rdM a).2) (HR3.out.drew.fin rfl) ?_
  rintro X ⟨hX1, hX2, hX3⟩
  have HX1 := hid hX1
  have HX2 := hid hX2
  have HX3 := hid hX3
  have HFI := hid HR3.out.bd.fit
  clear hX1 hX2 hX3
  go_wp2
  have hl := load_mach _ _ HX2.out.c
  refine bodyPost_ret (v := .tuple #[.int .u8 (M.rdM a).1, .agg (machL (M.rdM a).2 F.S).toArray, .int .i64 0]) ?_ rfl ⟨F.S, rfl, HX3.out, HFI.out, HR3.out.new, HX1.out⟩
  simp only [results, Try.results16]
  simp
  show (Result.andThen (Sem.run Try.prog (loadVar 41 ⟨w.heap.size + 1, 0, none⟩) X) _) = _
  rw [hl]
  rfl
set_option maxHeartbeats 800000 in
theorem Bu.read_a (M : Mach) (S : Sl) (w : World) (a : Int) (ha : 0 ≤ a ∧ a ≤ 65535) (hs : SlAt w S M) (hf : M.fit) :
    Calls Try.prog 16 #[.agg (machL M S).toArray, .bool true, .int .u16 a] w fun e w' => ∃ S', e = .returned (.tuple #[.int .u8 (M.rdA a).1, .agg (machL (M.rdA a).2 S').toArray, .int .i64 0]) ∧ SlAt w' S' (M.rdA a).2 ∧ (M.rdA a).2.fit ∧ SlNew (w.heap.size + 2) S' ∧ Below w.heap.size w w' := by
  have hB := (Bx.new w (machL M S) 41 (b := w.heap.size) rfl).over (.cells (machL zeroM nilS).toArray 41)
  have HB := hid hB
  have HR := hid (Bx.new (w.alloc (.cells (machL M S).toArray 41)) (machL zeroM nilS) 41 (b := w.heap.size + 1) (by simp))
  have HL := hid (stA (stA (st0 w) (.cells (machL M S).toArray 41)) (.cells (machL zeroM nilS).toArray 41))
  have HS := hid hs
  have HF := hid hf
  clear hB hs hf
  go_enter Try.func16, Try.ntmps16
  go_wp2_with (first
    | (refine wpList_load_mid rfl 41 _ rfl w.heap.size 0 rfl (machL M S) _ HB.out.c Try.underlying41 rfl info_mach ?_)
    | (refine wpList_field rfl 73 _ 0 rfl (.agg #[_, _]) _ rfl (field_0 _ _ _) ?_)
    | (go_at_call 21; refine (Bu.open_ok M S _ (HS.out.kept HL.out).lens (HS.out.kept HL.out) HF.out).mono ?_; rintro e w1 ⟨F, hFB, rfl, hr, hB1, hb1⟩; have HR1 := hid (RB.mk hB1 (stp HL.out hb1) (HR.out.kept hb1) (by rw [hFB]; simp) hr); clear hB1 hb1 hFB hr)
    | (go_at_call 30; refine (Bu.reach_a F.g _).mono ?_; rintro e w2 ⟨rfl, hb2⟩; have HR2 := hid (HR1.out.kept hb2); clear hb2)
    | (go_at_call 50; refine (Bu.read_A HR2.out.bd a ha (fun i hi => getA_all i hi)).mono ?_; rintro e w3 ⟨rfl, hB3, hT3⟩; have HR3 := hid (HR2.out.go hB3 hT3); clear hB3 hT3))
  refine wp_region_held_drew (S := fun _ => True) (by kernel_rfl) trivial ?_
  intro _
  refine wpAnyH_take (i := 0) (oi := { dst := some 27, op := _, type := _, pos := _, after := _, guard := none }) (v := ?_) rfl (by kernel_rfl) (by kernel_rfl) (by kernel_rfl) (fun _ _ _ h => h) (Or.inl ⟨by rfl, ?_⟩) trivial ?_
  rotate_left 1
  focus (intro w hSw; (try dsimp only at hSw); go_simp; try (with_reducible rfl))
  simp only [Act.put, List.setIfInBounds_toArray, List.set_cons_zero, List.set_cons_succ]
  refine wpAnyH_take (i := 1) (oi := { dst := some 28, op := _, type := _, pos := _, after := _, guard := none }) (v := ?_) rfl (by kernel_rfl) (by kernel_rfl) (by kernel_rfl) (fun _ _ _ h => h) (Or.inl ⟨by rfl, ?_⟩) trivial ?_
  rotate_left 1
  focus (intro w hSw; (try dsimp only at hSw); go_simp; try (with_reducible rfl))
  simp only [Act.put, List.setIfInBounds_toArray, List.set_cons_zero, List.set_cons_succ]
  refine wpAnyH_take (i := 2) (oi := { dst := some 29, op := _, type := _, pos := _, after := _, guard := none }) (v := ?_) rfl (by kernel_rfl) (by kernel_rfl) (by kernel_rfl) (fun _ _ _ h => h) (Or.inl ⟨by rfl, ?_⟩) trivial ?_
  rotate_left 1
  focus (intro w hSw; (try dsimp only at hSw); go_simp; try (with_reducible rfl))
  simp only [Act.put, List.setIfInBounds_toArray, List.set_cons_zero, List.set_cons_succ]
  refine wpAnyH_take (i := 3) (oi := { dst := some 30, op := _, type := _, pos := _, after := _, guard := none }) (v := ?_) rfl (by kernel_rfl) (by kernel_rfl) (by kernel_rfl) (fun _ _ _ h => h) (Or.inl ⟨by rfl, ?_⟩) trivial ?_
  rotate_left 1
  focus (intro w hSw; (try dsimp only at hSw); go_simp; try (with_reducible rfl))
  simp only [Act.put, List.setIfInBounds_toArray, List.set_cons_zero, List.set_cons_succ]
  refine wpAnyH_take (i := 5) (oi := { dst := some 6, op := _, type := _, pos := _, after := _, guard := none }) (v := ?_) rfl (by kernel_rfl) (by kernel_rfl) (by kernel_rfl) (fun _ _ _ h => h) (Or.inl ⟨by rfl, ?_⟩) trivial ?_
  rotate_left 1
  focus (intro w hSw; (try dsimp only at hSw); go_simp; try (with_reducible rfl))
  simp only [Act.put, List.setIfInBounds_toArray, List.set_cons_zero, List.set_cons_succ]
  refine readyH_load (i := 4) (op := { dst := some 31, op := _, type := _, pos := _, after := _, guard := none }) (by kernel_rfl) rfl rfl 41 _ rfl F.g 0 rfl (machL (M.rdA a).2 F.S) _ HR3.out.bd.row Try.underlying41 rfl info_mach trivial ?_
  simp only [Act.put, List.setIfInBounds_toArray, List.set_cons_zero, List.set_cons_succ]
  refine readyH_store (i := 6) (op := { dst := none, op := _, type := _, pos := _, after := _, guard := none }) (by kernel_rfl) rfl rfl 41 _ _ rfl (w.heap.size + 1) 0 (machL (M.rdA a).2 F.S).toArray rfl rfl HR3.out.drew.th info_mach (machL_one _ _ HR3.out.bd.isSl) trivial ?_
  simp only [Act.put]
  refine wpAnyH_take (i := 7) (oi := { dst := some 8, op := _, type := _, pos := _, after := _, guard := none }) (v := ?_) rfl (by kernel_rfl) (by kernel_rfl) (by kernel_rfl) (fun _ _ _ h => h) (Or.inl ⟨by rfl, ?_⟩) trivial ?_
  rotate_left 1
  focus (intro w hSw; (try dsimp only at hSw); go_simp; try (with_reducible rfl))
  simp only [Act.put, List.setIfInBounds_toArray, List.set_cons_zero, List.set_cons_succ]
  refine wpAnyH_done (by kernel_rfl) ?_ _
  refine Pl.cutE (fun X => Below w.heap.size w X ∧ Bx X (w.heap.size + 1) (machL (M.rdA a).2 F.S) ∧ SlAt X F.S (M.rdA a).2) (HR3.out.drew.fin rfl) ?_
  rintro X ⟨hX1, hX2, hX3⟩
  have HX1 := hid hX1
  have HX2 := hid hX2
  have HX3 := hid hX3
  have HFI := hid HR3.out.bd.fit
  clear hX1 hX2 hX3
  go_wp2
  have hl := load_mach _ _ HX2.out.c
  refine bodyPost_ret (v := .tuple #[.int .u8 (M.rdA a).1, .agg (machL (M.rdA a).2 F.S).toArray, .int .i64 0]) ?_ rfl ⟨F.S, rfl, HX3.out, HFI.out, HR3.out.new, HX1.out⟩
  simp only [results, Try.results16]
  simp
  show (Result.andThen (Sem.run Try.prog (loadVar 41 ⟨w.heap.size + 1, 0, none⟩) X) _) = _
  rw [hl]
  rfl
def bl1 : List UInt8 := [0, 4, 0, 0, 7, 9]
def bM1 : Mach := newD bl1 []
def bM2 : Mach := bM1.wrM 32769 5
def bM3 : Mach := bM2.wrM 53262 2
theorem b_t1 : tookM 32769 5 = 0 := by decide
theorem b_t2 : tookM 53262 2 = 4 := by decide
theorem b_rd : (bM3.rdM 32897).1 = 5 := by decide +kernel
theorem b_pc : bM3.main.PC = 4 := by decide +kernel
theorem b_held : bM3.held = true := by decide +kernel
theorem b_vid : bget bM3.video 1 = 4 := by decide +kernel
theorem slice_b (w : World) (t : TypeId) : sliceAt (w.alloc (.cells #[.int .u8 0, .int .u8 4, .int .u8 0, .int .u8 0, .int .u8 7, .int .u8 9] t)) (.slice (some ⟨w.heap.size, 0, none⟩) 6 6) bl1 := by
  refine Or.inr ⟨w.heap.size, 0, 6, rfl, by decide, by simp, fun j c hj => ?_⟩
  have hl := (List.getElem?_eq_some_iff.1 hj).1
  rw [Nat.zero_add, Pl.new _ _ _ _ rfl]
  have hc : j = 0 ∨ j = 1 ∨ j = 2 ∨ j = 3 ∨ j = 4 ∨ j = 5 := by simp [bl1] at hl; omega
  rcases hc with rfl | rfl | rfl | rfl | rfl | rfl <;> (cases hj; rfl)
theorem nil_sl (w : World) : sliceAt w (.slice none 0 0) [] := Or.inl ⟨none, 0, rfl, rfl⟩
theorem SlAt.isSl {W : World} {S : Sl} {M : Mach} (h : SlAt W S M) : S.isSl := fun j hj => by
  obtain ⟨a, c, e⟩ := h.lens j hj
  exact ⟨_, _, _, e⟩
/-- A machine in a box, its bytes where its slices say. -/
structure MB (w : World) (b : Nat) (M : Mach) (S : Sl) (Y : World) : Prop where
  low : Below w.heap.size w Y
  bx : Bx Y b (machL M S)
  sl : SlAt Y S M
  fit : M.fit
  ge : w.heap.size ≤ b
theorem MB.kept {w Y Y' : World} {b : Nat} {M : Mach} {S : Sl} (h : MB w b M S Y) (hb : Below Y.heap.size Y Y') : MB w b M S Y' := ⟨stp h.low hb, h.bx.kept hb, h.sl.kept hb, h.fit, h.ge⟩
theorem MB.th {w Y : World} {b : Nat} {M : Mach} {S : Sl} (h : MB w b M S Y) : Y.there b 0 75 := h.bx.there 0 75 (by rw [machL_len]; omega)
/-- Another machine is put into the box, its slices behind it. -/
theorem MB.put {w Y : World} {b n : Nat} {M M' : Mach} {S S' : Sl} (h : MB w b M S Y) (hs : SlAt Y S' M') (hn : SlNew n S') (hb : b < n) (hf : M'.fit) : MB w b M' S' (Y.setCells b 0 (machL M' S')) := by
  have hx := h.bx.puts 0 (machL M' S') (by rw [machL_len, machL_len]; omega)
  rw [putL_whole _ _ (by rw [machL_len, machL_len])] at hx
  exact ⟨Bl.puts h.low h.ge _, hx, hs.off hn hb _ _, hf, h.ge⟩
/-- A new box for a machine. -/
theorem MB.mk0 {w Y : World} {n : Nat} {M' : Mach} {S' : Sl} (hl : Below w.heap.size w Y) (hs : SlAt Y S' M') (hf : M'.fit) (t : TypeId) : MB w Y.heap.size M' S' ((Y.alloc (.cells (machL zeroM nilS).toArray t)).setCells Y.heap.size 0 (machL M' S')) := by
  have hx := (Bx.new Y (machL zeroM nilS) t (b := Y.heap.size) rfl).puts 0 (machL M' S') (by rw [machL_len, machL_len]; omega)
  rw [putL_whole _ _ (by rw [machL_len, machL_len])] at hx
  refine ⟨Bl.puts (stA hl _) hl.size _, hx, fun j hj => ?_, hf, hl.size⟩
  rcases hs j hj with h0 | ⟨g, o, cap, e1, e2, e3, e4⟩
  · exact Or.inl h0
  · refine Or.inr ⟨g, o, cap, e1, e2, by rw [size_sets]; simp; omega, fun i c hi => ?_⟩
    exact (World.cell?_of_block (heap_sets_far (x := g) (b := Y.heap.size) (by omega) _ _ _)).trans ((World.cell?_of_block (Below.heap_alloc _ _ _ e3)).trans (e4 i c hi))
theorem Bu.bw1 (S : Sl) (w : World) (hs : SlAt w S bM1) (hf : bM1.fit) : Calls Try.prog 17 #[.agg (machL bM1 S).toArray, .bool false, .int .u16 32769, .int .u8 5] w fun e w' => ∃ S', e = .returned (.tuple #[.agg (machL bM2 S').toArray, .int .i64 0, .int .i64 0]) ∧ SlAt w' S' bM2 ∧ bM2.fit ∧ SlNew (w.heap.size + 2) S' ∧ Below w.heap.size w w' := by
  have h := Bu.write_m bM1 S w 32769 5 (by omega) (by omega) hs hf
  rw [b_t1] at h
  exact h
theorem Bu.bw2 (S : Sl) (w : World) (hs : SlAt w S bM2) (hf : bM2.fit) : Calls Try.prog 17 #[.agg (machL bM2 S).toArray, .bool false, .int .u16 53262, .int .u8 2] w fun e w' => ∃ S', e = .returned (.tuple #[.agg (machL bM3 S').toArray, .int .i64 4, .int .i64 0]) ∧ SlAt w' S' bM3 ∧ bM3.fit ∧ SlNew (w.heap.size + 2) S' ∧ Below w.heap.size w w' := by
  have h := Bu.write_m bM2 S w 53262 2 (by omega) (by omega) hs hf
  rw [b_t2] at h
  exact h
def bM4 : Mach := (bM3.rdM 32897).2
theorem Bu.br (S : Sl) (w : World) (hs : SlAt w S bM3) (hf : bM3.fit) : Calls Try.prog 16 #[.agg (machL bM3 S).toArray, .bool false, .int .u16 32897] w fun e w' => ∃ S', e = .returned (.tuple #[.int .u8 5, .agg (machL bM4 S').toArray, .int .i64 0]) ∧ SlAt w' S' bM4 ∧ bM4.fit ∧ SlNew (w.heap.size + 2) S' ∧ Below w.heap.size w w' := by
  have h := Bu.read_m bM3 S w 32897 (by omega) hs hf
  rw [b_rd] at h
  exact h
theorem zero_th (Y : World) (t : TypeId) : (Y.alloc (.cells (machL zeroM nilS).toArray t)).there Y.heap.size 0 75 := (Bx.new Y (machL zeroM nilS) t (b := Y.heap.size) rfl).there 0 75 (by rw [machL_len]; omega)
/-- What the last row reads. -/
theorem MB.last {w Y : World} {b : Nat} {S : Sl} (h : MB w b bM3 S Y) : Y.cell? ⟨b, 8, none⟩ = some (.int .u16 4) ∧ Y.cell? ⟨b, 68, none⟩ = some (.bool true) ∧ b < Y.heap.size ∧ ∃ g o cap, Y.cell? ⟨b, 34, none⟩ = some (.slice (some ⟨g, o, none⟩) 256 cap) ∧ Y.cell? ⟨g, o + 1, none⟩ = some (.int .u8 4) ∧ g < Y.heap.size := by
  have hv : bM3.video.length = 256 := h.fit.video
  refine ⟨?_, ?_, h.bx.z, ?_⟩
  · have := h.bx.at 8 (.int .u16 bM3.main.PC) rfl
    rw [b_pc] at this; exact this
  · have := h.bx.at 68 (.bool bM3.held) rfl
    rw [b_held] at this; exact this
  · have h4 := h.sl 4 (by omega)
    have hc := h.bx.at 34 (S.get 4) rfl
    rcases h4 with ⟨_, _, _, e⟩ | ⟨g, o, cap, e1, e2, e3, e4⟩
    · have e' : bM3.video = [] := e
      rw [e'] at hv; simp at hv
    · have e1' : S.get 4 = .slice (some ⟨g, o, none⟩) bM3.video.length cap := e1
      rw [hv] at e1'
      refine ⟨g, o, cap, by rw [hc, e1'], ?_, e3⟩
      have hx : bM3.video[1]? = some (bM3.video.getD 1 0) := by simp [List.getD, List.getElem?_eq_getElem (show 1 < bM3.video.length by omega)]
      have := e4 1 _ hx
      rw [this]
      have hb := b_vid
      unfold bget at hb
      have hb' : ((bM3.video.getD 1 0).toNat : Int) = 4 := hb
      rw [hb']
set_option maxHeartbeats 1600000 in
theorem Bu.bussed_any (w : World) : Calls Try.prog 9 #[] w fun e w' => e = .returned (.bool true) ∧ Below w.heap.size w w' := by
  go_enter Try.func9, Try.ntmps9
  go_wp2_with (first
    | (go_at_call 8; refine (Bu.new_ok bl1 [] _ _ _ (slice_b w _) (nil_sl _) (by decide) (by decide)).mono ?_; rintro e w1 ⟨S1, rfl, hs1, hf1, hn1, hb1⟩; have HS1 := hid hs1; have HF1 := hid hf1; have HL1 := hid (stp (stA (st0 w) _) hb1); clear hs1 hf1 hn1 hb1)
    | (go_at_call 17; refine (Bu.bw2 S2 _ HY2.out.sl HY2.out.fit).mono ?_; rintro e w3 ⟨S3, rfl, hs3, hf3, hn3, hb3⟩; have HS3 := hid hs3; have HF3 := hid hf3; have HN3 := hid hn3; have HY2k := hid (HY2.out.kept hb3); clear hs3 hf3 hn3 hb3)
    | (go_at_call 17; refine (Bu.bw1 S1 _ HY1.out.sl HY1.out.fit).mono ?_; rintro e w2 ⟨S2, rfl, hs2, hf2, hn2, hb2⟩; have HS2 := hid hs2; have HF2 := hid hf2; have HN2 := hid hn2; have HY1k := hid (HY1.out.kept hb2); clear hs2 hf2 hn2 hb2)
    | (go_at_call 16; refine (Bu.br S3 _ HY3.out.sl HY3.out.fit).mono ?_; rintro e w4 ⟨S4, rfl, hs4, hf4, hn4, hb4⟩; have HS4 := hid hs4; have HY3k := hid (HY3.out.kept hb4); clear hs4 hf4 hn4 hb4)
    | (refine wpList_load_mid rfl 41 _ rfl w1.heap.size 0 rfl (machL bM3 S3) _ HY3.out.bx.c Try.underlying41 rfl info_mach ?_)
    | (refine wpList_load_mid rfl 41 _ rfl w1.heap.size 0 rfl (machL bM2 S2) _ HY2.out.bx.c Try.underlying41 rfl info_mach ?_)
    | (refine wpList_load_mid rfl 41 _ rfl w1.heap.size 0 rfl (machL bM1 S1) _ HY1.out.bx.c Try.underlying41 rfl info_mach ?_)
    | (refine wpList_store_mid rfl 41 _ _ rfl w4.heap.size 0 (machL bM4 S4).toArray rfl rfl (zero_th w4 _) info_mach (machL_one _ _ HS4.out.isSl) ?_
       refine Pl.cutL (MB w w1.heap.size bM3 S3) (HY3k.out.kept (Bl.puts (stA (st0 w4) _) (Nat.le_refl _) _)) ?_
       intro Y4 hY4
       have HY4 := hid hY4
       obtain ⟨g8, g68, gz, gg, go, gc, g34, gv, gz2⟩ := hY4.last
       clear hY4)
    | (refine wpList_store_mid rfl 41 _ _ rfl w1.heap.size 0 (machL bM3 S3).toArray rfl rfl HY2k.out.th info_mach (machL_one _ _ HS3.out.isSl) ?_
       refine Pl.cutL (MB w w1.heap.size bM3 S3) (HY2k.out.put HS3.out HN3.out (Nat.lt_of_lt_of_le HY2.out.bx.z (Nat.le_add_right _ _)) HF3.out) ?_
       intro Y3 hY3
       have HY3 := hid hY3
       clear hY3)
    | (refine wpList_store_mid rfl 41 _ _ rfl w1.heap.size 0 (machL bM2 S2).toArray rfl rfl HY1k.out.th info_mach (machL_one _ _ HS2.out.isSl) ?_
       refine Pl.cutL (MB w w1.heap.size bM2 S2) (HY1k.out.put HS2.out HN2.out (Nat.lt_of_lt_of_le HY1.out.bx.z (Nat.le_add_right _ _)) HF2.out) ?_
       intro Y2 hY2
       have HY2 := hid hY2
       clear hY2)
    | (refine wpList_store_mid rfl 41 _ _ rfl w1.heap.size 0 (machL bM1 S1).toArray rfl rfl (zero_th w1 _) info_mach (machL_one _ _ HS1.out.isSl) ?_
       refine Pl.cutL (MB w w1.heap.size bM1 S1) (MB.mk0 (n := 0) HL1.out HS1.out HF1.out _) ?_
       intro Y1 hY1
       have HY1 := hid hY1
       clear hY1))
  go_ret
  exact ⟨rfl, HY4.out.low⟩
/-! ### plain facts -/
theorem xfer_roms (M : Mach) : ∀ k : Nat, (M.xfer k).mrom = M.mrom ∧ (M.xfer k).arom = M.arom
  | 0 => ⟨rfl, rfl⟩
  | k + 1 => xfer_roms M k
theorem letGo_roms (M : Mach) (n : Int) : (M.letGo n).mrom = M.mrom ∧ (M.letGo n).arom = M.arom := by
  unfold Mach.letGo
  split <;> exact ⟨rfl, rfl⟩
theorem putM_roms (M : Mach) (p : Nat) (n : Int) : (M.putM p n).mrom = M.mrom ∧ (M.putM p n).arom = M.arom := by
  unfold Mach.putM
  split <;> first | exact ⟨rfl, rfl⟩ | exact xfer_roms M _ | exact letGo_roms M n
theorem wrM_roms (M : Mach) (a n : Int) : (M.wrM a n).mrom = M.mrom ∧ (M.wrM a n).arom = M.arom := by
  unfold Mach.wrM Mach.memM
  split
  · exact putM_roms M _ _
  · (repeat' split) <;> exact ⟨rfl, rfl⟩
theorem wrA_roms (M : Mach) (a n : Int) : (M.wrA a n).mrom = M.mrom ∧ (M.wrA a n).arom = M.arom := by
  unfold Mach.wrA Mach.putA Mach.memA
  (repeat' split) <;> exact ⟨rfl, rfl⟩
theorem low_port {c : Int} (h : 0 ≤ c ∧ c ≤ 32767) : isPort c = false := by
  unfold isPort; exact decide_eq_false (by omega)
theorem rdM_rom (M : Mach) {c : Int} (h : 0 ≤ c ∧ c ≤ 32767) : M.rdM c = (romAt M.mrom c, M) := by
  unfold Mach.rdM Mach.lookM
  rw [low_port h]
  simp only [Bool.false_eq_true, if_false]
  rw [if_pos (by omega)]
theorem rdA_rom (M : Mach) {c : Int} (h : 0 ≤ c ∧ c ≤ 32767) : M.rdA c = (romAt M.arom c, M) := by
  unfold Mach.rdA Mach.lookA
  rw [low_port h]
  simp only [Bool.false_eq_true, if_false]
  rw [if_pos (by omega)]
theorem low_at {a : Int} (ha : 0 ≤ a ∧ a ≤ 65535) : ∃ c, bits .and .u16 a 32767 = c ∧ 0 ≤ c ∧ c ≤ 32767 := by
  obtain ⟨N, rfl⟩ := Int.eq_ofNat_of_zero_le ha.1
  refine ⟨_, rfl, ?_⟩
  have h2 : bits .and .u16 (N : Int) 32767 = ((N &&& 32767 : Nat) : Int) := u16_and_nat N 32767 (by omega) (by omega)
  rw [h2]
  have hx : N &&& 32767 ≤ 32767 := Nat.and_le_right
  omega
/-- Three machines in three boxes. -/
structure PB (w : World) (b b' b'' : Nat) (M M' : Mach) (S S' S'' : Sl) (Y : World) : Prop where
  m : MB w b M S Y
  x : MB w b' M' S' Y
  y : MB w b'' M S'' Y
theorem PB.kept {w Y Y' : World} {b b' b'' : Nat} {M M' : Mach} {S S' S'' : Sl} (h : PB w b b' b'' M M' S S' S'' Y) (hb : Below Y.heap.size Y Y') : PB w b b' b'' M M' S S' S'' Y' := ⟨h.m.kept hb, h.x.kept hb, h.y.kept hb⟩
theorem MB.rom0 {w Y : World} {b : Nat} {M : Mach} {S : Sl} (h : MB w b M S Y) {u : Option Addr} {n c : Nat} (e : S.get 0 = .slice u n c) : Y.cell? ⟨b, 30, none⟩ = some (.slice u n c) := (h.bx.at 30 (S.get 0) rfl).trans (by rw [e])
theorem MB.rom1 {w Y : World} {b : Nat} {M : Mach} {S : Sl} (h : MB w b M S Y) {u : Option Addr} {n c : Nat} (e : S.get 1 = .slice u n c) : Y.cell? ⟨b, 31, none⟩ = some (.slice u n c) := (h.bx.at 31 (S.get 1) rfl).trans (by rw [e])
theorem MB.row {w Y : World} {b : Nat} {M : Mach} {S : Sl} (h : MB w b M S Y) (j : Nat) (hj : j < 5) {v : Value} (e : S.get j = v) {l : List UInt8} (el : M.byt j = l) : sliceAt Y v l := by rw [← e, ← el]; exact h.sl j hj
theorem rom_end {M : Mach} {S : Sl} {Y : World} {j : Nat} (hj : j < 5) (h : SlAt Y S M) {c : Int} (h0 : 0 ≤ c) (hlt : c < ((M.byt j).length : Int)) : ∃ g o cap, S.get j = .slice (some ⟨g, o, none⟩) (M.byt j).length cap := by
  rcases h j hj with ⟨u, cap, e1, e2⟩ | ⟨g, o, cap, e1, _⟩
  · rw [e2] at hlt; simp at hlt; omega
  · exact ⟨g, o, cap, e1⟩
theorem rom_cell {M : Mach} {S : Sl} {Y : World} {j : Nat} (hj : j < 5) (h : SlAt Y S M) {g o cap : Nat} (e : S.get j = .slice (some ⟨g, o, none⟩) (M.byt j).length cap) {c : Int} (h0 : 0 ≤ c) (hlt : c < ((M.byt j).length : Int)) : Y.cell? ⟨g, o + c.toNat, none⟩ = some (.int .u8 (romAt (M.byt j) c)) ∧ g < Y.heap.size := by
  have hn : c.toNat < (M.byt j).length := by omega
  rcases h j hj with ⟨u, cap', e1, e2⟩ | ⟨g', o', cap', e1, e2, e3, e4⟩
  · rw [e2] at hn; simp at hn
  · rw [e] at e1
    cases e1
    refine ⟨(e4 c.toNat _ (List.getElem?_eq_getElem hn)).trans ?_, e3⟩
    unfold romAt bget
    rw [if_pos hlt, List.getD_eq_getElem?_getD, List.getElem?_eq_getElem hn]
    rfl
set_option maxHeartbeats 1600000 in
theorem Bu.program_bad (M : Mach) (S : Sl) (w : World) (aux : Bool) (a n : Int) (hS : S.lens M) (hz : ∀ j, j < 5 → (M.byt j).length ≤ 9223372036854775807) (hc : M.chk ≠ 0) :
    Calls Try.prog 7 #[.agg (machL M S).toArray, .bool aux, .int .u16 a, .int .u8 n] w fun e w' => e = .returned (.bool true) ∧ Below w.heap.size w w' := by
  have HB := hid (Bx.new w (machL M S) 41 (b := w.heap.size) rfl)
  have HL := hid (stA (st0 w) (.cells (machL M S).toArray 41))
  have HSL := hid hS
  have HZ := hid hz
  have HCN := hid hc
  have hne : (M.chk != 0) = true := by simpa using hc
  clear hS hz hc
  generalize hcc : M.chk = c at hne
  have HCC := hid hcc
  clear hcc
  go_enter Try.func7, Try.ntmps7
  go_wp2_with (first
    | (refine wpList_load_mid rfl 41 _ rfl w.heap.size 0 rfl (machL M S) _ HB.out.c Try.underlying41 rfl info_mach ?_)
    | (go_at_call 17; refine (Bu.write_bad M S aux _ _ _ HSL.out HZ.out HCN.out).mono ?_; rw [HCC.out]; rintro e w1 ⟨rfl, hb1⟩; have HL1 := hid (stp HL.out hb1); clear hb1)
    | (go_at_call 9; refine (Bu.bussed_any _).mono ?_; rintro e w3 ⟨rfl, hb3⟩; have HL3 := hid (stp HL2.out hb3); clear hb3)
    | (go_at_call 9; refine (Bu.bussed_any _).mono ?_; rintro e w2 ⟨rfl, hb2⟩; have HL2 := hid (stp HX.out hb2); clear hb2)
    | (refine wpList_store_mid rfl 41 _ _ rfl w1.heap.size 0 (machL zeroM nilS).toArray rfl rfl (zero_th w1 _) info_mach (machL_one _ _ zero_sl) ?_
       refine Pl.cutL (fun X => Below w.heap.size w X) (Bl.puts (stA HL1.out _) HL1.out.size _) ?_
       intro X hX
       have HX := hid hX
       clear hX))
  go_ret
  exact ⟨rfl, HL3.out⟩
set_option maxHeartbeats 1600000 in
theorem Bu.program_ok0 (M M1 : Mach) (S : Sl) (w : World) (a n c T : Int) (hs : SlAt w S M) (hf : M.fit) (ec : bits .and .u16 a 32767 = c) (hc : 0 ≤ c ∧ c ≤ 32767) (r0 : M1.mrom = M.mrom) (r1 : M1.arom = M.arom)
    (hw : ∀ (S : Sl) (w : World), SlAt w S M → M.fit → Calls Try.prog 17 #[.agg (machL M S).toArray, .bool false, .int .u16 a, .int .u8 n] w fun e w' => ∃ S', e = .returned (.tuple #[.agg (machL M1 S').toArray, .int .i64 T, .int .i64 0]) ∧ SlAt w' S' M1 ∧ M1.fit ∧ SlNew (w.heap.size + 2) S' ∧ Below w.heap.size w w')
    (hq : ∀ (S : Sl) (w : World), SlAt w S M → M.fit → Calls Try.prog 16 #[.agg (machL M S).toArray, .bool false, .int .u16 c] w fun e w' => ∃ S', e = .returned (.tuple #[.int .u8 (romAt (M.byt 0) c), .agg (machL M S').toArray, .int .i64 0]) ∧ SlAt w' S' M ∧ M.fit ∧ SlNew (w.heap.size + 2) S' ∧ Below w.heap.size w w') :
    Calls Try.prog 7 #[.agg (machL M S).toArray, .bool false, .int .u16 a, .int .u8 n] w fun e w' => e = .returned (.bool true) ∧ Below w.heap.size w w' := by
  have HM : Hid (MB w w.heap.size M S (w.alloc (.cells (machL M S).toArray 41))) := hid ⟨stA (st0 w) _, Bx.new w _ _ rfl, hs.kept (stA (st0 w) _), hf, Nat.le_refl _⟩
  have HW := hid hw
  have HQ := hid hq
  have HC := hid hc
  have HSL := hid hs
  have h0 := hc.1
  have h1 := hc.2
  have hwr : IntKind.i64.wrap c = c := by rw [IntKind.wrap_i64]; omega
  obtain ⟨u0, c0, e0⟩ := hs.lens 0 (by omega)
  obtain ⟨u1, c1, e1⟩ := hs.lens 1 (by omega)
  have E0 := hid e0
  have E1 := hid e1
  have R0 : Hid (M1.byt 0 = M.byt 0) := hid r0
  have R1 : Hid (M1.byt 1 = M.byt 1) := hid r1
  clear hs hf hw hq hc r0 r1 e0 e1
  go_enter Try.func7, Try.ntmps7
  go_upto_region 5 with (first
    | (refine wpList_load_mid rfl 41 _ rfl w.heap.size 0 rfl (machL M S) _ HX2.out.1.bx.c Try.underlying41 rfl info_mach ?_)
    | (refine wpList_load_mid rfl 41 _ rfl w.heap.size 0 rfl (machL M S) _ HM.out.bx.c Try.underlying41 rfl info_mach ?_)
    | (go_at_call 17; refine (HW.out S _ HM.out.sl HM.out.fit).mono ?_; rintro e w1 ⟨S1, rfl, hs1, hf1, hn1, hb1⟩; have HY1 := hid (HM.out.kept hb1); have HS1 := hid hs1; have HF1 := hid hf1; clear hs1 hf1 hn1 hb1)
    | (go_at_call 16; refine (HQ.out S _ HX2.out.1.sl HX2.out.1.fit).mono ?_; rintro e w3 ⟨S3, rfl, hs3, hf3, hn3, hb3⟩; have HX3 := hid (And.intro (HX2.out.1.kept hb3) (HX2.out.2.kept hb3)); have HS3 := hid hs3; have HF3 := hid hf3; clear hs3 hf3 hn3 hb3)
    | (go_at_call 9; refine (Bu.bussed_any _).mono ?_; rintro e w2 ⟨rfl, hb2⟩; have HX2 := hid (And.intro (HX.out.1.kept hb2) (HX.out.2.kept hb2)); clear hb2)
    | (refine wpList_store_mid rfl 41 _ _ rfl w3.heap.size 0 (machL M S3).toArray rfl rfl (zero_th w3 _) info_mach (machL_one _ _ HS3.out.isSl) ?_
       refine Pl.cutL (PB w w.heap.size w1.heap.size w3.heap.size M M1 S S1 S3) ⟨HX3.out.1.kept (Bl.puts (stA (st0 w3) _) (Nat.le_refl _) _), HX3.out.2.kept (Bl.puts (stA (st0 w3) _) (Nat.le_refl _) _), MB.mk0 (n := 0) HX3.out.1.low HS3.out HF3.out _⟩ ?_
       intro Z hZ
       have HZ := hid hZ
       clear hZ)
    | (refine wpList_store_mid rfl 41 _ _ rfl w1.heap.size 0 (machL M1 S1).toArray rfl rfl (zero_th w1 _) info_mach (machL_one _ _ HS1.out.isSl) ?_
       refine Pl.cutL (fun X => MB w w.heap.size M S X ∧ MB w w1.heap.size M1 S1 X) ⟨HY1.out.kept (Bl.puts (stA (st0 w1) _) (Nat.le_refl _) _), MB.mk0 (n := 0) HY1.out.low HS1.out HF1.out _⟩ ?_
       intro X hX
       have HX := hid hX
       clear hX))
  obtain ⟨v0, d0, f0⟩ := HS1.out.lens 0 (by omega)
  obtain ⟨v1, d1, f1⟩ := HS1.out.lens 1 (by omega)
  rw [R0.out] at f0
  rw [R1.out] at f1
  have F0 := hid f0
  have F1 := hid f1
  have hz := HZ.out.m.bx.z
  have hz1 := HZ.out.x.bx.z
  clear f0 f1
  by_cases hlt : c < ((M.byt 0).length : Int)
  · obtain ⟨g, o, cap, e2⟩ := rom_end (show 0 < 5 by omega) HZ.out.m.sl HC.out.1 hlt
    obtain ⟨xc, xg⟩ := rom_cell (show 0 < 5 by omega) HZ.out.m.sl e2 HC.out.1 hlt
    have he := E0.out
    rw [e2] at he
    cases he
    have x0 := HZ.out.m.rom0 E0.out
    have x1 := HZ.out.m.rom1 E1.out
    generalize hz9 : romAt (M.byt 0) c = z at *
    clear hz9
    go_wp2_with (first
      | (refine Bu.loadG rfl 41 _ rfl w3.heap.size 0 rfl (machL M S3) _ HZ.out.y.bx.c Try.underlying41 rfl info_mach ?_)
      | (refine Bu.loadG rfl 41 _ rfl w.heap.size 0 rfl (machL M S) _ HZ.out.m.bx.c Try.underlying41 rfl info_mach ?_)
      | (go_at_call 13; refine (Bu.same_any M S3 S _ HZ.out.y.sl HZ.out.m.sl).mono ?_; rintro e w4 ⟨rfl, hb4⟩; have HV := hid (HZ.out.kept hb4); have p0 := HV.out.m.rom0 E0.out; have p1 := HV.out.m.rom1 E1.out; have q0 := HV.out.x.rom0 F0.out; have q1 := HV.out.x.rom1 F1.out; have hv := HV.out.m.bx.z; have hv1 := HV.out.x.bx.z; clear hb4)
      | (go_at_call 20; refine (equal_any _ _ (M.byt 0) (M.byt 0) _ (HV.out.x.row 0 (by omega) F0.out R0.out) (HV.out.m.row 0 (by omega) E0.out rfl)).mono ?_; rw [beq_self_eq_true]; rintro e w5 ⟨rfl, rfl⟩)
      | (go_at_call 20; refine (equal_any _ _ (M.byt 1) (M.byt 1) _ (HV.out.x.row 1 (by omega) F1.out R1.out) (HV.out.m.row 1 (by omega) E1.out rfl)).mono ?_; rw [beq_self_eq_true]; rintro e w6 ⟨rfl, rfl⟩))
    go_ret
    exact ⟨rfl, HV.out.m.low⟩
  · have hv : romAt (M.byt 0) c = 255 := by unfold romAt; rw [if_neg hlt]
    have x0 := HZ.out.m.rom0 E0.out
    have x1 := HZ.out.m.rom1 E1.out
    rw [hv]
    clear hv
    go_wp2_with (first
      | (refine Bu.loadG rfl 41 _ rfl w3.heap.size 0 rfl (machL M S3) _ HZ.out.y.bx.c Try.underlying41 rfl info_mach ?_)
      | (refine Bu.loadG rfl 41 _ rfl w.heap.size 0 rfl (machL M S) _ HZ.out.m.bx.c Try.underlying41 rfl info_mach ?_)
      | (go_at_call 13; refine (Bu.same_any M S3 S _ HZ.out.y.sl HZ.out.m.sl).mono ?_; rintro e w4 ⟨rfl, hb4⟩; have HV := hid (HZ.out.kept hb4); have p0 := HV.out.m.rom0 E0.out; have p1 := HV.out.m.rom1 E1.out; have q0 := HV.out.x.rom0 F0.out; have q1 := HV.out.x.rom1 F1.out; have hv := HV.out.m.bx.z; have hv1 := HV.out.x.bx.z; clear hb4)
      | (go_at_call 20; refine (equal_any _ _ (M.byt 0) (M.byt 0) _ (HV.out.x.row 0 (by omega) F0.out R0.out) (HV.out.m.row 0 (by omega) E0.out rfl)).mono ?_; rw [beq_self_eq_true]; rintro e w5 ⟨rfl, rfl⟩)
      | (go_at_call 20; refine (equal_any _ _ (M.byt 1) (M.byt 1) _ (HV.out.x.row 1 (by omega) F1.out R1.out) (HV.out.m.row 1 (by omega) E1.out rfl)).mono ?_; rw [beq_self_eq_true]; rintro e w6 ⟨rfl, rfl⟩))
    go_ret
    exact ⟨rfl, HV.out.m.low⟩
set_option maxHeartbeats 1600000 in
theorem Bu.program_ok1 (M M1 : Mach) (S : Sl) (w : World) (a n c T : Int) (hs : SlAt w S M) (hf : M.fit) (ec : bits .and .u16 a 32767 = c) (hc : 0 ≤ c ∧ c ≤ 32767) (r0 : M1.mrom = M.mrom) (r1 : M1.arom = M.arom)
    (hw : ∀ (S : Sl) (w : World), SlAt w S M → M.fit → Calls Try.prog 17 #[.agg (machL M S).toArray, .bool true, .int .u16 a, .int .u8 n] w fun e w' => ∃ S', e = .returned (.tuple #[.agg (machL M1 S').toArray, .int .i64 T, .int .i64 0]) ∧ SlAt w' S' M1 ∧ M1.fit ∧ SlNew (w.heap.size + 2) S' ∧ Below w.heap.size w w')
    (hq : ∀ (S : Sl) (w : World), SlAt w S M → M.fit → Calls Try.prog 16 #[.agg (machL M S).toArray, .bool true, .int .u16 c] w fun e w' => ∃ S', e = .returned (.tuple #[.int .u8 (romAt (M.byt 1) c), .agg (machL M S').toArray, .int .i64 0]) ∧ SlAt w' S' M ∧ M.fit ∧ SlNew (w.heap.size + 2) S' ∧ Below w.heap.size w w') :
    Calls Try.prog 7 #[.agg (machL M S).toArray, .bool true, .int .u16 a, .int .u8 n] w fun e w' => e = .returned (.bool true) ∧ Below w.heap.size w w' := by
  have HM : Hid (MB w w.heap.size M S (w.alloc (.cells (machL M S).toArray 41))) := hid ⟨stA (st0 w) _, Bx.new w _ _ rfl, hs.kept (stA (st0 w) _), hf, Nat.le_refl _⟩
  have HW := hid hw
  have HQ := hid hq
  have HC := hid hc
  have HSL := hid hs
  have h0 := hc.1
  have h1 := hc.2
  have hwr : IntKind.i64.wrap c = c := by rw [IntKind.wrap_i64]; omega
  obtain ⟨u0, c0, e0⟩ := hs.lens 0 (by omega)
  obtain ⟨u1, c1, e1⟩ := hs.lens 1 (by omega)
  have E0 := hid e0
  have E1 := hid e1
  have R0 : Hid (M1.byt 0 = M.byt 0) := hid r0
  have R1 : Hid (M1.byt 1 = M.byt 1) := hid r1
  clear hs hf hw hq hc r0 r1 e0 e1
  go_enter Try.func7, Try.ntmps7
  go_upto_region 5 with (first
    | (refine wpList_load_mid rfl 41 _ rfl w.heap.size 0 rfl (machL M S) _ HX2.out.1.bx.c Try.underlying41 rfl info_mach ?_)
    | (refine wpList_load_mid rfl 41 _ rfl w.heap.size 0 rfl (machL M S) _ HM.out.bx.c Try.underlying41 rfl info_mach ?_)
    | (go_at_call 17; refine (HW.out S _ HM.out.sl HM.out.fit).mono ?_; rintro e w1 ⟨S1, rfl, hs1, hf1, hn1, hb1⟩; have HY1 := hid (HM.out.kept hb1); have HS1 := hid hs1; have HF1 := hid hf1; clear hs1 hf1 hn1 hb1)
    | (go_at_call 16; refine (HQ.out S _ HX2.out.1.sl HX2.out.1.fit).mono ?_; rintro e w3 ⟨S3, rfl, hs3, hf3, hn3, hb3⟩; have HX3 := hid (And.intro (HX2.out.1.kept hb3) (HX2.out.2.kept hb3)); have HS3 := hid hs3; have HF3 := hid hf3; clear hs3 hf3 hn3 hb3)
    | (go_at_call 9; refine (Bu.bussed_any _).mono ?_; rintro e w2 ⟨rfl, hb2⟩; have HX2 := hid (And.intro (HX.out.1.kept hb2) (HX.out.2.kept hb2)); clear hb2)
    | (refine wpList_store_mid rfl 41 _ _ rfl w3.heap.size 0 (machL M S3).toArray rfl rfl (zero_th w3 _) info_mach (machL_one _ _ HS3.out.isSl) ?_
       refine Pl.cutL (PB w w.heap.size w1.heap.size w3.heap.size M M1 S S1 S3) ⟨HX3.out.1.kept (Bl.puts (stA (st0 w3) _) (Nat.le_refl _) _), HX3.out.2.kept (Bl.puts (stA (st0 w3) _) (Nat.le_refl _) _), MB.mk0 (n := 0) HX3.out.1.low HS3.out HF3.out _⟩ ?_
       intro Z hZ
       have HZ := hid hZ
       clear hZ)
    | (refine wpList_store_mid rfl 41 _ _ rfl w1.heap.size 0 (machL M1 S1).toArray rfl rfl (zero_th w1 _) info_mach (machL_one _ _ HS1.out.isSl) ?_
       refine Pl.cutL (fun X => MB w w.heap.size M S X ∧ MB w w1.heap.size M1 S1 X) ⟨HY1.out.kept (Bl.puts (stA (st0 w1) _) (Nat.le_refl _) _), MB.mk0 (n := 0) HY1.out.low HS1.out HF1.out _⟩ ?_
       intro X hX
       have HX := hid hX
       clear hX))
  obtain ⟨v0, d0, f0⟩ := HS1.out.lens 0 (by omega)
  obtain ⟨v1, d1, f1⟩ := HS1.out.lens 1 (by omega)
  rw [R0.out] at f0
  rw [R1.out] at f1
  have F0 := hid f0
  have F1 := hid f1
  have hz := HZ.out.m.bx.z
  have hz1 := HZ.out.x.bx.z
  clear f0 f1
  by_cases hlt : c < ((M.byt 1).length : Int)
  · obtain ⟨g, o, cap, e2⟩ := rom_end (show 1 < 5 by omega) HZ.out.m.sl HC.out.1 hlt
    obtain ⟨xc, xg⟩ := rom_cell (show 1 < 5 by omega) HZ.out.m.sl e2 HC.out.1 hlt
    have he := E1.out
    rw [e2] at he
    cases he
    have x0 := HZ.out.m.rom0 E0.out
    have x1 := HZ.out.m.rom1 E1.out
    generalize hz9 : romAt (M.byt 1) c = z at *
    clear hz9
    go_wp2_with (first
      | (refine Bu.loadG rfl 41 _ rfl w3.heap.size 0 rfl (machL M S3) _ HZ.out.y.bx.c Try.underlying41 rfl info_mach ?_)
      | (refine Bu.loadG rfl 41 _ rfl w.heap.size 0 rfl (machL M S) _ HZ.out.m.bx.c Try.underlying41 rfl info_mach ?_)
      | (go_at_call 13; refine (Bu.same_any M S3 S _ HZ.out.y.sl HZ.out.m.sl).mono ?_; rintro e w4 ⟨rfl, hb4⟩; have HV := hid (HZ.out.kept hb4); have p0 := HV.out.m.rom0 E0.out; have p1 := HV.out.m.rom1 E1.out; have q0 := HV.out.x.rom0 F0.out; have q1 := HV.out.x.rom1 F1.out; have hv := HV.out.m.bx.z; have hv1 := HV.out.x.bx.z; clear hb4)
      | (go_at_call 20; refine (equal_any _ _ (M.byt 0) (M.byt 0) _ (HV.out.x.row 0 (by omega) F0.out R0.out) (HV.out.m.row 0 (by omega) E0.out rfl)).mono ?_; rw [beq_self_eq_true]; rintro e w5 ⟨rfl, rfl⟩)
      | (go_at_call 20; refine (equal_any _ _ (M.byt 1) (M.byt 1) _ (HV.out.x.row 1 (by omega) F1.out R1.out) (HV.out.m.row 1 (by omega) E1.out rfl)).mono ?_; rw [beq_self_eq_true]; rintro e w6 ⟨rfl, rfl⟩))
    go_ret
    exact ⟨rfl, HV.out.m.low⟩
  · have hv : romAt (M.byt 1) c = 255 := by unfold romAt; rw [if_neg hlt]
    have x0 := HZ.out.m.rom0 E0.out
    have x1 := HZ.out.m.rom1 E1.out
    rw [hv]
    clear hv
    go_wp2_with (first
      | (refine Bu.loadG rfl 41 _ rfl w3.heap.size 0 rfl (machL M S3) _ HZ.out.y.bx.c Try.underlying41 rfl info_mach ?_)
      | (refine Bu.loadG rfl 41 _ rfl w.heap.size 0 rfl (machL M S) _ HZ.out.m.bx.c Try.underlying41 rfl info_mach ?_)
      | (go_at_call 13; refine (Bu.same_any M S3 S _ HZ.out.y.sl HZ.out.m.sl).mono ?_; rintro e w4 ⟨rfl, hb4⟩; have HV := hid (HZ.out.kept hb4); have p0 := HV.out.m.rom0 E0.out; have p1 := HV.out.m.rom1 E1.out; have q0 := HV.out.x.rom0 F0.out; have q1 := HV.out.x.rom1 F1.out; have hv := HV.out.m.bx.z; have hv1 := HV.out.x.bx.z; clear hb4)
      | (go_at_call 20; refine (equal_any _ _ (M.byt 0) (M.byt 0) _ (HV.out.x.row 0 (by omega) F0.out R0.out) (HV.out.m.row 0 (by omega) E0.out rfl)).mono ?_; rw [beq_self_eq_true]; rintro e w5 ⟨rfl, rfl⟩)
      | (go_at_call 20; refine (equal_any _ _ (M.byt 1) (M.byt 1) _ (HV.out.x.row 1 (by omega) F1.out R1.out) (HV.out.m.row 1 (by omega) E1.out rfl)).mono ?_; rw [beq_self_eq_true]; rintro e w6 ⟨rfl, rfl⟩))
    go_ret
    exact ⟨rfl, HV.out.m.low⟩
def BusProgramWalk : Prop := ∀ (H : Type) (enc : TypeId × Value → H) (W : World) (base : Nat) (v0 v1 v2 v3 : Value) (d0 d1 d2 d3 : DataW H) (p0 p1 p2 p3 : List MemPlace),
  Value.okWide Try.prog W .any base (Try.f7.params.getD 0 0) v0 → DataW.Trod enc Try.prog W 0 (fun _ => true) true (Try.f7.params.getD 0 0) v0 d0 p0 → Value.okWide Try.prog W .any base (Try.f7.params.getD 1 0) v1 → DataW.Trod enc Try.prog W 0 (fun _ => true) true (Try.f7.params.getD 1 0) v1 d1 p1 → Value.okWide Try.prog W .any base (Try.f7.params.getD 2 0) v2 → DataW.Trod enc Try.prog W 0 (fun _ => true) true (Try.f7.params.getD 2 0) v2 d2 p2 → Value.okWide Try.prog W .any base (Try.f7.params.getD 3 0) v3 → DataW.Trod enc Try.prog W 0 (fun _ => true) true (Try.f7.params.getD 3 0) v3 d3 p3 →
  Calls Try.prog 7 #[v0, v1, v2, v3] W fun e w' => e = .returned (.bool true) ∧ Below W.heap.size W w'
set_option maxRecDepth 100000 in
theorem busProgram_lifted (walk : BusProgramWalk) (os : Os) (started : os.Started) (H : Type) (enc : TypeId × Value → H) :
    ReturnsInHanded {} Try.checked os 7 .any (Rows.busProgramSpec.pre6 enc Try.prog Try.f7 Rows.busProgramRow.domain false) (Rows.busProgramSpec.post enc Try.prog Try.f7 false true false false) := by
  refine returnsInHanded_of_change (C := Try.checked) own started (by kernel_rfl) Try.func7
    (ChangeSpec.witness6 (enc := enc) (C := Try.checked) false ⟨#[], #[.agg #[.int .u16 0, .int .u16 0, .int .u16 0, .int .u16 0, .int .u16 0, .int .u16 0, .int .u16 0, .int .u16 0, .int .u16 0, .bool false, .bool false, .bool false, .bool false, .bool false, .bool false, .int .u16 0, .int .u16 0, .int .u16 0, .int .u16 0, .int .u16 0, .int .u16 0, .int .u16 0, .int .u16 0, .int .u16 0, .bool false, .bool false, .bool false, .bool false, .bool false, .bool false, .slice none 0 0, .slice none 0 0, .slice none 0 0, .slice none 0 0, .slice none 0 0, .int .u8 0, .bool false, .int .u8 0, .int .u8 0, .bool false, .int .u8 0, .int .u16 0, .int .u16 0, .bool false, .bool false, .int .u16 0, .int .u16 0, .int .u8 0, .bool false, .int .u16 0, .int .u16 0, .int .u16 0, .int .u8 0, .bool false, .int .u16 0, .int .u16 0, .int .u16 0, .int .u8 0, .bool false, .int .u16 0, .int .i64 0, .int .i64 0, .int .i64 0, .bool false, .int .i64 0, .int .u16 0, .int .u16 0, .bool false, .bool false, .int .u8 0, .int .u8 0, .bool false, .int .i64 0, .int .i64 0, .int .i64 0], .bool false, .int .u16 0, .int .u8 0], []⟩ 8 (by kernel_rfl) (by kernel_rfl) (by kernel_rfl) (by kernel_rfl)) ?_
  intro W base args ds gs before hval0 hW hcnd _
  have hval : ∀ (j : Nat) t v, Try.f7.params[j]? = some t → args[j]? = some v → Value.okWide Try.prog W .any base t v := hval0
  have hW' := hW
  obtain ⟨p, q, hA0, hV, rfl, _, _⟩ := hW
  have hA : DataW.TrodAll enc Try.prog W 0 (fun _ => true) true Try.f7.params.toList args.toList ds p := hA0
  have hA1 := hA
  rw [Try.params7] at hA hval
  obtain ⟨v0, vs0, d0, ds0, p0, q0, hargs, rfl, rfl, h0, r0⟩ := trodAll_cons hA
  obtain ⟨v1, vs1, d1, ds1, p1, q1, rfl, rfl, rfl, h1, r1⟩ := trodAll_cons r0
  obtain ⟨v2, vs2, d2, ds2, p2, q2, rfl, rfl, rfl, h2, r2⟩ := trodAll_cons r1
  obtain ⟨v3, vs3, d3, ds3, p3, q3, rfl, rfl, rfl, h3, r3⟩ := trodAll_cons r2
  obtain ⟨rfl, rfl, rfl⟩ := trodAll_nil r3
  obtain rfl : args = #[v0, v1, v2, v3] := by cases args; simp_all
  obtain ⟨rfl, rfl⟩ := trodVars_none hV
  have hlt := fun x hx => hW'.lt x (List.mem_append_left _ hx)
  refine (walk H enc W base v0 v1 v2 v3 d0 d1 d2 d3 _ _ _ _ (hval 0 _ v0 rfl rfl) h0 (hval 1 _ v1 rfl rfl) h1 (hval 2 _ v2 rfl rfl) h2 (hval 3 _ v3 rfl rfl) h3).mono fun e W' ⟨he, hb⟩ => ?_
  subst he
  exact ⟨_, rfl, _, _, _, [], _, [], hW', trodAll_mk1 (shut_bool Try.underlying4 _), trodAll_below_all (by kernel_rfl) hb (by kernel_rfl) hA1 hlt, rfl, hb.frame _, fun h => by cases h⟩
theorem busProgram_row (walk : BusProgramWalk) : Rows.BusProgramSaid :=
  OpenClaim.holds_of_wide 7 Try.f7 rfl rfl rfl rfl rfl rfl rfl ⟨rfl, rfl, rfl, rfl, rfl⟩ rfl rfl rfl rfl rfl (by kernel_rfl) Try.func7 (by kernel_rfl)
    (of_decide_eq_true (by kernel_rfl)) (by unfold Func.isWrapper; first | (rw [if_pos (by decide +kernel)]; kernel_rfl) | (rw [if_neg (by decide +kernel)]; exact ⟨rfl, rfl⟩))
    (fun os started H enc _ => busProgram_lifted walk os started H enc)
theorem busProgram_walk : BusProgramWalk := by
  intro H enc W base v0 v1 v2 v3 d0 d1 d2 d3 p0 p1 p2 p3 k0 t0 k1 t1 k2 t2 k3 t3
  obtain ⟨M, S, rfl, hok, hs, hz⟩ := open_mach k0 t0
  obtain ⟨aux, rfl, _⟩ := open_bool Try.underlying4 k1 t1
  obtain ⟨a, rfl, _, _, wa⟩ := open_int Try.underlying23 k2 t2
  obtain ⟨n, rfl, _, _, wn⟩ := open_int Try.underlying5 k3 t3
  have ha := bounds_u16 wa
  have hn := bounds_u8 wn
  by_cases hc : M.chk = 0
  · obtain ⟨c, ec, hc2⟩ := low_at ha
    cases aux
    · refine Bu.program_ok0 M (M.wrM a n) S W a n c (tookM a n) hs (chk_fit hok hc) ec hc2 (wrM_roms M a n).1 (wrM_roms M a n).2 (fun S w hs hf => Bu.write_m M S w a n ha hn hs hf) (fun S w hs hf => ?_)
      have h := Bu.read_m M S w c (by omega) hs hf
      rw [rdM_rom M hc2] at h
      exact h
    · refine Bu.program_ok1 M (M.wrA a n) S W a n c 0 hs (chk_fit hok hc) ec hc2 (wrA_roms M a n).1 (wrA_roms M a n).2 (fun S w hs hf => Bu.write_a M S w a n ha hn hs hf) (fun S w hs hf => ?_)
      have h := Bu.read_a M S w c (by omega) hs hf
      rw [rdA_rom M hc2] at h
      exact h
  · exact Bu.program_bad M S W aux a n hs.lens hz hc
theorem busProgram_holds : Rows.BusProgramSaid := busProgram_row busProgram_walk
end Go.Proofs.Ytldgjapiobpanaa
