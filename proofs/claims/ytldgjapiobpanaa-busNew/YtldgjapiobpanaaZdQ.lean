/-
  For every two programs and every machine the law BusNew of the program returns true and leaves its arguments as they were; no condition.
-/
import Derived.Test.YtldgjapiobpanaaZdB
import Derived.Test.YtldgjapiobpanaaZbG
import Derived.Test.YtldgjapiobpanaaBusE
import Derived.Test.YtldgjapiobpanaaZdN
import Derived.Deep.DeepCutAuto
import Derived.Test.YtldgjapiobpanaaZdS
import Derived.Test.YtldgjapiobpanaaZdG
import Derived.Test.YtldgjapiobpanaaZdK
import Derived.Test.YtldgjapiobpanaaPlain
namespace Go.Proofs.Ytldgjapiobpanaa
open Go.ChangeShapes Go.WideShapes Go.ChangeAt Go.RowKit
set_option linter.unusedVariables false
set_option maxRecDepth 100000

set_option maxHeartbeats 800000 in
theorem Bu.read_m (M : Mach) (S : Sl) (w : World) (a : Int) (ha : 0 ≤ a ∧ a ≤ 65535) (hs : SlAt w S M) (hf : M.fit) :
    Calls Try.prog 16 #[.agg (machL M S).toArray, .bool false, .int .u16 a] w fun e w' => ∃ S', e = .returned (.tuple #[.int .u8 (M.rdM a).1, .agg (machL (M.rdM a).2 S').toArray, .int .i64 0]) ∧ SlAt w' S' (M.rdM a).2 ∧ (M.rdM a).2.fit ∧ SlNew (w.heap.size + 2) S' ∧ Below w.heap.size w w' := by
  have hB := (Bx.new w (machL M S) 41 (b := w.heap.size) rfl).over (.cells (machL zeroM nilS).toArray 41)
  have HB := hid hB
  have HR := hid (Bx.new (w.alloc (.cells (machL M S).toArray 41)) (machL zeroM nilS) 41 (b := w.heap.size + 1) (by simp))
  have HL := hid (stA (stA (st0 w) (.cells (machL M S).toArray 41)) (.cells (machL zeroM nilS).toArray 41))
  have HS := hid hs
  have HF := hid hf
  clear hB hs hf
  go_enter Try.func16, Try.ntmps16
  go_wp2_with (first
    | (refine wpList_load_mid rfl 41 _ rfl w.heap.size 0 rfl (machL M S) _ HB.out.c Try.underlying41 rfl info_mach ?_)
    | (refine wpList_field rfl 73 _ 0 rfl (.agg #[_, _]) _ rfl (field_0 _ _ _) ?_)
    | (go_at_call 21; refine (Bu.open_ok M S _ (HS.out.kept HL.out).lens (HS.out.kept HL.out) HF.out).mono ?_; rintro e w1 ⟨F, hFB, rfl, hr, hB1, hb1⟩; have HR1 := hid (RB.mk hB1 (stp HL.out hb1) (HR.out.kept hb1) (by rw [hFB]; simp) hr); clear hB1 hb1 hFB hr)
    | (go_at_call 30; refine (Bu.reach_m F.g _).mono ?_; rintro e w2 ⟨rfl, hb2⟩; have HR2 := hid (HR1.out.kept hb2); clear hb2)
    | (go_at_call 50; refine (Bu.read_M HR2.out.bd a ha (fun i hi => getM_all i hi)).mono ?_; rintro e w3 ⟨rfl, hB3, hT3⟩; have HR3 := hid (HR2.out.go hB3 hT3); clear hB3 hT3))
  refine wp_region_held_drew (S := fun _ => True) (by kernel_rfl) trivial ?_
  intro _
  refine wpAnyH_take (i := 0) (oi := { dst := some 27, op := _, type := _, pos := _, after := _, guard := none }) (v := ?_) rfl (by kernel_rfl) (by kernel_rfl) (by kernel_rfl) (fun _ _ _ h => h) (Or.inl ⟨by rfl, ?_⟩) trivial ?_
  rotate_left 1
  focus (intro w hSw; (try dsimp only at hSw); go_simp; try (with_reducible rfl))
  simp only [Act.put, List.setIfInBounds_toArray, List.set_cons_zero, List.set_cons_succ]
  refine wpAnyH_take (i := 1) (oi := { dst := some 28, op := _, type := _, pos := _, after := _, guard := none }) (v := ?_) rfl (by kernel_rfl) (by kernel_rfl) (by kernel_rfl) (fun _ _ _ h => h) (Or.inl ⟨by rfl, ?_⟩) trivial ?_
  rotate_left 1
  focus (intro w hSw; (try dsimp only at hSw); go_simp; try (with_reducible rfl))
  simp only [Act.put, List.setIfInBounds_toArray, List.set_cons_zero, List.set_cons_succ]
  refine wpAnyH_take (i := 2) (oi := { dst := some 29, op := _, type := _, pos := _, after := _, guard := none }) (v := ?_) rfl (by kernel_rfl) (by kernel_rfl) (by kernel_rfl) (fun _ _ _ h => h) (Or.inl ⟨by rfl, ?_⟩) trivial ?_
  rotate_left 1
  focus (intro w hSw; (try dsimp only at hSw); go_simp; try (with_reducible rfl))
  simp only [Act.put, List.setIfInBounds_toArray, List.set_cons_zero, List.set_cons_succ]
  refine wpAnyH_take (i := 3) (oi := { dst := some 30, op := _, type := _, pos := _, after := _, guard := none }) (v := ?_) rfl (by kernel_rfl) (by kernel_rfl) (by kernel_rfl) (fun _ _ _ h => h) (Or.inl ⟨by rfl, ?_⟩) trivial ?_
  rotate_left 1
  focus (intro w hSw; (try dsimp only at hSw); go_simp; try (with_reducible rfl))
  simp only [Act.put, List.setIfInBounds_toArray, List.set_cons_zero, List.set_cons_succ]
  refine wpAnyH_take (i := 5) (oi := { dst := some 6, op := _, type := _, pos := _, after := _, guard := none }) (v := ?_) rfl (by kernel_rfl) (by kernel_rfl) (by kernel_rfl) (fun _ _ _ h => h) (Or.inl ⟨by rfl, ?_⟩) trivial ?_
  rotate_left 1
  focus (intro w hSw; (try dsimp only at hSw); go_simp; try (with_reducible rfl))
  simp only [Act.put, List.setIfInBounds_toArray, List.set_cons_zero, List.set_cons_succ]
  refine readyH_load (i := 4) (op := { dst := some 31, op := _, type := _, pos := _, after := _, guard := none }) (by kernel_rfl) rfl rfl 41 _ rfl F.g 0 rfl (machL (M.rdM a).2 F.S) _ HR3.out.bd.row Try.underlying41 rfl info_mach trivial ?_
  simp only [Act.put, List.setIfInBounds_toArray, List.set_cons_zero, List.set_cons_succ]
  refine readyH_store (i := 6) (op := { dst := none, op := _, type := _, pos := _, after := _, guard := none }) (by kernel_rfl) rfl rfl 41 _ _ rfl (w.heap.size + 1) 0 (machL (M.rdM a).2 F.S).toArray rfl rfl HR3.out.drew.th info_mach (machL_one _ _ HR3.out.bd.isSl) trivial ?_
  simp only [Act.put]
  refine wpAnyH_take (i := 7) (oi := { dst := some 8, op := _, type := _, pos := _, after := _, guard := none }) (v := ?_) rfl (by kernel_rfl) (by kernel_rfl) (by kernel_rfl) (fun _ _ _ h => h) (Or.inl ⟨by rfl, ?_⟩) trivial ?_
  rotate_left 1
  focus (intro w hSw; (try dsimp only at hSw); go_simp; try (with_reducible rfl))
  simp only [Act.put, List.setIfInBounds_toArray, List.set_cons_zero, List.set_cons_succ]
  refine wpAnyH_done (by kernel_rfl) ?_ _
  refine Pl.cutE (fun X => Below w.heap.size w X ∧ Bx X (w.heap.size + 1) (machL (M.rdM a).2 F.S) ∧ SlAt X F.S (M.rdM a).2) (HR3.out.drew.fin rfl) ?_
  rintro X ⟨hX1, hX2, hX3⟩
  have HX1 := hid hX1
  have HX2 := hid hX2
  have HX3 := hid hX3
  have HFI := hid HR3.out.bd.fit
  clear hX1 hX2 hX3
  go_wp2
  have hl := load_mach _ _ HX2.out.c
  refine bodyPost_ret (v := .tuple #[.int .u8 (M.rdM a).1, .agg (machL (M.rdM a).2 F.S).toArray, .int .i64 0]) ?_ rfl ⟨F.S, rfl, HX3.out, HFI.out, HR3.out.new, HX1.out⟩
  simp only [results, Try.results16]
  simp
  show (Result.andThen (Sem.run Try.prog (loadVar 41 ⟨w.heap.size + 1, 0, none⟩) X) _) = _
  rw [hl]
  rfl
set_option maxHeartbeats 800000 in
theorem Bu.read_a (M : Mach) (S : Sl) (w : World) (a : Int) (ha : 0 ≤ a ∧ a ≤ 65535) (hs : SlAt w S M) (hf : M.fit) :
    Calls Try.prog 16 #[.agg (machL M S).toArray, .bool true, .int .u16 a] w fun e w' => ∃ S', e = .returned (.tuple #[.int .u8 (M.rdA a).1, .agg (machL (M.rdA a).2 S').toArray, .int .i64 0]) ∧ SlAt w' S' (M.rdA a).2 ∧ (M.rdA a).2.fit ∧ SlNew (w.heap.size + 2) S' ∧ Below w.heap.size w w' := by
  have hB := (Bx.new w (machL M S) 41 (b := w.heap.size) rfl).over (.cells (machL zeroM nilS).toArray 41)
  have HB := hid hB
  have HR := hid (Bx.new (w.alloc (.cells (machL M S).toArray 41)) (machL zeroM nilS) 41 (b := w.heap.size + 1) (by simp))
  have HL := hid (stA (stA (st0 w) (.cells (machL M S).toArray 41)) (.cells (machL zeroM nilS).toArray 41))
  have HS := hid hs
  have HF := hid hf
  clear hB hs hf
  go_enter Try.func16, Try.ntmps16
  go_wp2_with (first
    | (refine wpList_load_mid rfl 41 _ rfl w.heap.size 0 rfl (machL M S) _ HB.out.c Try.underlying41 rfl info_mach ?_)
    | (refine wpList_field rfl 73 _ 0 rfl (.agg #[_, _]) _ rfl (field_0 _ _ _) ?_)
    | (go_at_call 21; refine (Bu.open_ok M S _ (HS.out.kept HL.out).lens (HS.out.kept HL.out) HF.out).mono ?_; rintro e w1 ⟨F, hFB, rfl, hr, hB1, hb1⟩; have HR1 := hid (RB.mk hB1 (stp HL.out hb1) (HR.out.kept hb1) (by rw [hFB]; simp) hr); clear hB1 hb1 hFB hr)
    | (go_at_call 30; refine (Bu.reach_a F.g _).mono ?_; rintro e w2 ⟨rfl, hb2⟩; have HR2 := hid (HR1.out.kept hb2); clear hb2)
    | (go_at_call 50; refine (Bu.read_A HR2.out.bd a ha (fun i hi => getA_all i hi)).mono ?_; rintro e w3 ⟨rfl, hB3, hT3⟩; have HR3 := hid (HR2.out.go hB3 hT3); clear hB3 hT3))
  refine wp_region_held_drew (S := fun _ => True) (by kernel_rfl) trivial ?_
  intro _
  refine wpAnyH_take (i := 0) (oi := { dst := some 27, op := _, type := _, pos := _, after := _, guard := none }) (v := ?_) rfl (by kernel_rfl) (by kernel_rfl) (by kernel_rfl) (fun _ _ _ h => h) (Or.inl ⟨by rfl, ?_⟩) trivial ?_
  rotate_left 1
  focus (intro w hSw; (try dsimp only at hSw); go_simp; try (with_reducible rfl))
  simp only [Act.put, List.setIfInBounds_toArray, List.set_cons_zero, List.set_cons_succ]
  refine wpAnyH_take (i := 1) (oi := { dst := some 28, op := _, type := _, pos := _, after := _, guard := none }) (v := ?_) rfl (by kernel_rfl) (by kernel_rfl) (by kernel_rfl) (fun _ _ _ h => h) (Or.inl ⟨by rfl, ?_⟩) trivial ?_
  rotate_left 1
  focus (intro w hSw; (try dsimp only at hSw); go_simp; try (with_reducible rfl))
  simp only [Act.put, List.setIfInBounds_toArray, List.set_cons_zero, List.set_cons_succ]
  refine wpAnyH_take (i := 2) (oi := { dst := some 29, op := _, type := _, pos := _, after := _, guard := none }) (v := ?_) rfl (by kernel_rfl) (by kernel_rfl) (by kernel_rfl) (fun _ _ _ h => h) (Or.inl ⟨by rfl, ?_⟩) trivial ?_
  rotate_left 1
  focus (intro w hSw; (try dsimp only at hSw); go_simp; try (with_reducible rfl))
  simp only [Act.put, List.setIfInBounds_toArray, List.set_cons_zero, List.set_cons_succ]
  refine wpAnyH_take (i := 3) (oi := { dst := some 30, op := _, type := _, pos := _, after := _, guard := none }) (v := ?_) rfl (by kernel_rfl) (by kernel_rfl) (by kernel_rfl) (fun _ _ _ h => h) (Or.inl ⟨by rfl, ?_⟩) trivial ?_
  rotate_left 1
  focus (intro w hSw; (try dsimp only at hSw); go_simp; try (with_reducible rfl))
  simp only [Act.put, List.setIfInBounds_toArray, List.set_cons_zero, List.set_cons_succ]
  refine wpAnyH_take (i := 5) (oi := { dst := some 6, op := _, type := _, pos := _, after := _, guard := none }) (v := ?_) rfl (by kernel_rfl) (by kernel_rfl) (by kernel_rfl) (fun _ _ _ h => h) (Or.inl ⟨by rfl, ?_⟩) trivial ?_
  rotate_left 1
  focus (intro w hSw; (try dsimp only at hSw); go_simp; try (with_reducible rfl))
  simp only [Act.put, List.setIfInBounds_toArray, List.set_cons_zero, List.set_cons_succ]
  refine readyH_load (i := 4) (op := { dst := some 31, op := _, type := _, pos := _, after := _, guard := none }) (by kernel_rfl) rfl rfl 41 _ rfl F.g 0 rfl (machL (M.rdA a).2 F.S) _ HR3.out.bd.row Try.underlying41 rfl info_mach trivial ?_
  simp only [Act.put, List.setIfInBounds_toArray, List.set_cons_zero, List.set_cons_succ]
  refine readyH_store (i := 6) (op := { dst := none, op := _, type := _, pos := _, after := _, guard := none }) (by kernel_rfl) rfl rfl 41 _ _ rfl (w.heap.size + 1) 0 (machL (M.rdA a).2 F.S).toArray rfl rfl HR3.out.drew.th info_mach (machL_one _ _ HR3.out.bd.isSl) trivial ?_
  simp only [Act.put]
  refine wpAnyH_take (i := 7) (oi := { dst := some 8, op := _, type := _, pos := _, after := _, guard := none }) (v := ?_) rfl (by kernel_rfl) (by kernel_rfl) (by kernel_rfl) (fun _ _ _ h => h) (Or.inl ⟨by rfl, ?_⟩) trivial ?_
  rotate_left 1
  focus (intro w hSw; (try dsimp only at hSw); go_simp; try (with_reducible rfl))
  simp only [Act.put, List.setIfInBounds_toArray, List.set_cons_zero, List.set_cons_succ]
  refine wpAnyH_done (by kernel_rfl) ?_ _
  refine Pl.cutE (fun X => Below w.heap.size w X ∧ Bx X (w.heap.size + 1) (machL (M.rdA a).2 F.S) ∧ SlAt X F.S (M.rdA a).2) (HR3.out.drew.fin rfl) ?_
  rintro X ⟨hX1, hX2, hX3⟩
  have HX1 := hid hX1
  have HX2 := hid hX2
  have HX3 := hid hX3
  have HFI := hid HR3.out.bd.fit
  clear hX1 hX2 hX3
  go_wp2
  have hl := load_mach _ _ HX2.out.c
  refine bodyPost_ret (v := .tuple #[.int .u8 (M.rdA a).1, .agg (machL (M.rdA a).2 F.S).toArray, .int .i64 0]) ?_ rfl ⟨F.S, rfl, HX3.out, HFI.out, HR3.out.new, HX1.out⟩
  simp only [results, Try.results16]
  simp
  show (Result.andThen (Sem.run Try.prog (loadVar 41 ⟨w.heap.size + 1, 0, none⟩) X) _) = _
  rw [hl]
  rfl
def bl1 : List UInt8 := [0, 4, 0, 0, 7, 9]
def bM1 : Mach := newD bl1 []
def bM2 : Mach := bM1.wrM 32769 5
def bM3 : Mach := bM2.wrM 53262 2
theorem b_t1 : tookM 32769 5 = 0 := by decide
theorem b_t2 : tookM 53262 2 = 4 := by decide
theorem b_rd : (bM3.rdM 32897).1 = 5 := by decide +kernel
theorem b_pc : bM3.main.PC = 4 := by decide +kernel
theorem b_held : bM3.held = true := by decide +kernel
theorem b_vid : bget bM3.video 1 = 4 := by decide +kernel
theorem slice_b (w : World) (t : TypeId) : sliceAt (w.alloc (.cells #[.int .u8 0, .int .u8 4, .int .u8 0, .int .u8 0, .int .u8 7, .int .u8 9] t)) (.slice (some ⟨w.heap.size, 0, none⟩) 6 6) bl1 := by
  refine Or.inr ⟨w.heap.size, 0, 6, rfl, by decide, by simp, fun j c hj => ?_⟩
  have hl := (List.getElem?_eq_some_iff.1 hj).1
  rw [Nat.zero_add, Pl.new _ _ _ _ rfl]
  have hc : j = 0 ∨ j = 1 ∨ j = 2 ∨ j = 3 ∨ j = 4 ∨ j = 5 := by simp [bl1] at hl; omega
  rcases hc with rfl | rfl | rfl | rfl | rfl | rfl <;> (cases hj; rfl)
theorem nil_sl (w : World) : sliceAt w (.slice none 0 0) [] := Or.inl ⟨none, 0, rfl, rfl⟩
theorem SlAt.isSl {W : World} {S : Sl} {M : Mach} (h : SlAt W S M) : S.isSl := fun j hj => by
  obtain ⟨a, c, e⟩ := h.lens j hj
  exact ⟨_, _, _, e⟩
/-- A machine in a box, its bytes where its slices say. -/
structure MB (w : World) (b : Nat) (M : Mach) (S : Sl) (Y : World) : Prop where
  low : Below w.heap.size w Y
  bx : Bx Y b (machL M S)
  sl : SlAt Y S M
  fit : M.fit
  ge : w.heap.size ≤ b
theorem MB.kept {w Y Y' : World} {b : Nat} {M : Mach} {S : Sl} (h : MB w b M S Y) (hb : Below Y.heap.size Y Y') : MB w b M S Y' := ⟨stp h.low hb, h.bx.kept hb, h.sl.kept hb, h.fit, h.ge⟩
theorem MB.th {w Y : World} {b : Nat} {M : Mach} {S : Sl} (h : MB w b M S Y) : Y.there b 0 75 := h.bx.there 0 75 (by rw [machL_len]; omega)
/-- Another machine is put into the box, its slices behind it. -/
theorem MB.put {w Y : World} {b n : Nat} {M M' : Mach} {S S' : Sl} (h : MB w b M S Y) (hs : SlAt Y S' M') (hn : SlNew n S') (hb : b < n) (hf : M'.fit) : MB w b M' S' (Y.setCells b 0 (machL M' S')) := by
  have hx := h.bx.puts 0 (machL M' S') (by rw [machL_len, machL_len]; omega)
  rw [putL_whole _ _ (by rw [machL_len, machL_len])] at hx
  exact ⟨Bl.puts h.low h.ge _, hx, hs.off hn hb _ _, hf, h.ge⟩
/-- A new box for a machine. -/
theorem MB.mk0 {w Y : World} {n : Nat} {M' : Mach} {S' : Sl} (hl : Below w.heap.size w Y) (hs : SlAt Y S' M') (hf : M'.fit) (t : TypeId) : MB w Y.heap.size M' S' ((Y.alloc (.cells (machL zeroM nilS).toArray t)).setCells Y.heap.size 0 (machL M' S')) := by
  have hx := (Bx.new Y (machL zeroM nilS) t (b := Y.heap.size) rfl).puts 0 (machL M' S') (by rw [machL_len, machL_len]; omega)
  rw [putL_whole _ _ (by rw [machL_len, machL_len])] at hx
  refine ⟨Bl.puts (stA hl _) hl.size _, hx, fun j hj => ?_, hf, hl.size⟩
  rcases hs j hj with h0 | ⟨g, o, cap, e1, e2, e3, e4⟩
  · exact Or.inl h0
  · refine Or.inr ⟨g, o, cap, e1, e2, by rw [size_sets]; simp; omega, fun i c hi => ?_⟩
    exact (World.cell?_of_block (heap_sets_far (x := g) (b := Y.heap.size) (by omega) _ _ _)).trans ((World.cell?_of_block (Below.heap_alloc _ _ _ e3)).trans (e4 i c hi))
theorem Bu.bw1 (S : Sl) (w : World) (hs : SlAt w S bM1) (hf : bM1.fit) : Calls Try.prog 17 #[.agg (machL bM1 S).toArray, .bool false, .int .u16 32769, .int .u8 5] w fun e w' => ∃ S', e = .returned (.tuple #[.agg (machL bM2 S').toArray, .int .i64 0, .int .i64 0]) ∧ SlAt w' S' bM2 ∧ bM2.fit ∧ SlNew (w.heap.size + 2) S' ∧ Below w.heap.size w w' := by
  have h := Bu.write_m bM1 S w 32769 5 (by omega) (by omega) hs hf
  rw [b_t1] at h
  exact h
theorem Bu.bw2 (S : Sl) (w : World) (hs : SlAt w S bM2) (hf : bM2.fit) : Calls Try.prog 17 #[.agg (machL bM2 S).toArray, .bool false, .int .u16 53262, .int .u8 2] w fun e w' => ∃ S', e = .returned (.tuple #[.agg (machL bM3 S').toArray, .int .i64 4, .int .i64 0]) ∧ SlAt w' S' bM3 ∧ bM3.fit ∧ SlNew (w.heap.size + 2) S' ∧ Below w.heap.size w w' := by
  have h := Bu.write_m bM2 S w 53262 2 (by omega) (by omega) hs hf
  rw [b_t2] at h
  exact h
def bM4 : Mach := (bM3.rdM 32897).2
theorem Bu.br (S : Sl) (w : World) (hs : SlAt w S bM3) (hf : bM3.fit) : Calls Try.prog 16 #[.agg (machL bM3 S).toArray, .bool false, .int .u16 32897] w fun e w' => ∃ S', e = .returned (.tuple #[.int .u8 5, .agg (machL bM4 S').toArray, .int .i64 0]) ∧ SlAt w' S' bM4 ∧ bM4.fit ∧ SlNew (w.heap.size + 2) S' ∧ Below w.heap.size w w' := by
  have h := Bu.read_m bM3 S w 32897 (by omega) hs hf
  rw [b_rd] at h
  exact h
theorem zero_th (Y : World) (t : TypeId) : (Y.alloc (.cells (machL zeroM nilS).toArray t)).there Y.heap.size 0 75 := (Bx.new Y (machL zeroM nilS) t (b := Y.heap.size) rfl).there 0 75 (by rw [machL_len]; omega)
/-- What the last row reads. -/
theorem MB.last {w Y : World} {b : Nat} {S : Sl} (h : MB w b bM3 S Y) : Y.cell? ⟨b, 8, none⟩ = some (.int .u16 4) ∧ Y.cell? ⟨b, 68, none⟩ = some (.bool true) ∧ b < Y.heap.size ∧ ∃ g o cap, Y.cell? ⟨b, 34, none⟩ = some (.slice (some ⟨g, o, none⟩) 256 cap) ∧ Y.cell? ⟨g, o + 1, none⟩ = some (.int .u8 4) ∧ g < Y.heap.size := by
  have hv : bM3.video.length = 256 := h.fit.video
  refine ⟨?_, ?_, h.bx.z, ?_⟩
  · have := h.bx.at 8 (.int .u16 bM3.main.PC) rfl
    rw [b_pc] at this; exact this
  · have := h.bx.at 68 (.bool bM3.held) rfl
    rw [b_held] at this; exact this
  · have h4 := h.sl 4 (by omega)
    have hc := h.bx.at 34 (S.get 4) rfl
    rcases h4 with ⟨_, _, _, e⟩ | ⟨g, o, cap, e1, e2, e3, e4⟩
    · have e' : bM3.video = [] := e
      rw [e'] at hv; simp at hv
    · have e1' : S.get 4 = .slice (some ⟨g, o, none⟩) bM3.video.length cap := e1
      rw [hv] at e1'
      refine ⟨g, o, cap, by rw [hc, e1'], ?_, e3⟩
      have hx : bM3.video[1]? = some (bM3.video.getD 1 0) := by simp [List.getD, List.getElem?_eq_getElem (show 1 < bM3.video.length by omega)]
      have := e4 1 _ hx
      rw [this]
      have hb := b_vid
      unfold bget at hb
      have hb' : ((bM3.video.getD 1 0).toNat : Int) = 4 := hb
      rw [hb']
set_option maxHeartbeats 1600000 in
theorem Bu.bussed_any (w : World) : Calls Try.prog 9 #[] w fun e w' => e = .returned (.bool true) ∧ Below w.heap.size w w' := by
  go_enter Try.func9, Try.ntmps9
  go_wp2_with (first
    | (go_at_call 8; refine (Bu.new_ok bl1 [] _ _ _ (slice_b w _) (nil_sl _) (by decide) (by decide)).mono ?_; rintro e w1 ⟨S1, rfl, hs1, hf1, hn1, hb1⟩; have HS1 := hid hs1; have HF1 := hid hf1; have HL1 := hid (stp (stA (st0 w) _) hb1); clear hs1 hf1 hn1 hb1)
    | (go_at_call 17; refine (Bu.bw2 S2 _ HY2.out.sl HY2.out.fit).mono ?_; rintro e w3 ⟨S3, rfl, hs3, hf3, hn3, hb3⟩; have HS3 := hid hs3; have HF3 := hid hf3; have HN3 := hid hn3; have HY2k := hid (HY2.out.kept hb3); clear hs3 hf3 hn3 hb3)
    | (go_at_call 17; refine (Bu.bw1 S1 _ HY1.out.sl HY1.out.fit).mono ?_; rintro e w2 ⟨S2, rfl, hs2, hf2, hn2, hb2⟩; have HS2 := hid hs2; have HF2 := hid hf2; have HN2 := hid hn2; have HY1k := hid (HY1.out.kept hb2); clear hs2 hf2 hn2 hb2)
    | (go_at_call 16; refine (Bu.br S3 _ HY3.out.sl HY3.out.fit).mono ?_; rintro e w4 ⟨S4, rfl, hs4, hf4, hn4, hb4⟩; have HS4 := hid hs4; have HY3k := hid (HY3.out.kept hb4); clear hs4 hf4 hn4 hb4)
    | (refine wpList_load_mid rfl 41 _ rfl w1.heap.size 0 rfl (machL bM3 S3) _ HY3.out.bx.c Try.underlying41 rfl info_mach ?_)
    | (refine wpList_load_mid rfl 41 _ rfl w1.heap.size 0 rfl (machL bM2 S2) _ HY2.out.bx.c Try.underlying41 rfl info_mach ?_)
    | (refine wpList_load_mid rfl 41 _ rfl w1.heap.size 0 rfl (machL bM1 S1) _ HY1.out.bx.c Try.underlying41 rfl info_mach ?_)
    | (refine wpList_store_mid rfl 41 _ _ rfl w4.heap.size 0 (machL bM4 S4).toArray rfl rfl (zero_th w4 _) info_mach (machL_one _ _ HS4.out.isSl) ?_
       refine Pl.cutL (MB w w1.heap.size bM3 S3) (HY3k.out.kept (Bl.puts (stA (st0 w4) _) (Nat.le_refl _) _)) ?_
       intro Y4 hY4
       have HY4 := hid hY4
       obtain ⟨g8, g68, gz, gg, go, gc, g34, gv, gz2⟩ := hY4.last
       clear hY4)
    | (refine wpList_store_mid rfl 41 _ _ rfl w1.heap.size 0 (machL bM3 S3).toArray rfl rfl HY2k.out.th info_mach (machL_one _ _ HS3.out.isSl) ?_
       refine Pl.cutL (MB w w1.heap.size bM3 S3) (HY2k.out.put HS3.out HN3.out (Nat.lt_of_lt_of_le HY2.out.bx.z (Nat.le_add_right _ _)) HF3.out) ?_
       intro Y3 hY3
       have HY3 := hid hY3
       clear hY3)
    | (refine wpList_store_mid rfl 41 _ _ rfl w1.heap.size 0 (machL bM2 S2).toArray rfl rfl HY1k.out.th info_mach (machL_one _ _ HS2.out.isSl) ?_
       refine Pl.cutL (MB w w1.heap.size bM2 S2) (HY1k.out.put HS2.out HN2.out (Nat.lt_of_lt_of_le HY1.out.bx.z (Nat.le_add_right _ _)) HF2.out) ?_
       intro Y2 hY2
       have HY2 := hid hY2
       clear hY2)
    | (refine wpList_store_mid rfl 41 _ _ rfl w1.heap.size 0 (machL bM1 S1).toArray rfl rfl (zero_th w1 _) info_mach (machL_one _ _ HS1.out.isSl) ?_
       refine Pl.cutL (MB w w1.heap.size bM1 S1) (MB.mk0 (n := 0) HL1.out HS1.out HF1.out _) ?_
       intro Y1 hY1
       have HY1 := hid hY1
       clear hY1))
  go_ret
  exact ⟨rfl, HY4.out.low⟩
theorem exec_load_mid {P : Program} {a : Act} {o : Oper} {w : World} (ty : TypeId) (x : Operand) (ho : o.op = .load ty x) (b off : Nat) (hx : a.eval x = .pointer (some ⟨b, off, none⟩)) (cs : List Value) (u : TypeDesc) (hc : w.rangeAt b off cs) (hu : P.underlying ty = some u) (hag : u.isRow = true) (hi : (P.info? ty).map (·.size) = some cs.length) :
    (execOp a.eval o).run P w = .ok (.value (.agg cs.toArray)) w := by
  unfold execOp
  simp only [ho, hx, Sem.run_bind, run_loadAt_mid w b off ty cs u hc hu hag hi, Result.andThen_ok, Sem.run_pure]
theorem zero_at (w : World) : SlAt w nilS zeroM := fun j hj => by
  rcases five hj with rfl | rfl | rfl | rfl | rfl <;> exact Or.inl ⟨none, 0, rfl, rfl⟩
theorem Bu.none_any (w : World) : Calls Try.prog 12 #[.agg (machL zeroM nilS).toArray] w fun e w' => e = .returned (.bool true) ∧ Below w.heap.size w w' := by
  have HB := hid (Bx.new w (machL zeroM nilS) 41 (b := w.heap.size) rfl)
  go_enter Try.func12, Try.ntmps12
  go_wp2_with (first
    | (refine wpList_load_mid rfl 41 _ rfl w.heap.size 0 rfl (machL zeroM nilS) _ HB.out.c Try.underlying41 rfl info_mach ?_)
    | (refine wpList_build0 rfl 41 rfl _ (run_none _) ?_)
    | (go_at_call 13; refine (Bu.same_any zeroM nilS nilS _ (zero_at _) (zero_at _)).mono ?_; rintro e w4 ⟨rfl, hb4⟩))
  go_ret
  exact ⟨rfl, stp (stA (st0 w) _) hb4⟩
/-- Two machines in two boxes, two programs. -/
structure NW (w : World) (b : Nat) (M X : Mach) (S S1 : Sl) (v1 v2 : Value) (l1 l2 : List UInt8) (Y : World) : Prop where
  low : Below w.heap.size w Y
  m : Bx Y w.heap.size (machL M S)
  x : Bx Y b (machL X S1)
  xs : SlAt Y S1 X
  h1 : sliceAt Y v1 l1
  h2 : sliceAt Y v2 l2
theorem NW.kept {w Y Y' : World} {b : Nat} {M X : Mach} {S S1 : Sl} {v1 v2 : Value} {l1 l2 : List UInt8} (h : NW w b M X S S1 v1 v2 l1 l2 Y) (hb : Below Y.heap.size Y Y') : NW w b M X S S1 v1 v2 l1 l2 Y' := ⟨stp h.low hb, h.m.kept hb, h.x.kept hb, h.xs.kept hb, h.h1.kept hb, h.h2.kept hb⟩
theorem NW.mk0 {w Y : World} {M X : Mach} {S S1 : Sl} {v1 v2 : Value} {l1 l2 : List UInt8} (hl : Below w.heap.size w Y) (hm : Bx Y w.heap.size (machL M S)) (hs : SlAt Y S1 X) (h1 : sliceAt Y v1 l1) (h2 : sliceAt Y v2 l2) (t : TypeId) : NW w Y.heap.size M X S S1 v1 v2 l1 l2 ((Y.alloc (.cells (machL zeroM nilS).toArray t)).setCells Y.heap.size 0 (machL X S1)) := by
  have hx := (Bx.new Y (machL zeroM nilS) t (b := Y.heap.size) rfl).puts 0 (machL X S1) (by rw [machL_len, machL_len]; omega)
  rw [putL_whole _ _ (by rw [machL_len, machL_len])] at hx
  have hb : Below Y.heap.size Y ((Y.alloc (.cells (machL zeroM nilS).toArray t)).setCells Y.heap.size 0 (machL X S1)) := Bl.puts (stA (st0 Y) _) (Nat.le_refl _) _
  exact ⟨stp hl hb, hm.kept hb, hx, hs.kept hb, h1.kept hb, h2.kept hb⟩
set_option maxHeartbeats 3200000 in
theorem Bu.new_yes (l1 l2 : List UInt8) (v1 v2 : Value) (M : Mach) (S : Sl) (w : World) (h1 : sliceAt w v1 l1) (h2 : sliceAt w v2 l2) (hl1 : l1.length ≤ 1024) (hl2 : l2.length ≤ 1024) (hS : S.lens M) (hz : ∀ j, j < 5 → (M.byt j).length ≤ 9223372036854775807) :
    Calls Try.prog 3 #[v1, v2, .agg (machL M S).toArray] w fun e w' => e = .returned (.bool true) ∧ Below w.heap.size w w' := by
  obtain ⟨a1, c1, e1⟩ := slice_len h1
  obtain ⟨a2, c2, e2⟩ := slice_len h2
  subst e1 e2
  have HB := hid (Bx.new w (machL M S) 41 (b := w.heap.size) rfl)
  have HL := hid (stA (st0 w) (.cells (machL M S).toArray 41))
  have H1 := hid (h1.kept HL.out)
  have H2 := hid (h2.kept HL.out)
  have HSL := hid hS
  have HZL := hid hz
  obtain ⟨c, hcc⟩ : ∃ c, M.chk = c := ⟨_, rfl⟩
  have HCK := hid hcc
  clear h1 h2 hS hz hcc
  have q1 : (l1.length : Int) ≤ 1024 := by omega
  have q2 : (l2.length : Int) ≤ 1024 := by omega
  have HL1 := hid hl1
  have HL2 := hid hl2
  clear hl1 hl2
  go_enter Try.func3, Try.ntmps3
  go_upto_region 2 with (first
    | (go_at_call 8; refine (Bu.new_ok l1 l2 _ _ _ H1.out H2.out HL1.out HL2.out).mono ?_; rintro e w1 ⟨S1, rfl, hs1, hf1, hn1, hb1⟩; have HS1 := hid hs1; have HF1 := hid hf1; have HB1 := hid hb1; clear hs1 hf1 hn1 hb1)
    | (refine wpList_store_mid rfl 41 _ _ rfl w1.heap.size 0 (machL (newD l1 l2) S1).toArray rfl rfl (zero_th w1 _) info_mach (machL_one _ _ HS1.out.isSl) ?_
       refine Pl.cutL (NW w w1.heap.size M (newD l1 l2) S S1 (.slice a1 l1.length c1) (.slice a2 l2.length c2) l1 l2) (NW.mk0 (stp HL.out HB1.out) (HB.out.kept HB1.out) HS1.out (H1.out.kept HB1.out) (H2.out.kept HB1.out) _) ?_
       intro Y hY
       have HY1 := hid hY
       clear hY))
  refine wp_region_held_drew (S := fun w' => w'.rangeAt w.heap.size 0 (machL M S)) (by kernel_rfl) (HY1.out.m.c) ?_
  intro hS
  refine wpAnyH_ready (rs := [0]) (by kernel_rfl) (by simp) ?_
  refine AllReadyH.cons (o := { dst := some 15, op := _, type := _, pos := _, after := _, guard := none }) rfl (fun K hK => ?_) AllReadyH.nil
  go_simp
  go_at_call 9
  refine (Bu.bussed_any _).mono ?_
  rintro e w2 ⟨rfl, hb2⟩
  have HY2 := hid (HY1.out.kept (stp (st0 Y).drew hb2))
  clear hb2
  try go_wp2_with fail
  refine hK.out _ _ (HY2.out.m.c) (fun _ => ?_)
  clear hK K
  try simp only [Act.put, List.setIfInBounds_toArray, List.set_cons_zero, List.set_cons_succ]
  clear hS
  have hS : w2.rangeAt w.heap.size 0 (machL M S) := HY2.out.m.c
  refine wpAnyH_take (i := 1) (oi := { dst := some 16, op := _, type := _, pos := _, after := _, guard := none }) (v := ?_) rfl (by kernel_rfl) (by kernel_rfl) (by kernel_rfl) (fun _ _ _ h => h) (Or.inl ⟨by rfl, ?_⟩) hS ?_
  rotate_left 1
  focus (intro w hSw; (try dsimp only at hSw); go_simp; try (with_reducible rfl))
  simp only [Act.put, List.setIfInBounds_toArray, List.set_cons_zero, List.set_cons_succ]
  refine wpAnyH_take (i := 2) (oi := { dst := some 17, op := _, type := _, pos := _, after := _, guard := none }) (v := ?_) rfl (by kernel_rfl) (by kernel_rfl) (by kernel_rfl) (fun _ _ _ h => h) (Or.inl ⟨by rfl, ?_⟩) hS ?_
  rotate_left 1
  focus (intro w hSw; (try dsimp only at hSw); go_simp; try (with_reducible rfl))
  simp only [Act.put, List.setIfInBounds_toArray, List.set_cons_zero, List.set_cons_succ]
  refine wpAnyH_take (i := 3) (oi := { dst := some 18, op := _, type := _, pos := _, after := _, guard := some (2, false) }) (v := .agg (machL M S).toArray) rfl (by kernel_rfl) (by kernel_rfl) (by kernel_rfl) (fun _ _ _ h => h) (Or.inl ⟨by rfl, fun w' hSw => exec_load_mid 41 _ rfl w.heap.size 0 rfl (machL M S) _ hSw Try.underlying41 rfl info_mach⟩) hS ?_
  simp only [Act.put, List.setIfInBounds_toArray, List.set_cons_zero, List.set_cons_succ]
  refine wpAnyH_take (i := 5) (oi := { dst := some 20, op := _, type := _, pos := _, after := _, guard := some (2, false) }) (v := .agg (machL M S).toArray) rfl (by kernel_rfl) (by kernel_rfl) (by kernel_rfl) (fun _ _ _ h => h) (Or.inl ⟨by rfl, fun w' hSw => exec_load_mid 41 _ rfl w.heap.size 0 rfl (machL M S) _ hSw Try.underlying41 rfl info_mach⟩) hS ?_
  simp only [Act.put, List.setIfInBounds_toArray, List.set_cons_zero, List.set_cons_succ]
  refine wpAnyH_ready (rs := [4]) (by kernel_rfl) (by simp) ?_
  refine AllReadyH.cons (o := { dst := some 19, op := _, type := _, pos := _, after := _, guard := some (2, false) }) rfl (fun K hK => ?_) AllReadyH.nil
  go_simp
  go_at_call 10
  refine (Bu.check_any M S _ HSL.out HZL.out).mono ?_
  rw [HCK.out]
  rintro e w3 ⟨rfl, hb3⟩
  have HY3 := hid (HY2.out.kept hb3)
  clear hb3
  try go_wp2_with fail
  refine hK.out _ _ (HY3.out.m.c) (fun _ => ?_)
  clear hK K
  try simp only [Act.put, List.setIfInBounds_toArray, List.set_cons_zero, List.set_cons_succ]
  clear hS
  have hS : w3.rangeAt w.heap.size 0 (machL M S) := HY3.out.m.c
  refine wpAnyH_ready (rs := [6]) (by kernel_rfl) (by simp) ?_
  refine AllReadyH.cons (o := { dst := some 21, op := _, type := _, pos := _, after := _, guard := some (2, false) }) rfl (fun K hK => ?_) AllReadyH.nil
  go_simp
  go_at_call 11
  refine (Gm.check_any M S _ HSL.out).mono ?_
  rw [HCK.out]
  rintro e w4 ⟨rfl, hb4⟩
  have HY4 := hid (HY3.out.kept hb4)
  clear hb4
  try go_wp2_with fail
  refine hK.out _ _ (HY4.out.m.c) (fun _ => ?_)
  clear hK K
  try simp only [Act.put, List.setIfInBounds_toArray, List.set_cons_zero, List.set_cons_succ]
  clear hS
  have hS : w4.rangeAt w.heap.size 0 (machL M S) := HY4.out.m.c
  refine wpAnyH_take (i := 7) (oi := { dst := some 22, op := _, type := _, pos := _, after := _, guard := some (2, false) }) (v := ?_) rfl (by kernel_rfl) (by kernel_rfl) (by kernel_rfl) (fun _ _ _ h => h) (Or.inl ⟨by rfl, ?_⟩) hS ?_
  rotate_left 1
  focus (intro w hSw; (try dsimp only at hSw); go_simp; try (with_reducible rfl))
  simp only [Act.put, List.setIfInBounds_toArray, List.set_cons_zero, List.set_cons_succ]
  refine wpAnyH_take (i := 8) (oi := { dst := some 23, op := _, type := _, pos := _, after := _, guard := none }) (v := ?_) rfl (by kernel_rfl) (by kernel_rfl) (by kernel_rfl) (fun _ _ _ h => h) (Or.inl ⟨by rfl, ?_⟩) hS ?_
  rotate_left 1
  focus (intro w hSw; (try dsimp only at hSw); go_simp; try (with_reducible rfl))
  simp only [Act.put, List.setIfInBounds_toArray, List.set_cons_zero, List.set_cons_succ]
  refine wpAnyH_done (by kernel_rfl) ?_ _
  refine Pl.cutE (NW w w1.heap.size M (newD l1 l2) S S1 (.slice a1 l1.length c1) (.slice a2 l2.length c2) l1 l2) HY4.out ?_
  intro V hV
  have HV := hid hV
  clear hV hS HY1 HY2 HY3 HY4 HB HL H1 H2 HB1
  go_wp2
  refine wp_region_held_drew (S := fun w' => w'.rangeAt w1.heap.size 0 (machL (newD l1 l2) S1)) (by kernel_rfl) (HV.out.x.c) ?_
  intro hS
  refine wpAnyH_take (i := 0) (oi := { dst := some 38, op := _, type := _, pos := _, after := _, guard := none }) (v := ?_) rfl (by kernel_rfl) (by kernel_rfl) (by kernel_rfl) (fun _ _ _ h => h) (Or.inl ⟨by rfl, ?_⟩) hS ?_
  rotate_left 1
  focus (intro w hSw; (try dsimp only at hSw); go_simp; try (with_reducible rfl))
  simp only [Act.put, List.setIfInBounds_toArray, List.set_cons_zero, List.set_cons_succ]
  refine wpAnyH_take (i := 1) (oi := { dst := some 39, op := _, type := _, pos := _, after := _, guard := none }) (v := ?_) rfl (by kernel_rfl) (by kernel_rfl) (by kernel_rfl) (fun _ _ _ h => h) (Or.inl ⟨by rfl, ?_⟩) hS ?_
  rotate_left 1
  focus (intro w hSw; (try dsimp only at hSw); go_simp; try (with_reducible rfl))
  simp only [Act.put, List.setIfInBounds_toArray, List.set_cons_zero, List.set_cons_succ]
  refine wpAnyH_take (i := 2) (oi := { dst := some 40, op := _, type := _, pos := _, after := _, guard := none }) (v := ?_) rfl (by kernel_rfl) (by kernel_rfl) (by kernel_rfl) (fun _ _ _ h => h) (Or.inl ⟨by rfl, ?_⟩) hS ?_
  rotate_left 1
  focus (intro w hSw; (try dsimp only at hSw); go_simp; try (with_reducible rfl))
  simp only [Act.put, List.setIfInBounds_toArray, List.set_cons_zero, List.set_cons_succ]
  refine wpAnyH_take (i := 3) (oi := { dst := some 41, op := _, type := _, pos := _, after := _, guard := some (2, true) }) (v := .agg (machL (newD l1 l2) S1).toArray) rfl (by kernel_rfl) (by kernel_rfl) (by kernel_rfl) (fun _ _ _ h => h) (Or.inl ⟨by rfl, fun w' hSw => exec_load_mid 41 _ rfl w1.heap.size 0 rfl (machL (newD l1 l2) S1) _ hSw Try.underlying41 rfl info_mach⟩) hS ?_
  simp only [Act.put, List.setIfInBounds_toArray, List.set_cons_zero, List.set_cons_succ]
  refine wpAnyH_take (i := 4) (oi := { dst := some 42, op := _, type := _, pos := _, after := _, guard := some (2, true) }) (v := ?_) rfl (by kernel_rfl) (by kernel_rfl) (by kernel_rfl) (fun _ _ _ h => h) (Or.inl ⟨by rfl, ?_⟩) hS ?_
  rotate_left 1
  focus (intro w hSw; (try dsimp only at hSw); go_simp; try (with_reducible rfl))
  simp only [Act.put, List.setIfInBounds_toArray, List.set_cons_zero, List.set_cons_succ]
  refine wpAnyH_take (i := 5) (oi := { dst := some 43, op := _, type := _, pos := _, after := _, guard := some (2, true) }) (v := ?_) rfl (by kernel_rfl) (by kernel_rfl) (by kernel_rfl) (fun _ _ _ h => h) (Or.inl ⟨by rfl, ?_⟩) hS ?_
  rotate_left 1
  focus (intro w hSw; (try dsimp only at hSw); go_simp; try (with_reducible rfl))
  simp only [Act.put, List.setIfInBounds_toArray, List.set_cons_zero, List.set_cons_succ]
  refine wpAnyH_ready (rs := [6]) (by kernel_rfl) (by simp) ?_
  refine AllReadyH.cons (o := { dst := some 44, op := _, type := _, pos := _, after := _, guard := some (2, true) }) rfl (fun K hK => ?_) AllReadyH.nil
  go_simp
  go_at_call 14
  refine (Gm.new_any l1 l2 _ _ _ (HV.out.kept (st0 V).drew).h1 (HV.out.kept (st0 V).drew).h2 HL1.out HL2.out).mono ?_
  rintro e w5 ⟨S5, rfl, hs5, hf5, hb5⟩
  have HV5 := hid (HV.out.kept (stp (st0 V).drew hb5))
  have HS5 := hid hs5
  clear hs5 hf5 hb5
  try go_wp2_with fail
  refine hK.out _ _ (HV5.out.x.c) (fun _ => ?_)
  clear hK K
  try simp only [Act.put, List.setIfInBounds_toArray, List.set_cons_zero, List.set_cons_succ]
  clear hS
  have hS : w5.rangeAt w1.heap.size 0 (machL (newD l1 l2) S1) := HV5.out.x.c
  refine wpAnyH_ready (rs := [7]) (by kernel_rfl) (by simp) ?_
  refine AllReadyH.cons (o := { dst := some 45, op := _, type := _, pos := _, after := _, guard := some (2, true) }) rfl (fun K hK => ?_) AllReadyH.nil
  go_simp
  go_at_call 13
  refine (Bu.same_any (newD l1 l2) S1 S5 _ HV5.out.xs HS5.out).mono ?_
  rintro e w6 ⟨rfl, hb6⟩
  have HV6 := hid (HV5.out.kept hb6)
  clear hb6
  try go_wp2_with fail
  refine hK.out _ _ (HV6.out.x.c) (fun _ => ?_)
  clear hK K
  try simp only [Act.put, List.setIfInBounds_toArray, List.set_cons_zero, List.set_cons_succ]
  clear hS
  have hS : w6.rangeAt w1.heap.size 0 (machL (newD l1 l2) S1) := HV6.out.x.c
  refine wpAnyH_take (i := 8) (oi := { dst := some 46, op := _, type := _, pos := _, after := _, guard := none }) (v := ?_) rfl (by kernel_rfl) (by kernel_rfl) (by kernel_rfl) (fun _ _ _ h => h) (Or.inl ⟨by rfl, ?_⟩) hS ?_
  rotate_left 1
  focus (intro w hSw; (try dsimp only at hSw); go_simp; try (with_reducible rfl))
  simp only [Act.put, List.setIfInBounds_toArray, List.set_cons_zero, List.set_cons_succ]
  refine wpAnyH_take (i := 9) (oi := { dst := some 6, op := _, type := _, pos := _, after := _, guard := none }) (v := ?_) rfl (by kernel_rfl) (by kernel_rfl) (by kernel_rfl) (fun _ _ _ h => h) (Or.inl ⟨by rfl, ?_⟩) hS ?_
  rotate_left 1
  focus (intro w hSw; (try dsimp only at hSw); go_simp; try (with_reducible rfl))
  simp only [Act.put, List.setIfInBounds_toArray, List.set_cons_zero, List.set_cons_succ]
  refine wpAnyH_done (by kernel_rfl) ?_ _
  go_simp
  go_wp2
  go_ret
  exact ⟨rfl, HV6.out.low⟩
set_option maxHeartbeats 3200000 in
theorem Bu.new_no (l1 l2 : List UInt8) (v1 v2 : Value) (M : Mach) (S : Sl) (w : World) (h1 : sliceAt w v1 l1) (h2 : sliceAt w v2 l2) (hl1 : l1.length ≤ 9223372036854775807) (hl2 : l2.length ≤ 9223372036854775807) (hc : ¬ (l1.length ≤ 1024 ∧ l2.length ≤ 1024)) (hS : S.lens M) (hz : ∀ j, j < 5 → (M.byt j).length ≤ 9223372036854775807) :
    Calls Try.prog 3 #[v1, v2, .agg (machL M S).toArray] w fun e w' => e = .returned (.bool true) ∧ Below w.heap.size w w' := by
  obtain ⟨a1, c1, e1⟩ := slice_len h1
  obtain ⟨a2, c2, e2⟩ := slice_len h2
  subst e1 e2
  have HB := hid (Bx.new w (machL M S) 41 (b := w.heap.size) rfl)
  have HL := hid (stA (st0 w) (.cells (machL M S).toArray 41))
  have H1 := hid (h1.kept HL.out)
  have H2 := hid (h2.kept HL.out)
  have HSL := hid hS
  have HZL := hid hz
  obtain ⟨c, hcc⟩ : ∃ c, M.chk = c := ⟨_, rfl⟩
  have HCK := hid hcc
  clear h1 h2 hS hz hcc
  go_enter Try.func3, Try.ntmps3
  go_upto_region 2 with (first
    | (go_at_call 8; refine (Bu.new_bad l1 l2 _ _ _ H1.out H2.out hl1 hl2 hc).mono ?_; rintro e w1 ⟨rfl, hb1⟩; have HB1 := hid hb1; have HS1 := hid (zero_at w1); clear hb1)
    | (refine wpList_store_mid rfl 41 _ _ rfl w1.heap.size 0 (machL (zeroM) nilS).toArray rfl rfl (zero_th w1 _) info_mach (machL_one _ _ zero_sl) ?_
       refine Pl.cutL (NW w w1.heap.size M (zeroM) S nilS (.slice a1 l1.length c1) (.slice a2 l2.length c2) l1 l2) (NW.mk0 (stp HL.out HB1.out) (HB.out.kept HB1.out) HS1.out (H1.out.kept HB1.out) (H2.out.kept HB1.out) _) ?_
       intro Y hY
       have HY1 := hid hY
       clear hY))
  refine wp_region_held_drew (S := fun w' => w'.rangeAt w.heap.size 0 (machL M S)) (by kernel_rfl) (HY1.out.m.c) ?_
  intro hS
  refine wpAnyH_ready (rs := [0]) (by kernel_rfl) (by simp) ?_
  refine AllReadyH.cons (o := { dst := some 15, op := _, type := _, pos := _, after := _, guard := none }) rfl (fun K hK => ?_) AllReadyH.nil
  go_simp
  go_at_call 9
  refine (Bu.bussed_any _).mono ?_
  rintro e w2 ⟨rfl, hb2⟩
  have HY2 := hid (HY1.out.kept (stp (st0 Y).drew hb2))
  clear hb2
  try go_wp2_with fail
  refine hK.out _ _ (HY2.out.m.c) (fun _ => ?_)
  clear hK K
  try simp only [Act.put, List.setIfInBounds_toArray, List.set_cons_zero, List.set_cons_succ]
  clear hS
  have hS : w2.rangeAt w.heap.size 0 (machL M S) := HY2.out.m.c
  refine wpAnyH_take (i := 1) (oi := { dst := some 16, op := _, type := _, pos := _, after := _, guard := none }) (v := ?_) rfl (by kernel_rfl) (by kernel_rfl) (by kernel_rfl) (fun _ _ _ h => h) (Or.inl ⟨by rfl, ?_⟩) hS ?_
  rotate_left 1
  focus (intro w hSw; (try dsimp only at hSw); go_simp; try (with_reducible rfl))
  simp only [Act.put, List.setIfInBounds_toArray, List.set_cons_zero, List.set_cons_succ]
  refine wpAnyH_take (i := 2) (oi := { dst := some 17, op := _, type := _, pos := _, after := _, guard := none }) (v := ?_) rfl (by kernel_rfl) (by kernel_rfl) (by kernel_rfl) (fun _ _ _ h => h) (Or.inl ⟨by rfl, ?_⟩) hS ?_
  rotate_left 1
  focus (intro w hSw; (try dsimp only at hSw); go_simp; try (with_reducible rfl))
  simp only [Act.put, List.setIfInBounds_toArray, List.set_cons_zero, List.set_cons_succ]
  refine wpAnyH_take (i := 3) (oi := { dst := some 18, op := _, type := _, pos := _, after := _, guard := some (2, false) }) (v := .agg (machL M S).toArray) rfl (by kernel_rfl) (by kernel_rfl) (by kernel_rfl) (fun _ _ _ h => h) (Or.inl ⟨by rfl, fun w' hSw => exec_load_mid 41 _ rfl w.heap.size 0 rfl (machL M S) _ hSw Try.underlying41 rfl info_mach⟩) hS ?_
  simp only [Act.put, List.setIfInBounds_toArray, List.set_cons_zero, List.set_cons_succ]
  refine wpAnyH_take (i := 5) (oi := { dst := some 20, op := _, type := _, pos := _, after := _, guard := some (2, false) }) (v := .agg (machL M S).toArray) rfl (by kernel_rfl) (by kernel_rfl) (by kernel_rfl) (fun _ _ _ h => h) (Or.inl ⟨by rfl, fun w' hSw => exec_load_mid 41 _ rfl w.heap.size 0 rfl (machL M S) _ hSw Try.underlying41 rfl info_mach⟩) hS ?_
  simp only [Act.put, List.setIfInBounds_toArray, List.set_cons_zero, List.set_cons_succ]
  refine wpAnyH_ready (rs := [4]) (by kernel_rfl) (by simp) ?_
  refine AllReadyH.cons (o := { dst := some 19, op := _, type := _, pos := _, after := _, guard := some (2, false) }) rfl (fun K hK => ?_) AllReadyH.nil
  go_simp
  go_at_call 10
  refine (Bu.check_any M S _ HSL.out HZL.out).mono ?_
  rw [HCK.out]
  rintro e w3 ⟨rfl, hb3⟩
  have HY3 := hid (HY2.out.kept hb3)
  clear hb3
  try go_wp2_with fail
  refine hK.out _ _ (HY3.out.m.c) (fun _ => ?_)
  clear hK K
  try simp only [Act.put, List.setIfInBounds_toArray, List.set_cons_zero, List.set_cons_succ]
  clear hS
  have hS : w3.rangeAt w.heap.size 0 (machL M S) := HY3.out.m.c
  refine wpAnyH_ready (rs := [6]) (by kernel_rfl) (by simp) ?_
  refine AllReadyH.cons (o := { dst := some 21, op := _, type := _, pos := _, after := _, guard := some (2, false) }) rfl (fun K hK => ?_) AllReadyH.nil
  go_simp
  go_at_call 11
  refine (Gm.check_any M S _ HSL.out).mono ?_
  rw [HCK.out]
  rintro e w4 ⟨rfl, hb4⟩
  have HY4 := hid (HY3.out.kept hb4)
  clear hb4
  try go_wp2_with fail
  refine hK.out _ _ (HY4.out.m.c) (fun _ => ?_)
  clear hK K
  try simp only [Act.put, List.setIfInBounds_toArray, List.set_cons_zero, List.set_cons_succ]
  clear hS
  have hS : w4.rangeAt w.heap.size 0 (machL M S) := HY4.out.m.c
  refine wpAnyH_take (i := 7) (oi := { dst := some 22, op := _, type := _, pos := _, after := _, guard := some (2, false) }) (v := ?_) rfl (by kernel_rfl) (by kernel_rfl) (by kernel_rfl) (fun _ _ _ h => h) (Or.inl ⟨by rfl, ?_⟩) hS ?_
  rotate_left 1
  focus (intro w hSw; (try dsimp only at hSw); go_simp; try (with_reducible rfl))
  simp only [Act.put, List.setIfInBounds_toArray, List.set_cons_zero, List.set_cons_succ]
  refine wpAnyH_take (i := 8) (oi := { dst := some 23, op := _, type := _, pos := _, after := _, guard := none }) (v := ?_) rfl (by kernel_rfl) (by kernel_rfl) (by kernel_rfl) (fun _ _ _ h => h) (Or.inl ⟨by rfl, ?_⟩) hS ?_
  rotate_left 1
  focus (intro w hSw; (try dsimp only at hSw); go_simp; try (with_reducible rfl))
  simp only [Act.put, List.setIfInBounds_toArray, List.set_cons_zero, List.set_cons_succ]
  refine wpAnyH_done (by kernel_rfl) ?_ _
  refine Pl.cutE (NW w w1.heap.size M (zeroM) S nilS (.slice a1 l1.length c1) (.slice a2 l2.length c2) l1 l2) HY4.out ?_
  intro V hV
  have HV := hid hV
  clear hV hS HY1 HY2 HY3 HY4 HB HL H1 H2 HB1
  by_cases hg : (l1.length : Int) ≤ 1024
  · have q2 : 1024 < (l2.length : Int) := by omega
    clear hc hl1 hl2
    go_wp2_with (first
      | (refine Bu.loadG rfl 41 _ rfl w1.heap.size 0 rfl (machL zeroM nilS) _ HV.out.x.c Try.underlying41 rfl info_mach ?_)
      | (go_at_call 12; refine (Bu.none_any _).mono ?_; rintro e w5 ⟨rfl, hb5⟩; have HL5 := hid (stp HV.out.low hb5); clear hb5))
    go_ret
    exact ⟨rfl, HL5.out⟩
  · have q1 : 1024 < (l1.length : Int) := by omega
    clear hc hl1 hl2 hg
    go_wp2_with (first
      | (refine Bu.loadG rfl 41 _ rfl w1.heap.size 0 rfl (machL zeroM nilS) _ HV.out.x.c Try.underlying41 rfl info_mach ?_)
      | (go_at_call 12; refine (Bu.none_any _).mono ?_; rintro e w5 ⟨rfl, hb5⟩; have HL5 := hid (stp HV.out.low hb5); clear hb5))
    go_ret
    exact ⟨rfl, HL5.out⟩
def BusNewWalk : Prop := ∀ (H : Type) (enc : TypeId × Value → H) (W : World) (base : Nat) (v0 v1 v2 : Value) (d0 d1 d2 : DataW H) (p0 p1 p2 : List MemPlace),
  Value.okWide Try.prog W .any base (Try.f3.params.getD 0 0) v0 → DataW.Trod enc Try.prog W 0 (fun _ => true) true (Try.f3.params.getD 0 0) v0 d0 p0 → Value.okWide Try.prog W .any base (Try.f3.params.getD 1 0) v1 → DataW.Trod enc Try.prog W 0 (fun _ => true) true (Try.f3.params.getD 1 0) v1 d1 p1 → Value.okWide Try.prog W .any base (Try.f3.params.getD 2 0) v2 → DataW.Trod enc Try.prog W 0 (fun _ => true) true (Try.f3.params.getD 2 0) v2 d2 p2 →
  Calls Try.prog 3 #[v0, v1, v2] W fun e w' => e = .returned (.bool true) ∧ Below W.heap.size W w'
set_option maxRecDepth 100000 in
theorem busNew_lifted (walk : BusNewWalk) (os : Os) (started : os.Started) (H : Type) (enc : TypeId × Value → H) :
    ReturnsInHanded {} Try.checked os 3 .any (Rows.busNewSpec.pre6 enc Try.prog Try.f3 Rows.busNewRow.domain false) (Rows.busNewSpec.post enc Try.prog Try.f3 false true false false) := by
  refine returnsInHanded_of_change (C := Try.checked) own started (by kernel_rfl) Try.func3
    (ChangeSpec.witness6 (enc := enc) (C := Try.checked) false ⟨#[], #[.slice none 0 0, .slice none 0 0, .agg #[.int .u16 0, .int .u16 0, .int .u16 0, .int .u16 0, .int .u16 0, .int .u16 0, .int .u16 0, .int .u16 0, .int .u16 0, .bool false, .bool false, .bool false, .bool false, .bool false, .bool false, .int .u16 0, .int .u16 0, .int .u16 0, .int .u16 0, .int .u16 0, .int .u16 0, .int .u16 0, .int .u16 0, .int .u16 0, .bool false, .bool false, .bool false, .bool false, .bool false, .bool false, .slice none 0 0, .slice none 0 0, .slice none 0 0, .slice none 0 0, .slice none 0 0, .int .u8 0, .bool false, .int .u8 0, .int .u8 0, .bool false, .int .u8 0, .int .u16 0, .int .u16 0, .bool false, .bool false, .int .u16 0, .int .u16 0, .int .u8 0, .bool false, .int .u16 0, .int .u16 0, .int .u16 0, .int .u8 0, .bool false, .int .u16 0, .int .u16 0, .int .u16 0, .int .u8 0, .bool false, .int .u16 0, .int .i64 0, .int .i64 0, .int .i64 0, .bool false, .int .i64 0, .int .u16 0, .int .u16 0, .bool false, .bool false, .int .u8 0, .int .u8 0, .bool false, .int .i64 0, .int .i64 0, .int .i64 0]], []⟩ 8 (by kernel_rfl) (by kernel_rfl) (by kernel_rfl) (by kernel_rfl)) ?_
  intro W base args ds gs before hval0 hW hcnd _
  have hval : ∀ (j : Nat) t v, Try.f3.params[j]? = some t → args[j]? = some v → Value.okWide Try.prog W .any base t v := hval0
  have hW' := hW
  obtain ⟨p, q, hA0, hV, rfl, _, _⟩ := hW
  have hA : DataW.TrodAll enc Try.prog W 0 (fun _ => true) true Try.f3.params.toList args.toList ds p := hA0
  have hA1 := hA
  rw [Try.params3] at hA hval
  obtain ⟨v0, vs0, d0, ds0, p0, q0, hargs, rfl, rfl, h0, r0⟩ := trodAll_cons hA
  obtain ⟨v1, vs1, d1, ds1, p1, q1, rfl, rfl, rfl, h1, r1⟩ := trodAll_cons r0
  obtain ⟨v2, vs2, d2, ds2, p2, q2, rfl, rfl, rfl, h2, r2⟩ := trodAll_cons r1
  obtain ⟨rfl, rfl, rfl⟩ := trodAll_nil r2
  obtain rfl : args = #[v0, v1, v2] := by cases args; simp_all
  obtain ⟨rfl, rfl⟩ := trodVars_none hV
  have hlt := fun x hx => hW'.lt x (List.mem_append_left _ hx)
  refine (walk H enc W base v0 v1 v2 d0 d1 d2 _ _ _ (hval 0 _ v0 rfl rfl) h0 (hval 1 _ v1 rfl rfl) h1 (hval 2 _ v2 rfl rfl) h2).mono fun e W' ⟨he, hb⟩ => ?_
  subst he
  exact ⟨_, rfl, _, _, _, [], _, [], hW', trodAll_mk1 (shut_bool Try.underlying4 _), trodAll_below_all (by kernel_rfl) hb (by kernel_rfl) hA1 hlt, rfl, hb.frame _, fun h => by cases h⟩
theorem busNew_row (walk : BusNewWalk) : Rows.BusNewSaid :=
  OpenClaim.holds_of_wide 3 Try.f3 rfl rfl rfl rfl rfl rfl rfl ⟨rfl, rfl, rfl, rfl, rfl⟩ rfl rfl rfl rfl rfl (by kernel_rfl) Try.func3 (by kernel_rfl)
    (of_decide_eq_true (by kernel_rfl)) (by unfold Func.isWrapper; first | (rw [if_pos (by decide +kernel)]; kernel_rfl) | (rw [if_neg (by decide +kernel)]; exact ⟨rfl, rfl⟩))
    (fun os started H enc _ => busNew_lifted walk os started H enc)
theorem busNew_walk : BusNewWalk := by
  intro H enc W base v0 v1 v2 d0 d1 d2 p0 p1 p2 k0 t0 k1 t1 k2 t2
  obtain ⟨a1, n1, c1, rfl⟩ := okWide_slice (t := 22) Try.underlying22 k0
  obtain ⟨a2, n2, c2, rfl⟩ := okWide_slice (t := 22) Try.underlying22 k1
  obtain ⟨f1, hf1⟩ := t0
  obtain ⟨f2, hf2⟩ := t1
  obtain ⟨l1, hs1, hz1⟩ := opn_bytes (v := .slice a1 n1 c1) hf1
  obtain ⟨l2, hs2, hz2⟩ := opn_bytes (v := .slice a2 n2 c2) hf2
  unfold maxLen at hz1 hz2
  obtain ⟨M, S, rfl, hok, hs, hz⟩ := open_mach k2 t2
  by_cases hc : l1.length ≤ 1024 ∧ l2.length ≤ 1024
  · exact Bu.new_yes l1 l2 _ _ M S W hs1 hs2 hc.1 hc.2 hs.lens hz
  · exact Bu.new_no l1 l2 _ _ M S W hs1 hs2 hz1 hz2 hc hs.lens hz
theorem busNew_holds : Rows.BusNewSaid := busNew_row busNew_walk
end Go.Proofs.Ytldgjapiobpanaa
