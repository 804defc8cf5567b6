/-
  Joined texts.
-/
import Derived.Deep.RegionHeld3
import Derived.Test.YthooknikfachnaaBusQ
import Derived.Test.YthooknikfachnaaBusS
import Derived.Test.YthooknikfachnaaBusT
namespace Go.Proofs.Ythooknikfachnaa
open Go.ChangeShapes Go.WideShapes Go.ChangeAt Go.RowKit
set_option linter.unusedVariables false
set_option maxRecDepth 100000

def sl0 : Sl := ⟨.nilFunc, .nilFunc, .nilFunc, .nilFunc, .nilFunc⟩
/-- Where only what ports keep matters. -/
def fxE (g : Nat) (E : Env) : Fx := ⟨0, g, 0, 0, 0, 0, 0, sl0, E⟩
def EnvM (g : Nat) (E : Env) (W : World) : Prop := Bx W E.mb [pt g 0] ∧ Bx W E.q0 [pt g 0] ∧ Bx W E.w0 [.int .i64 0] ∧ Bx W E.q1 [pt g 0] ∧ Bx W E.w1 [.int .i64 1] ∧ Bx W E.h2 [pt g 41] ∧ Bx W E.h3 [pt g 41] ∧ Bx W E.h10 [pt g 65] ∧ Bx W E.h11 [pt g 65] ∧ Bx W E.h12 [pt g 66] ∧ Bx W E.h13 [pt g 66]
def EnvM.lo (n : Nat) (E : Env) : Prop := n < E.mb ∧ n < E.q0 ∧ n < E.w0 ∧ n < E.q1 ∧ n < E.w1 ∧ n < E.h2 ∧ n < E.h3 ∧ n < E.h10 ∧ n < E.h11 ∧ n < E.h12 ∧ n < E.h13
def mE (n : Nat) : Env := ⟨n + 1, n + 2, n + 3, n + 4, n + 5, n + 6, n + 7, n + 8, n + 9, n + 10, n + 11, 0, fun _ => 0, fun _ => 0⟩
theorem mE_lo (n : Nat) : EnvM.lo n (mE n) := by
  unfold EnvM.lo mE
  refine ⟨?_, ?_, ?_, ?_, ?_, ?_, ?_, ?_, ?_, ?_, ?_⟩ <;> (dsimp only; omega)
def nil64 : List Value := List.replicate 64 .nilFunc
theorem one64 (r w : Nat → Value) (hr : ∀ i, (r i).oneCell' = true) (hw : ∀ i, (w i).oneCell' = true) : ∀ n, ((portsN r w n).toArray).all (·.oneCell') = true
  | 0 => by simp [portsN]
  | n + 1 => by
    have ih := one64 r w hr hw n
    simp only [List.all_toArray, portsN, List.all_append, List.all_cons, List.all_nil, hr, hw, Bool.and_true] at ih ⊢
    exact ih
theorem load_ports {Y : World} {b : Nat} {L : List Value} (hl : L.length = 64) (h : Bx Y b L) : (loadVar 81 ⟨b, 0, none⟩).run Try.prog Y = .ok (.agg L.toArray) Y :=
  run_loadVar_mid Y b 0 81 _ _ h.c Try.underlying81 rfl (info_ports.trans (by rw [hl]))
def mpL (g : Nat) (w : World) : List Value := [fval 81 #[pt (w.heap.size + 2) 0, pt (w.heap.size + 3) 0], mval 58 g 0, fval 81 #[pt (w.heap.size + 4) 0, pt (w.heap.size + 5) 0], .nilFunc, .nilFunc, fval 84 #[pt (w.heap.size + 6) 0], .nilFunc, fval 86 #[pt (w.heap.size + 7) 0], mval 61 g 0, mval 62 g 0, .nilFunc, .nilFunc, fval 63 #[pt (w.heap.size + 1) 0], .nilFunc, fval 64 #[pt (w.heap.size + 1) 0], .nilFunc, mval 65 g 0, mval 66 g 0, .nilFunc, .nilFunc, .nilFunc, fval 84 #[pt (w.heap.size + 8) 0], .nilFunc, fval 86 #[pt (w.heap.size + 9) 0], .nilFunc, fval 84 #[pt (w.heap.size + 10) 0], .nilFunc, fval 86 #[pt (w.heap.size + 11) 0], .nilFunc, mval 67 g 0, .nilFunc, .nilFunc, mval 68 g 0, mval 69 g 0, fval 70 #[pt (w.heap.size + 1) 0], mval 71 g 0, .nilFunc, .nilFunc, .nilFunc, .nilFunc, .nilFunc, .nilFunc, .nilFunc, .nilFunc, .nilFunc, .nilFunc, .nilFunc, .nilFunc, .nilFunc, .nilFunc, .nilFunc, .nilFunc, .nilFunc, .nilFunc, .nilFunc, .nilFunc, .nilFunc, .nilFunc, .nilFunc, .nilFunc, .nilFunc, .nilFunc, .nilFunc, .nilFunc]
theorem mpL_eq (g : Nat) (w : World) : mpL g w = portsN (fxE g (mE w.heap.size)).rdM (fxE g (mE w.heap.size)).wrM 32 := by kernel_rfl
theorem oneR (F : Fx) (i : Nat) : (F.rdM i).oneCell' = true := by unfold Fx.rdM; split <;> rfl
theorem oneW (F : Fx) (i : Nat) : (F.wrM i).oneCell' = true := by unfold Fx.wrM; split <;> rfl
theorem mem_ports (r w : Nat → Value) (v : Value) : ∀ n, v ∈ portsN r w n → ∃ i, v = r i ∨ v = w i
  | 0, h => by simp [portsN] at h
  | n + 1, h => by
    simp only [portsN, List.mem_append, List.mem_cons, List.not_mem_nil, or_false] at h
    rcases h with h | h | h
    · exact mem_ports r w v n h
    · exact ⟨n, Or.inl h⟩
    · exact ⟨n, Or.inr h⟩
theorem mpL_one (g : Nat) (w : World) : ∀ v ∈ mpL g w, v.oneCell' = true := fun v hv => by
  rw [mpL_eq] at hv
  obtain ⟨i, rfl | rfl⟩ := mem_ports _ _ v 32 hv
  · exact oneR _ _
  · exact oneW _ _
theorem mp_keep {W w' : World} {b c : Nat} {v : Value} (h : W.cell? ⟨c, 0, none⟩ = some v ∧ W.there b 0 64) (hb : b < W.heap.size) (hc : c < W.heap.size) (hl : Below W.heap.size W w') : w'.cell? ⟨c, 0, none⟩ = some v ∧ w'.there b 0 64 :=
  ⟨(hl.cell (p := ⟨c, 0, none⟩) hc).trans h.1, Pl.there_old h.2 hl hb⟩
theorem putL_all (L L' : List Value) (h : L'.length = L.length) : putL L 0 L' = L' := by
  have := putL_mid [] L' L [] h
  simpa using this
theorem mpL_len (g : Nat) (w : World) : (mpL g w).length = 64 := rfl
theorem mp_box (g : Nat) (w : World) {Y : World} {b : Nat} (h : Bx Y b nil64) : Bx (Y.setCells b 0 (mpL g w).toArray.toList) b (mpL g w) := by
  have hx := h.puts 0 (mpL g w) (by rw [mpL_len]; simp [nil64])
  rw [putL_all _ _ (by rw [mpL_len]; simp [nil64])] at hx
  exact hx
theorem mp_last {W : World} {n : Nat} {v : Value} {vs : List Value} (h : W.cell? ⟨n + 1, 0, none⟩ = some v ∧ W.there n 0 64) : (W.setCells n 0 vs).cell? ⟨n + 1, 0, none⟩ = some v ∧ (W.setCells n 0 vs).there n 0 64 :=
  ⟨(World.cell?_of_block (heap_sets_far (x := n + 1) (b := n) (by omega) _ _ _)).trans h.1, World.there_setCells h.2 _ _ _⟩
set_option maxHeartbeats 3200000 in
theorem Bu.mports_any (g : Nat) (w : World) : Calls Try.prog 46 #[pt g 0] w fun e w' =>
    e = .returned (.agg (portsN (fxE g (mE w.heap.size)).rdM (fxE g (mE w.heap.size)).wrM 32).toArray) ∧ Below w.heap.size w w' ∧ EnvM g (mE w.heap.size) w' := by
  go_enter Try.func46, Try.ntmps46
  go_wp2
  try simp only [List.append]
  refine wp_region_held_drew (S := fun w' => w'.cell? ⟨w.heap.size + 1, 0, none⟩ = some (pt g 0) ∧ w'.there w.heap.size 0 64) (by kernel_rfl) ⟨by simp, World.there_alloc (Pl.there_new w _ _ 64 _ rfl rfl) _⟩ ?_
  intro hS
  refine wpAnyH_take (i := 0) (oi := { dst := some 7, op := _, type := _, pos := _, after := _, guard := none }) (v := ?_) rfl (by kernel_rfl) (by kernel_rfl) (by kernel_rfl) (fun _ _ _ h => h) (Or.inl ⟨by rfl, ?_⟩) hS ?_
  rotate_left 1
  focus (intro w hSw; (try dsimp only at hSw); go_simp; try (with_reducible rfl))
  simp only [Act.put, List.setIfInBounds_toArray, List.set_cons_zero, List.set_cons_succ]
  refine wpAnyH_take (i := 2) (oi := { dst := some 9, op := _, type := _, pos := _, after := _, guard := none }) (v := ?_) rfl (by kernel_rfl) (by kernel_rfl) (by kernel_rfl) (fun _ _ _ h => h) (Or.inl ⟨by rfl, ?_⟩) hS ?_
  rotate_left 1
  focus (intro w hSw; (try dsimp only at hSw); go_simp; try (with_reducible rfl))
  simp only [Act.put, List.setIfInBounds_toArray, List.set_cons_zero, List.set_cons_succ]
  refine wpAnyH_take (i := 3) (oi := { dst := some 10, op := _, type := _, pos := _, after := _, guard := none }) (v := ?_) rfl (by kernel_rfl) (by kernel_rfl) (by kernel_rfl) (fun _ _ _ h => h) (Or.inl ⟨by rfl, ?_⟩) hS ?_
  rotate_left 1
  focus (intro w hSw; (try dsimp only at hSw); go_simp; try (with_reducible rfl))
  simp only [Act.put, List.setIfInBounds_toArray, List.set_cons_zero, List.set_cons_succ]
  refine wpAnyH_take (i := 5) (oi := { dst := some 12, op := _, type := _, pos := _, after := _, guard := none }) (v := ?_) rfl (by kernel_rfl) (by kernel_rfl) (by kernel_rfl) (fun _ _ _ h => h) (Or.inl ⟨by rfl, ?_⟩) hS ?_
  rotate_left 1
  focus (intro w hSw; (try dsimp only at hSw); go_simp; try (with_reducible rfl))
  simp only [Act.put, List.setIfInBounds_toArray, List.set_cons_zero, List.set_cons_succ]
  refine wpAnyH_take (i := 8) (oi := { dst := some 15, op := _, type := _, pos := _, after := _, guard := none }) (v := ?_) rfl (by kernel_rfl) (by kernel_rfl) (by kernel_rfl) (fun _ _ _ h => h) (Or.inl ⟨by rfl, ?_⟩) hS ?_
  rotate_left 1
  focus (intro w hSw; (try dsimp only at hSw); go_simp; try (with_reducible rfl))
  simp only [Act.put, List.setIfInBounds_toArray, List.set_cons_zero, List.set_cons_succ]
  refine wpAnyH_take (i := 9) (oi := { dst := some 16, op := _, type := _, pos := _, after := _, guard := none }) (v := ?_) rfl (by kernel_rfl) (by kernel_rfl) (by kernel_rfl) (fun _ _ _ h => h) (Or.inl ⟨by rfl, ?_⟩) hS ?_
  rotate_left 1
  focus (intro w hSw; (try dsimp only at hSw); go_simp; try (with_reducible rfl))
  simp only [Act.put, List.setIfInBounds_toArray, List.set_cons_zero, List.set_cons_succ]
  refine wpAnyH_take (i := 10) (oi := { dst := some 17, op := _, type := _, pos := _, after := _, guard := none }) (v := ?_) rfl (by kernel_rfl) (by kernel_rfl) (by kernel_rfl) (fun _ _ _ h => h) (Or.inl ⟨by rfl, ?_⟩) hS ?_
  rotate_left 1
  focus (intro w hSw; (try dsimp only at hSw); go_simp; try (with_reducible rfl))
  simp only [Act.put, List.setIfInBounds_toArray, List.set_cons_zero, List.set_cons_succ]
  refine wpAnyH_take (i := 11) (oi := { dst := some 18, op := _, type := _, pos := _, after := _, guard := none }) (v := ?_) rfl (by kernel_rfl) (by kernel_rfl) (by kernel_rfl) (fun _ _ _ h => h) (Or.inl ⟨by rfl, ?_⟩) hS ?_
  rotate_left 1
  focus (intro w hSw; (try dsimp only at hSw); go_simp; try (with_reducible rfl))
  simp only [Act.put, List.setIfInBounds_toArray, List.set_cons_zero, List.set_cons_succ]
  refine wpAnyH_take (i := 14) (oi := { dst := some 21, op := _, type := _, pos := _, after := _, guard := none }) (v := ?_) rfl (by kernel_rfl) (by kernel_rfl) (by kernel_rfl) (fun _ _ _ h => h) (Or.inl ⟨by rfl, ?_⟩) hS ?_
  rotate_left 1
  focus (intro w hSw; (try dsimp only at hSw); go_simp; try (with_reducible rfl))
  simp only [Act.put, List.setIfInBounds_toArray, List.set_cons_zero, List.set_cons_succ]
  refine wpAnyH_take (i := 15) (oi := { dst := some 22, op := _, type := _, pos := _, after := _, guard := none }) (v := ?_) rfl (by kernel_rfl) (by kernel_rfl) (by kernel_rfl) (fun _ _ _ h => h) (Or.inl ⟨by rfl, ?_⟩) hS ?_
  rotate_left 1
  focus (intro w hSw; (try dsimp only at hSw); go_simp; try (with_reducible rfl))
  simp only [Act.put, List.setIfInBounds_toArray, List.set_cons_zero, List.set_cons_succ]
  refine wpAnyH_take (i := 16) (oi := { dst := some 23, op := _, type := _, pos := _, after := _, guard := none }) (v := ?_) rfl (by kernel_rfl) (by kernel_rfl) (by kernel_rfl) (fun _ _ _ h => h) (Or.inl ⟨by rfl, ?_⟩) hS ?_
  rotate_left 1
  focus (intro w hSw; (try dsimp only at hSw); go_simp; try (with_reducible rfl))
  simp only [Act.put, List.setIfInBounds_toArray, List.set_cons_zero, List.set_cons_succ]
  refine wpAnyH_take (i := 17) (oi := { dst := some 24, op := _, type := _, pos := _, after := _, guard := none }) (v := ?_) rfl (by kernel_rfl) (by kernel_rfl) (by kernel_rfl) (fun _ _ _ h => h) (Or.inl ⟨by rfl, ?_⟩) hS ?_
  rotate_left 1
  focus (intro w hSw; (try dsimp only at hSw); go_simp; try (with_reducible rfl))
  simp only [Act.put, List.setIfInBounds_toArray, List.set_cons_zero, List.set_cons_succ]
  refine wpAnyH_take (i := 20) (oi := { dst := some 27, op := _, type := _, pos := _, after := _, guard := none }) (v := ?_) rfl (by kernel_rfl) (by kernel_rfl) (by kernel_rfl) (fun _ _ _ h => h) (Or.inl ⟨by rfl, ?_⟩) hS ?_
  rotate_left 1
  focus (intro w hSw; (try dsimp only at hSw); go_simp; try (with_reducible rfl))
  simp only [Act.put, List.setIfInBounds_toArray, List.set_cons_zero, List.set_cons_succ]
  refine wpAnyH_take (i := 21) (oi := { dst := some 28, op := _, type := _, pos := _, after := _, guard := none }) (v := ?_) rfl (by kernel_rfl) (by kernel_rfl) (by kernel_rfl) (fun _ _ _ h => h) (Or.inl ⟨by rfl, ?_⟩) hS ?_
  rotate_left 1
  focus (intro w hSw; (try dsimp only at hSw); go_simp; try (with_reducible rfl))
  simp only [Act.put, List.setIfInBounds_toArray, List.set_cons_zero, List.set_cons_succ]
  refine wpAnyH_take (i := 22) (oi := { dst := some 29, op := _, type := _, pos := _, after := _, guard := none }) (v := ?_) rfl (by kernel_rfl) (by kernel_rfl) (by kernel_rfl) (fun _ _ _ h => h) (Or.inl ⟨by rfl, ?_⟩) hS ?_
  rotate_left 1
  focus (intro w hSw; (try dsimp only at hSw); go_simp; try (with_reducible rfl))
  simp only [Act.put, List.setIfInBounds_toArray, List.set_cons_zero, List.set_cons_succ]
  refine wpAnyH_take (i := 23) (oi := { dst := some 30, op := _, type := _, pos := _, after := _, guard := none }) (v := ?_) rfl (by kernel_rfl) (by kernel_rfl) (by kernel_rfl) (fun _ _ _ h => h) (Or.inl ⟨by rfl, ?_⟩) hS ?_
  rotate_left 1
  focus (intro w hSw; (try dsimp only at hSw); go_simp; try (with_reducible rfl))
  simp only [Act.put, List.setIfInBounds_toArray, List.set_cons_zero, List.set_cons_succ]
  refine wpAnyH_take (i := 24) (oi := { dst := some 31, op := _, type := _, pos := _, after := _, guard := none }) (v := ?_) rfl (by kernel_rfl) (by kernel_rfl) (by kernel_rfl) (fun _ _ _ h => h) (Or.inl ⟨by rfl, ?_⟩) hS ?_
  rotate_left 1
  focus (intro w hSw; (try dsimp only at hSw); go_simp; try (with_reducible rfl))
  simp only [Act.put, List.setIfInBounds_toArray, List.set_cons_zero, List.set_cons_succ]
  refine wpAnyH_take (i := 25) (oi := { dst := some 32, op := _, type := _, pos := _, after := _, guard := none }) (v := ?_) rfl (by kernel_rfl) (by kernel_rfl) (by kernel_rfl) (fun _ _ _ h => h) (Or.inl ⟨by rfl, ?_⟩) hS ?_
  rotate_left 1
  focus (intro w hSw; (try dsimp only at hSw); go_simp; try (with_reducible rfl))
  simp only [Act.put, List.setIfInBounds_toArray, List.set_cons_zero, List.set_cons_succ]
  refine wpAnyH_take (i := 26) (oi := { dst := some 33, op := _, type := _, pos := _, after := _, guard := none }) (v := ?_) rfl (by kernel_rfl) (by kernel_rfl) (by kernel_rfl) (fun _ _ _ h => h) (Or.inl ⟨by rfl, ?_⟩) hS ?_
  rotate_left 1
  focus (intro w hSw; (try dsimp only at hSw); go_simp; try (with_reducible rfl))
  simp only [Act.put, List.setIfInBounds_toArray, List.set_cons_zero, List.set_cons_succ]
  refine wpAnyH_take (i := 27) (oi := { dst := some 34, op := _, type := _, pos := _, after := _, guard := none }) (v := ?_) rfl (by kernel_rfl) (by kernel_rfl) (by kernel_rfl) (fun _ _ _ h => h) (Or.inl ⟨by rfl, ?_⟩) hS ?_
  rotate_left 1
  focus (intro w hSw; (try dsimp only at hSw); go_simp; try (with_reducible rfl))
  simp only [Act.put, List.setIfInBounds_toArray, List.set_cons_zero, List.set_cons_succ]
  refine wpAnyH_take (i := 28) (oi := { dst := some 35, op := _, type := _, pos := _, after := _, guard := none }) (v := ?_) rfl (by kernel_rfl) (by kernel_rfl) (by kernel_rfl) (fun _ _ _ h => h) (Or.inl ⟨by rfl, ?_⟩) hS ?_
  rotate_left 1
  focus (intro w hSw; (try dsimp only at hSw); go_simp; try (with_reducible rfl))
  simp only [Act.put, List.setIfInBounds_toArray, List.set_cons_zero, List.set_cons_succ]
  refine wpAnyH_take (i := 29) (oi := { dst := some 36, op := _, type := _, pos := _, after := _, guard := none }) (v := ?_) rfl (by kernel_rfl) (by kernel_rfl) (by kernel_rfl) (fun _ _ _ h => h) (Or.inl ⟨by rfl, ?_⟩) hS ?_
  rotate_left 1
  focus (intro w hSw; (try dsimp only at hSw); go_simp; try (with_reducible rfl))
  simp only [Act.put, List.setIfInBounds_toArray, List.set_cons_zero, List.set_cons_succ]
  refine wpAnyH_take (i := 30) (oi := { dst := some 37, op := _, type := _, pos := _, after := _, guard := none }) (v := ?_) rfl (by kernel_rfl) (by kernel_rfl) (by kernel_rfl) (fun _ _ _ h => h) (Or.inl ⟨by rfl, ?_⟩) hS ?_
  rotate_left 1
  focus (intro w hSw; (try dsimp only at hSw); go_simp; try (with_reducible rfl))
  simp only [Act.put, List.setIfInBounds_toArray, List.set_cons_zero, List.set_cons_succ]
  refine wpAnyH_take (i := 31) (oi := { dst := some 38, op := _, type := _, pos := _, after := _, guard := none }) (v := ?_) rfl (by kernel_rfl) (by kernel_rfl) (by kernel_rfl) (fun _ _ _ h => h) (Or.inl ⟨by rfl, ?_⟩) hS ?_
  rotate_left 1
  focus (intro w hSw; (try dsimp only at hSw); go_simp; try (with_reducible rfl))
  simp only [Act.put, List.setIfInBounds_toArray, List.set_cons_zero, List.set_cons_succ]
  refine wpAnyH_take (i := 32) (oi := { dst := some 39, op := _, type := _, pos := _, after := _, guard := none }) (v := ?_) rfl (by kernel_rfl) (by kernel_rfl) (by kernel_rfl) (fun _ _ _ h => h) (Or.inl ⟨by rfl, ?_⟩) hS ?_
  rotate_left 1
  focus (intro w hSw; (try dsimp only at hSw); go_simp; try (with_reducible rfl))
  simp only [Act.put, List.setIfInBounds_toArray, List.set_cons_zero, List.set_cons_succ]
  refine wpAnyH_take (i := 33) (oi := { dst := some 40, op := _, type := _, pos := _, after := _, guard := none }) (v := ?_) rfl (by kernel_rfl) (by kernel_rfl) (by kernel_rfl) (fun _ _ _ h => h) (Or.inl ⟨by rfl, ?_⟩) hS ?_
  rotate_left 1
  focus (intro w hSw; (try dsimp only at hSw); go_simp; try (with_reducible rfl))
  simp only [Act.put, List.setIfInBounds_toArray, List.set_cons_zero, List.set_cons_succ]
  refine wpAnyH_take (i := 34) (oi := { dst := some 41, op := _, type := _, pos := _, after := _, guard := none }) (v := ?_) rfl (by kernel_rfl) (by kernel_rfl) (by kernel_rfl) (fun _ _ _ h => h) (Or.inl ⟨by rfl, ?_⟩) hS ?_
  rotate_left 1
  focus (intro w hSw; (try dsimp only at hSw); go_simp; try (with_reducible rfl))
  simp only [Act.put, List.setIfInBounds_toArray, List.set_cons_zero, List.set_cons_succ]
  refine wpAnyH_take (i := 35) (oi := { dst := some 42, op := _, type := _, pos := _, after := _, guard := none }) (v := ?_) rfl (by kernel_rfl) (by kernel_rfl) (by kernel_rfl) (fun _ _ _ h => h) (Or.inl ⟨by rfl, ?_⟩) hS ?_
  rotate_left 1
  focus (intro w hSw; (try dsimp only at hSw); go_simp; try (with_reducible rfl))
  simp only [Act.put, List.setIfInBounds_toArray, List.set_cons_zero, List.set_cons_succ]
  refine wpAnyH_take (i := 36) (oi := { dst := some 43, op := _, type := _, pos := _, after := _, guard := none }) (v := ?_) rfl (by kernel_rfl) (by kernel_rfl) (by kernel_rfl) (fun _ _ _ h => h) (Or.inl ⟨by rfl, ?_⟩) hS ?_
  rotate_left 1
  focus (intro w hSw; (try dsimp only at hSw); go_simp; try (with_reducible rfl))
  simp only [Act.put, List.setIfInBounds_toArray, List.set_cons_zero, List.set_cons_succ]
  refine wpAnyH_take (i := 39) (oi := { dst := some 46, op := _, type := _, pos := _, after := _, guard := none }) (v := ?_) rfl (by kernel_rfl) (by kernel_rfl) (by kernel_rfl) (fun _ _ _ h => h) (Or.inl ⟨by rfl, ?_⟩) hS ?_
  rotate_left 1
  focus (intro w hSw; (try dsimp only at hSw); go_simp; try (with_reducible rfl))
  simp only [Act.put, List.setIfInBounds_toArray, List.set_cons_zero, List.set_cons_succ]
  refine wpAnyH_take (i := 40) (oi := { dst := some 47, op := _, type := _, pos := _, after := _, guard := none }) (v := ?_) rfl (by kernel_rfl) (by kernel_rfl) (by kernel_rfl) (fun _ _ _ h => h) (Or.inl ⟨by rfl, ?_⟩) hS ?_
  rotate_left 1
  focus (intro w hSw; (try dsimp only at hSw); go_simp; try (with_reducible rfl))
  simp only [Act.put, List.setIfInBounds_toArray, List.set_cons_zero, List.set_cons_succ]
  refine wpAnyH_take (i := 41) (oi := { dst := some 48, op := _, type := _, pos := _, after := _, guard := none }) (v := ?_) rfl (by kernel_rfl) (by kernel_rfl) (by kernel_rfl) (fun _ _ _ h => h) (Or.inl ⟨by rfl, ?_⟩) hS ?_
  rotate_left 1
  focus (intro w hSw; (try dsimp only at hSw); go_simp; try (with_reducible rfl))
  simp only [Act.put, List.setIfInBounds_toArray, List.set_cons_zero, List.set_cons_succ]
  refine wpAnyH_take (i := 44) (oi := { dst := some 51, op := _, type := _, pos := _, after := _, guard := none }) (v := ?_) rfl (by kernel_rfl) (by kernel_rfl) (by kernel_rfl) (fun _ _ _ h => h) (Or.inl ⟨by rfl, ?_⟩) hS ?_
  rotate_left 1
  focus (intro w hSw; (try dsimp only at hSw); go_simp; try (with_reducible rfl))
  simp only [Act.put, List.setIfInBounds_toArray, List.set_cons_zero, List.set_cons_succ]
  refine wpAnyH_take (i := 45) (oi := { dst := some 52, op := _, type := _, pos := _, after := _, guard := none }) (v := ?_) rfl (by kernel_rfl) (by kernel_rfl) (by kernel_rfl) (fun _ _ _ h => h) (Or.inl ⟨by rfl, ?_⟩) hS ?_
  rotate_left 1
  focus (intro w hSw; (try dsimp only at hSw); go_simp; try (with_reducible rfl))
  simp only [Act.put, List.setIfInBounds_toArray, List.set_cons_zero, List.set_cons_succ]
  refine wpAnyH_take (i := 46) (oi := { dst := some 53, op := _, type := _, pos := _, after := _, guard := none }) (v := ?_) rfl (by kernel_rfl) (by kernel_rfl) (by kernel_rfl) (fun _ _ _ h => h) (Or.inl ⟨by rfl, ?_⟩) hS ?_
  rotate_left 1
  focus (intro w hSw; (try dsimp only at hSw); go_simp; try (with_reducible rfl))
  simp only [Act.put, List.setIfInBounds_toArray, List.set_cons_zero, List.set_cons_succ]
  refine wpAnyH_take (i := 49) (oi := { dst := some 56, op := _, type := _, pos := _, after := _, guard := none }) (v := ?_) rfl (by kernel_rfl) (by kernel_rfl) (by kernel_rfl) (fun _ _ _ h => h) (Or.inl ⟨by rfl, ?_⟩) hS ?_
  rotate_left 1
  focus (intro w hSw; (try dsimp only at hSw); go_simp; try (with_reducible rfl))
  simp only [Act.put, List.setIfInBounds_toArray, List.set_cons_zero, List.set_cons_succ]
  refine wpAnyH_take (i := 50) (oi := { dst := some 57, op := _, type := _, pos := _, after := _, guard := none }) (v := ?_) rfl (by kernel_rfl) (by kernel_rfl) (by kernel_rfl) (fun _ _ _ h => h) (Or.inl ⟨by rfl, ?_⟩) hS ?_
  rotate_left 1
  focus (intro w hSw; (try dsimp only at hSw); go_simp; try (with_reducible rfl))
  simp only [Act.put, List.setIfInBounds_toArray, List.set_cons_zero, List.set_cons_succ]
  refine wpAnyH_take (i := 51) (oi := { dst := some 58, op := _, type := _, pos := _, after := _, guard := none }) (v := ?_) rfl (by kernel_rfl) (by kernel_rfl) (by kernel_rfl) (fun _ _ _ h => h) (Or.inl ⟨by rfl, ?_⟩) hS ?_
  rotate_left 1
  focus (intro w hSw; (try dsimp only at hSw); go_simp; try (with_reducible rfl))
  simp only [Act.put, List.setIfInBounds_toArray, List.set_cons_zero, List.set_cons_succ]
  refine wpAnyH_take (i := 54) (oi := { dst := some 61, op := _, type := _, pos := _, after := _, guard := none }) (v := ?_) rfl (by kernel_rfl) (by kernel_rfl) (by kernel_rfl) (fun _ _ _ h => h) (Or.inl ⟨by rfl, ?_⟩) hS ?_
  rotate_left 1
  focus (intro w hSw; (try dsimp only at hSw); go_simp; try (with_reducible rfl))
  simp only [Act.put, List.setIfInBounds_toArray, List.set_cons_zero, List.set_cons_succ]
  refine wpAnyH_take (i := 55) (oi := { dst := some 62, op := _, type := _, pos := _, after := _, guard := none }) (v := ?_) rfl (by kernel_rfl) (by kernel_rfl) (by kernel_rfl) (fun _ _ _ h => h) (Or.inl ⟨by rfl, ?_⟩) hS ?_
  rotate_left 1
  focus (intro w hSw; (try dsimp only at hSw); go_simp; try (with_reducible rfl))
  simp only [Act.put, List.setIfInBounds_toArray, List.set_cons_zero, List.set_cons_succ]
  refine wpAnyH_take (i := 56) (oi := { dst := some 63, op := _, type := _, pos := _, after := _, guard := none }) (v := ?_) rfl (by kernel_rfl) (by kernel_rfl) (by kernel_rfl) (fun _ _ _ h => h) (Or.inl ⟨by rfl, ?_⟩) hS ?_
  rotate_left 1
  focus (intro w hSw; (try dsimp only at hSw); go_simp; try (with_reducible rfl))
  simp only [Act.put, List.setIfInBounds_toArray, List.set_cons_zero, List.set_cons_succ]
  refine wpAnyH_take (i := 57) (oi := { dst := some 64, op := _, type := _, pos := _, after := _, guard := none }) (v := ?_) rfl (by kernel_rfl) (by kernel_rfl) (by kernel_rfl) (fun _ _ _ h => h) (Or.inl ⟨by rfl, ?_⟩) hS ?_
  rotate_left 1
  focus (intro w hSw; (try dsimp only at hSw); go_simp; try (with_reducible rfl))
  simp only [Act.put, List.setIfInBounds_toArray, List.set_cons_zero, List.set_cons_succ]
  refine wpAnyH_take (i := 58) (oi := { dst := some 65, op := _, type := _, pos := _, after := _, guard := none }) (v := ?_) rfl (by kernel_rfl) (by kernel_rfl) (by kernel_rfl) (fun _ _ _ h => h) (Or.inl ⟨by rfl, ?_⟩) hS ?_
  rotate_left 1
  focus (intro w hSw; (try dsimp only at hSw); go_simp; try (with_reducible rfl))
  simp only [Act.put, List.setIfInBounds_toArray, List.set_cons_zero, List.set_cons_succ]
  refine wpAnyH_take (i := 59) (oi := { dst := some 66, op := _, type := _, pos := _, after := _, guard := none }) (v := ?_) rfl (by kernel_rfl) (by kernel_rfl) (by kernel_rfl) (fun _ _ _ h => h) (Or.inl ⟨by rfl, ?_⟩) hS ?_
  rotate_left 1
  focus (intro w hSw; (try dsimp only at hSw); go_simp; try (with_reducible rfl))
  simp only [Act.put, List.setIfInBounds_toArray, List.set_cons_zero, List.set_cons_succ]
  refine wpAnyH_take (i := 60) (oi := { dst := some 67, op := _, type := _, pos := _, after := _, guard := none }) (v := ?_) rfl (by kernel_rfl) (by kernel_rfl) (by kernel_rfl) (fun _ _ _ h => h) (Or.inl ⟨by rfl, ?_⟩) hS ?_
  rotate_left 1
  focus (intro w hSw; (try dsimp only at hSw); go_simp; try (with_reducible rfl))
  simp only [Act.put, List.setIfInBounds_toArray, List.set_cons_zero, List.set_cons_succ]
  refine wpAnyH_take (i := 61) (oi := { dst := some 68, op := _, type := _, pos := _, after := _, guard := none }) (v := ?_) rfl (by kernel_rfl) (by kernel_rfl) (by kernel_rfl) (fun _ _ _ h => h) (Or.inl ⟨by rfl, ?_⟩) hS ?_
  rotate_left 1
  focus (intro w hSw; (try dsimp only at hSw); go_simp; try (with_reducible rfl))
  simp only [Act.put, List.setIfInBounds_toArray, List.set_cons_zero, List.set_cons_succ]
  refine wpAnyH_take (i := 62) (oi := { dst := some 69, op := _, type := _, pos := _, after := _, guard := none }) (v := ?_) rfl (by kernel_rfl) (by kernel_rfl) (by kernel_rfl) (fun _ _ _ h => h) (Or.inl ⟨by rfl, ?_⟩) hS ?_
  rotate_left 1
  focus (intro w hSw; (try dsimp only at hSw); go_simp; try (with_reducible rfl))
  simp only [Act.put, List.setIfInBounds_toArray, List.set_cons_zero, List.set_cons_succ]
  refine wpAnyH_take (i := 63) (oi := { dst := some 70, op := _, type := _, pos := _, after := _, guard := none }) (v := ?_) rfl (by kernel_rfl) (by kernel_rfl) (by kernel_rfl) (fun _ _ _ h => h) (Or.inl ⟨by rfl, ?_⟩) hS ?_
  rotate_left 1
  focus (intro w hSw; (try dsimp only at hSw); go_simp; try (with_reducible rfl))
  simp only [Act.put, List.setIfInBounds_toArray, List.set_cons_zero, List.set_cons_succ]
  refine wpAnyH_take (i := 64) (oi := { dst := some 71, op := _, type := _, pos := _, after := _, guard := none }) (v := ?_) rfl (by kernel_rfl) (by kernel_rfl) (by kernel_rfl) (fun _ _ _ h => h) (Or.inl ⟨by rfl, ?_⟩) hS ?_
  rotate_left 1
  focus (intro w hSw; (try dsimp only at hSw); go_simp; try (with_reducible rfl))
  simp only [Act.put, List.setIfInBounds_toArray, List.set_cons_zero, List.set_cons_succ]
  refine wpAnyH_take (i := 65) (oi := { dst := some 72, op := _, type := _, pos := _, after := _, guard := none }) (v := ?_) rfl (by kernel_rfl) (by kernel_rfl) (by kernel_rfl) (fun _ _ _ h => h) (Or.inl ⟨by rfl, ?_⟩) hS ?_
  rotate_left 1
  focus (intro w hSw; (try dsimp only at hSw); go_simp; try (with_reducible rfl))
  simp only [Act.put, List.setIfInBounds_toArray, List.set_cons_zero, List.set_cons_succ]
  refine wpAnyH_ready (rs := [1]) (by kernel_rfl) (by simp) ?_
  refine AllReadyH.cons (o := { dst := some 8, op := _, type := _, pos := _, after := _, guard := none }) rfl (fun K hK => ?_) AllReadyH.nil
  go_simp
  go_at_call 57
  refine (Bu.pad_n g _ _).mono ?_
  rintro e w1 ⟨rfl, rfl⟩
  try go_wp2_with fail
  refine hK.out _ _ (mp_keep hS (by first | (simp; done) | (simp; omega)) (by first | (simp; done) | (simp; omega)) (stA (stA (st0 _) _) _)) (fun hS' => ?_)
  clear hK K hS
  have hS := hS'
  clear hS'
  try simp only [Act.put, List.setIfInBounds_toArray, List.set_cons_zero, List.set_cons_succ]
  refine wpAnyH_take (i := 4) (oi := { dst := some 11, op := _, type := _, pos := _, after := _, guard := none }) (v := ?_) rfl (by kernel_rfl) (by kernel_rfl) (by kernel_rfl) (fun _ _ _ h => h) (Or.inl ⟨by rfl, ?_⟩) hS ?_
  rotate_left 1
  focus (intro w hSw; (try dsimp only at hSw); go_simp; try (with_reducible rfl))
  simp only [Act.put, List.setIfInBounds_toArray, List.set_cons_zero, List.set_cons_succ]
  refine wpAnyH_ready (rs := [6]) (by kernel_rfl) (by simp) ?_
  refine AllReadyH.cons (o := { dst := some 13, op := _, type := _, pos := _, after := _, guard := none }) rfl (fun K hK => ?_) AllReadyH.nil
  go_simp
  go_at_call 57
  refine (Bu.pad_n g _ _).mono ?_
  rintro e w1 ⟨rfl, rfl⟩
  try go_wp2_with fail
  refine hK.out _ _ (mp_keep hS (by first | (simp; done) | (simp; omega)) (by first | (simp; done) | (simp; omega)) (stA (stA (st0 _) _) _)) (fun hS' => ?_)
  clear hK K hS
  have hS := hS'
  clear hS'
  try simp only [Act.put, List.setIfInBounds_toArray, List.set_cons_zero, List.set_cons_succ]
  refine wpAnyH_take (i := 7) (oi := { dst := some 14, op := _, type := _, pos := _, after := _, guard := none }) (v := ?_) rfl (by kernel_rfl) (by kernel_rfl) (by kernel_rfl) (fun _ _ _ h => h) (Or.inl ⟨by rfl, ?_⟩) hS ?_
  rotate_left 1
  focus (intro w hSw; (try dsimp only at hSw); go_simp; try (with_reducible rfl))
  simp only [Act.put, List.setIfInBounds_toArray, List.set_cons_zero, List.set_cons_succ]
  refine wpAnyH_ready (rs := [12]) (by kernel_rfl) (by simp) ?_
  refine AllReadyH.cons (o := { dst := some 19, op := _, type := _, pos := _, after := _, guard := none }) rfl (fun K hK => ?_) AllReadyH.nil
  go_simp
  go_at_call 59
  refine (Bu.high_n g _ _).mono ?_
  rintro e w1 ⟨rfl, rfl⟩
  try go_wp2_with fail
  refine hK.out _ _ (mp_keep hS (by first | (simp; done) | (simp; omega)) (by first | (simp; done) | (simp; omega)) (stA (st0 _) _)) (fun hS' => ?_)
  clear hK K hS
  have hS := hS'
  clear hS'
  try simp only [Act.put, List.setIfInBounds_toArray, List.set_cons_zero, List.set_cons_succ]
  refine wpAnyH_take (i := 13) (oi := { dst := some 20, op := _, type := _, pos := _, after := _, guard := none }) (v := ?_) rfl (by kernel_rfl) (by kernel_rfl) (by kernel_rfl) (fun _ _ _ h => h) (Or.inl ⟨by rfl, ?_⟩) hS ?_
  rotate_left 1
  focus (intro w hSw; (try dsimp only at hSw); go_simp; try (with_reducible rfl))
  simp only [Act.put, List.setIfInBounds_toArray, List.set_cons_zero, List.set_cons_succ]
  refine wpAnyH_ready (rs := [18]) (by kernel_rfl) (by simp) ?_
  refine AllReadyH.cons (o := { dst := some 25, op := _, type := _, pos := _, after := _, guard := none }) rfl (fun K hK => ?_) AllReadyH.nil
  go_simp
  go_at_call 60
  refine (Bu.low_n g _ _).mono ?_
  rintro e w1 ⟨rfl, rfl⟩
  try go_wp2_with fail
  refine hK.out _ _ (mp_keep hS (by first | (simp; done) | (simp; omega)) (by first | (simp; done) | (simp; omega)) (stA (st0 _) _)) (fun hS' => ?_)
  clear hK K hS
  have hS := hS'
  clear hS'
  try simp only [Act.put, List.setIfInBounds_toArray, List.set_cons_zero, List.set_cons_succ]
  refine wpAnyH_take (i := 19) (oi := { dst := some 26, op := _, type := _, pos := _, after := _, guard := none }) (v := ?_) rfl (by kernel_rfl) (by kernel_rfl) (by kernel_rfl) (fun _ _ _ h => h) (Or.inl ⟨by rfl, ?_⟩) hS ?_
  rotate_left 1
  focus (intro w hSw; (try dsimp only at hSw); go_simp; try (with_reducible rfl))
  simp only [Act.put, List.setIfInBounds_toArray, List.set_cons_zero, List.set_cons_succ]
  refine wpAnyH_ready (rs := [37]) (by kernel_rfl) (by simp) ?_
  refine AllReadyH.cons (o := { dst := some 44, op := _, type := _, pos := _, after := _, guard := none }) rfl (fun K hK => ?_) AllReadyH.nil
  go_simp
  go_at_call 59
  refine (Bu.high_n g _ _).mono ?_
  rintro e w1 ⟨rfl, rfl⟩
  try go_wp2_with fail
  refine hK.out _ _ (mp_keep hS (by first | (simp; done) | (simp; omega)) (by first | (simp; done) | (simp; omega)) (stA (st0 _) _)) (fun hS' => ?_)
  clear hK K hS
  have hS := hS'
  clear hS'
  try simp only [Act.put, List.setIfInBounds_toArray, List.set_cons_zero, List.set_cons_succ]
  refine wpAnyH_take (i := 38) (oi := { dst := some 45, op := _, type := _, pos := _, after := _, guard := none }) (v := ?_) rfl (by kernel_rfl) (by kernel_rfl) (by kernel_rfl) (fun _ _ _ h => h) (Or.inl ⟨by rfl, ?_⟩) hS ?_
  rotate_left 1
  focus (intro w hSw; (try dsimp only at hSw); go_simp; try (with_reducible rfl))
  simp only [Act.put, List.setIfInBounds_toArray, List.set_cons_zero, List.set_cons_succ]
  refine wpAnyH_ready (rs := [42]) (by kernel_rfl) (by simp) ?_
  refine AllReadyH.cons (o := { dst := some 49, op := _, type := _, pos := _, after := _, guard := none }) rfl (fun K hK => ?_) AllReadyH.nil
  go_simp
  go_at_call 60
  refine (Bu.low_n g _ _).mono ?_
  rintro e w1 ⟨rfl, rfl⟩
  try go_wp2_with fail
  refine hK.out _ _ (mp_keep hS (by first | (simp; done) | (simp; omega)) (by first | (simp; done) | (simp; omega)) (stA (st0 _) _)) (fun hS' => ?_)
  clear hK K hS
  have hS := hS'
  clear hS'
  try simp only [Act.put, List.setIfInBounds_toArray, List.set_cons_zero, List.set_cons_succ]
  refine wpAnyH_take (i := 43) (oi := { dst := some 50, op := _, type := _, pos := _, after := _, guard := none }) (v := ?_) rfl (by kernel_rfl) (by kernel_rfl) (by kernel_rfl) (fun _ _ _ h => h) (Or.inl ⟨by rfl, ?_⟩) hS ?_
  rotate_left 1
  focus (intro w hSw; (try dsimp only at hSw); go_simp; try (with_reducible rfl))
  simp only [Act.put, List.setIfInBounds_toArray, List.set_cons_zero, List.set_cons_succ]
  refine wpAnyH_ready (rs := [47]) (by kernel_rfl) (by simp) ?_
  refine AllReadyH.cons (o := { dst := some 54, op := _, type := _, pos := _, after := _, guard := none }) rfl (fun K hK => ?_) AllReadyH.nil
  go_simp
  go_at_call 59
  refine (Bu.high_n g _ _).mono ?_
  rintro e w1 ⟨rfl, rfl⟩
  try go_wp2_with fail
  refine hK.out _ _ (mp_keep hS (by first | (simp; done) | (simp; omega)) (by first | (simp; done) | (simp; omega)) (stA (st0 _) _)) (fun hS' => ?_)
  clear hK K hS
  have hS := hS'
  clear hS'
  try simp only [Act.put, List.setIfInBounds_toArray, List.set_cons_zero, List.set_cons_succ]
  refine wpAnyH_take (i := 48) (oi := { dst := some 55, op := _, type := _, pos := _, after := _, guard := none }) (v := ?_) rfl (by kernel_rfl) (by kernel_rfl) (by kernel_rfl) (fun _ _ _ h => h) (Or.inl ⟨by rfl, ?_⟩) hS ?_
  rotate_left 1
  focus (intro w hSw; (try dsimp only at hSw); go_simp; try (with_reducible rfl))
  simp only [Act.put, List.setIfInBounds_toArray, List.set_cons_zero, List.set_cons_succ]
  refine wpAnyH_ready (rs := [52]) (by kernel_rfl) (by simp) ?_
  refine AllReadyH.cons (o := { dst := some 59, op := _, type := _, pos := _, after := _, guard := none }) rfl (fun K hK => ?_) AllReadyH.nil
  go_simp
  go_at_call 60
  refine (Bu.low_n g _ _).mono ?_
  rintro e w1 ⟨rfl, rfl⟩
  try go_wp2_with fail
  refine hK.out _ _ (mp_keep hS (by first | (simp; done) | (simp; omega)) (by first | (simp; done) | (simp; omega)) (stA (st0 _) _)) (fun hS' => ?_)
  clear hK K hS
  have hS := hS'
  clear hS'
  try simp only [Act.put, List.setIfInBounds_toArray, List.set_cons_zero, List.set_cons_succ]
  refine wpAnyH_take (i := 53) (oi := { dst := some 60, op := _, type := _, pos := _, after := _, guard := none }) (v := ?_) rfl (by kernel_rfl) (by kernel_rfl) (by kernel_rfl) (fun _ _ _ h => h) (Or.inl ⟨by rfl, ?_⟩) hS ?_
  rotate_left 1
  focus (intro w hSw; (try dsimp only at hSw); go_simp; try (with_reducible rfl))
  simp only [Act.put, List.setIfInBounds_toArray, List.set_cons_zero, List.set_cons_succ]
  refine wpAnyH_take (i := 66) (oi := { dst := some 73, op := _, type := _, pos := _, after := _, guard := none }) (v := ?_) rfl (by kernel_rfl) (by kernel_rfl) (by kernel_rfl) (fun _ _ _ h => h) (Or.inl ⟨by rfl, ?_⟩) hS ?_
  rotate_left 1
  focus (intro w hSw; (try dsimp only at hSw); go_simp; try (with_reducible rfl))
  simp only [Act.put, List.setIfInBounds_toArray, List.set_cons_zero, List.set_cons_succ]
  refine wpAnyH_ready (rs := [67]) (by kernel_rfl) (by simp) ?_
  refine AllReadyH.cons (o := { dst := none, op := _, type := _, pos := _, after := _, guard := none }) rfl (fun K hK => ?_) AllReadyH.nil
  refine step_store_mid rfl 81 _ _ rfl w.heap.size 0 (mpL g w).toArray rfl rfl hS.2 info_ports (all_oneCell_toArray (mpL_one g w)) ?_
  refine hK.out _ _ (mp_last hS) (fun _ => ?_)
  clear hK K
  refine wpAnyH_done (by kernel_rfl) ?_ _
  refine Pl.cutE (fun Y => Below w.heap.size w Y ∧ Bx Y w.heap.size (mpL g w) ∧ EnvM g (mE w.heap.size) Y) ⟨?_, ?_, ?_⟩ ?_
  · refine Bl.puts ?_ (Nat.le_refl _) _
    repeat' (first | exact st0 _ | refine Below.drew ?_ | refine stA ?_ _)
  · refine mp_box g w ?_
    repeat' (first | exact Bx.new _ nil64 _ rfl | refine Bx.drew ?_ | refine Bx.over ?_ _)
  · refine ⟨?_, ?_, ?_, ?_, ?_, ?_, ?_, ?_, ?_, ?_, ?_⟩
    all_goals refine Bx.fars ?_ (by show w.heap.size ≠ w.heap.size + _; omega) 0 _
    all_goals repeat' (first | exact Bx.new _ _ _ (by simp; rfl) | refine Bx.drew ?_ | refine Bx.over ?_ _)
  rintro Y ⟨hY1, hY2, hY3⟩
  have HY1 := hid hY1
  have HY2 := hid hY2
  have HY3 := hid hY3
  clear hY1 hY2 hY3 hS
  go_wp2
  rw [mpL_eq] at HY2
  exact bodyPost_ret (v := .agg _) (by simp only [results, Try.results46]; simp; exact Pl.res (load_ports (by rw [portsN_len]) HY2.out)) rfl ⟨rfl, HY1.out, HY3.out⟩
def apW (n g i k : Nat) : Value := if k < i then fval 89 #[pt (n + 3 + 2 * k) 0, pt (n + 4 + 2 * k) 0] else if k = 24 then fval 73 #[pt n 0] else .nilFunc
def apR (g k : Nat) : Value := if k = 24 then mval 72 g 0 else .nilFunc
theorem portsN_congr (r w w' : Nat → Value) : ∀ n, (∀ k, k < n → w k = w' k) → portsN r w n = portsN r w' n
  | 0, _ => rfl
  | n + 1, h => by rw [portsN, portsN, portsN_congr r w w' n (fun k hk => h k (by omega)), h n (by omega)]
theorem portsN_set (r w : Nat → Value) (v : Value) (i : Nat) : ∀ n, i < n → (portsN r w n).set (2 * i + 1) v = portsN r (fun k => if k = i then v else w k) n
  | 0, h => by omega
  | n + 1, h => by
    rw [portsN, portsN]
    by_cases e : i < n
    · rw [List.set_append_left _ _ (by rw [portsN_len]; omega), portsN_set r w v i n e]
      rw [if_neg (by omega)]
    · obtain rfl : i = n := by omega
      rw [List.set_append_right _ _ (by rw [portsN_len]; omega), portsN_len, show 2 * i + 1 - 2 * i = 1 by omega, if_pos rfl]
      have : portsN r (fun k => if k = i then v else w k) i = portsN r w i := portsN_congr r _ _ i (fun k hk => if_neg (by omega))
      rw [this]
      rfl
theorem apW_next (n g i : Nat) (hi : i < 24) : (fun k => if k = i then fval 89 #[pt (n + 3 + 2 * i) 0, pt (n + 4 + 2 * i) 0] else apW n g i k) = apW n g (i + 1) := by
  funext k
  unfold apW
  by_cases e : k = i
  · subst e; rw [if_pos rfl, if_pos (by omega)]
  · rw [if_neg e]
    by_cases e2 : k < i
    · rw [if_pos e2, if_pos (by omega)]
    · simp only [if_neg e2, if_neg (show ¬ k < i + 1 by omega)]
def apL (n g i : Nat) : List Value := portsN (apR g) (apW n g i) 32
theorem apL_len (n g i : Nat) : (apL n g i).length = 64 := portsN_len _ _ 32
/-- In the midst of making them. -/
structure AP (w : World) (g i : Nat) (Y : World) : Prop where
  low : Below w.heap.size w Y
  sz : Y.heap.size = w.heap.size + 3 + 2 * i
  b : Bx Y w.heap.size [pt g 0]
  r : Bx Y (w.heap.size + 1) (List.replicate 64 .nilFunc)
  l : Bx Y (w.heap.size + 2) (apL w.heap.size g i)
  sb : ∀ k, k < i → Bx Y (w.heap.size + 3 + 2 * k) [pt g 0] ∧ Bx Y (w.heap.size + 4 + 2 * k) [.int .i64 k]
theorem AP.next {w Y : World} {g i : Nat} (h : AP w g i Y) (hi : i < 24) (o1 o2 : TypeId) :
    AP w g (i + 1) (((Y.alloc (.cells #[pt g 0] o1)).alloc (.cells #[.int .i64 (i : Int)] o2)).setCell ⟨w.heap.size + 2, 2 * i + 1, none⟩ (fval 89 #[pt (w.heap.size + 3 + 2 * i) 0, pt (w.heap.size + 4 + 2 * i) 0])) := by
  have hz := h.sz
  have hlow := stA (stA h.low (.cells #[pt g 0] o1)) (.cells #[.int .i64 (i : Int)] o2)
  refine ⟨hlow.setCell (Nat.le_add_right _ _) _, ?_, ((h.b.over _).over _).far (by omega) _, ((h.r.over _).over _).far (by omega) _, ?_, fun k hk => ?_⟩
  · rw [size_set]; simp; omega
  · have := ((h.l.over (.cells #[pt g 0] o1)).over (.cells #[.int .i64 (i : Int)] o2)).set (2 * i + 1) (fval 89 #[pt (w.heap.size + 3 + 2 * i) 0, pt (w.heap.size + 4 + 2 * i) 0]) (by rw [apL_len]; omega)
    unfold apL at this
    rw [portsN_set _ _ _ i 32 (by omega), apW_next _ _ _ hi] at this
    exact this
  · by_cases e : k < i
    · obtain ⟨h1, h2⟩ := h.sb k e
      exact ⟨((h1.over _).over _).far (by omega) _, ((h2.over _).over _).far (by omega) _⟩
    · obtain rfl : k = i := by omega
      refine ⟨((Bx.new Y [pt g 0] o1 (by omega)).over _).far (by omega) _, (Bx.new (Y.alloc (.cells #[pt g 0] o1)) [.int .i64 (k : Int)] o2 (by simp; omega)).far (by omega) _⟩
theorem load64 {Y : World} {b : Nat} {L : List Value} (hl : L.length = 64) (h : Bx Y b L) : (loadVar 81 ⟨b, 0, none⟩).run Try.prog Y = .ok (.agg L.toArray) Y :=
  run_loadVar_mid Y b 0 81 _ _ h.c Try.underlying81 rfl (info_ports.trans (by rw [hl]))
theorem ap_one (n g i : Nat) : (apL n g i).toArray.all (·.oneCell') = true := by
  refine all_oneCell_toArray (fun v hv => ?_)
  have key : ∀ m, v ∈ portsN (apR g) (apW n g i) m → v.oneCell' = true := by
    intro m
    induction m with
    | zero => intro h; simp [portsN] at h
    | succ m ih =>
      intro h
      simp only [portsN, List.mem_append, List.mem_cons, List.not_mem_nil, or_false] at h
      rcases h with h | rfl | rfl
      · exact ih h
      · unfold apR; split <;> rfl
      · unfold apW; split
        · rfl
        · split <;> rfl
  exact key 32 hv
theorem AP.next' {w Y : World} {g i : Nat} (h : AP w g i Y) (hi : i < 24) (o1 o2 : TypeId) :
    AP w g (i + 1) (((Y.alloc (.cells #[pt g 0] o1)).alloc (.cells #[.int .i64 (i : Int)] o2)).setCell ⟨w.heap.size + 1 + 1, i * 2 + 1, none⟩ (fval 89 #[pt Y.heap.size 0, pt (Y.heap.size + 1) 0])) := by
  have hn := h.next hi o1 o2
  rw [show w.heap.size + 4 + 2 * i = w.heap.size + 3 + 2 * i + 1 by omega, ← h.sz, show 2 * i + 1 = i * 2 + 1 by omega] at hn
  exact hn
theorem ap_two {W w1 : World} {a b : Obj} {x o : Nat} {v : Value} (hw : w1 = (W.alloc a).alloc b) (hc : W.cell? ⟨x, o, none⟩ = some v) (hf : W.frozen? ⟨x, o, none⟩ = false) (hz : x < W.heap.size) : w1.cell? ⟨x, o, none⟩ = some v ∧ w1.frozen? ⟨x, o, none⟩ = false ∧ x < w1.heap.size := by
  subst hw
  have hb := stA (stA (st0 W) a) b
  exact ⟨(hb.cell (p := ⟨x, o, none⟩) hz).trans hc, (hb.frozen (p := ⟨x, o, none⟩) hz).trans hf, Nat.lt_of_lt_of_le hz hb.size⟩
def ap0L (n g : Nat) : List Value := [.nilFunc, .nilFunc, .nilFunc, .nilFunc, .nilFunc, .nilFunc, .nilFunc, .nilFunc, .nilFunc, .nilFunc, .nilFunc, .nilFunc, .nilFunc, .nilFunc, .nilFunc, .nilFunc, .nilFunc, .nilFunc, .nilFunc, .nilFunc, .nilFunc, .nilFunc, .nilFunc, .nilFunc, .nilFunc, .nilFunc, .nilFunc, .nilFunc, .nilFunc, .nilFunc, .nilFunc, .nilFunc, .nilFunc, .nilFunc, .nilFunc, .nilFunc, .nilFunc, .nilFunc, .nilFunc, .nilFunc, .nilFunc, .nilFunc, .nilFunc, .nilFunc, .nilFunc, .nilFunc, .nilFunc, .nilFunc, mval 72 g 0, fval 73 #[pt n 0], .nilFunc, .nilFunc, .nilFunc, .nilFunc, .nilFunc, .nilFunc, .nilFunc, .nilFunc, .nilFunc, .nilFunc, .nilFunc, .nilFunc, .nilFunc, .nilFunc]
theorem ap0_eq (n g : Nat) : ap0L n g = apL n g 0 := by kernel_rfl
theorem ap0_one (n g : Nat) : (ap0L n g).toArray.all (·.oneCell') = true := by rw [ap0_eq]; exact ap_one n g 0
theorem putL_al (L L' : List Value) (h : L'.length = L.length) : putL L 0 L' = L' := by
  have := putL_mid [] L' L [] h
  simpa using this
theorem AP.start {w : World} {g : Nat} (o1 o2 o3 : TypeId) : AP w g 0 (((((w.alloc (.cells #[pt g 0] o1)).alloc (.cells (List.replicate 64 Value.nilFunc).toArray o2)).alloc (.cells (List.replicate 64 Value.nilFunc).toArray o3))).setCells (w.heap.size + 2) 0 (ap0L w.heap.size g)) := by
  have hx := (Bx.new ((w.alloc (.cells #[pt g 0] o1)).alloc (.cells (List.replicate 64 Value.nilFunc).toArray o2)) (List.replicate 64 .nilFunc) o3 (b := w.heap.size + 2) (by simp)).puts 0 (ap0L w.heap.size g) (by simp [ap0L])
  rw [putL_al _ _ (by simp [ap0L])] at hx
  refine ⟨Bl.puts (stA (stA (stA (st0 w) _) _) _) (by omega) _, by rw [size_sets]; simp, (((Bx.new w [pt g 0] o1 rfl).over _).over _).fars (by omega) _ _, ((Bx.new (w.alloc _) (List.replicate 64 .nilFunc) o2 (by simp)).over _).fars (by omega) _ _, by rw [← ap0_eq]; exact hx, fun k hk => by omega⟩
theorem ap_th {w : World} {g : Nat} (o1 o2 o3 : TypeId) : (((w.alloc (.cells #[pt g 0] o1)).alloc (.cells (List.replicate 64 Value.nilFunc).toArray o2)).alloc (.cells (List.replicate 64 Value.nilFunc).toArray o3)).there (w.heap.size + 2) 0 64 :=
  (Bx.new _ (List.replicate 64 .nilFunc) o3 (b := w.heap.size + 2) (by simp)).there 0 64 (by simp)
set_option maxHeartbeats 800000 in
theorem Bu.aports_any (g : Nat) (w : World) : Calls Try.prog 48 #[pt g 0] w fun e w' =>
    e = .returned (.agg (apL w.heap.size g 24).toArray) ∧ ∃ Y, AP w g 24 Y ∧ Below w.heap.size w w' ∧ (∀ k, k ≠ w.heap.size + 1 → w'.heap[k]? = Y.heap[k]?) ∧ Y.heap.size = w'.heap.size := by
  go_enter Try.func48, Try.ntmps48
  go_wp2_with (first
    | (refine wpList_store_mid rfl 81 _ _ rfl (w.heap.size + 2) 0 _ rfl rfl (ap_th 68 81 81) info_ports (ap0_one w.heap.size g) ?_
       refine Pl.cutL (AP w g 0) (AP.start 68 81 81) ?_
       intro Y hY
       have HY := hid hY
       clear hY))
  go_loopw [10] (fun i wr => ∃ k : Nat, k ≤ 24 ∧ i = .int .i64 k ∧ AP w g k wr) (fun i _ => 24 - (intOf i).toNat)
  case atStart => exact ⟨0, by omega, rfl, HY.out⟩
  case round =>
    obtain ⟨k, hk, rfl, hA⟩ := hrel
    by_cases hlt : k < 24
    · have hlt2 : (k : Int) < 24 := by omega
      have hlt3 : (k : Int) < 32 := by omega
      have c1 := hA.b.at 0 (pt g 0) rfl
      have z1 := hA.b.z
      have z2 := hA.l.z
      obtain ⟨v0, hv0⟩ : ∃ v, (apL w.heap.size g k)[k * 2 + 1]? = some v := ⟨_, by rw [Nat.mul_comm]; exact (portsN_at _ _ 32 k (by omega)).2⟩
      have c2 : wr.cell? ⟨w.heap.size + 1 + 1, k * 2 + 1, none⟩ = some v0 := hA.l.at _ _ hv0
      have f2 : wr.frozen? ⟨w.heap.size + 1 + 1, k * 2 + 1, none⟩ = false := hA.l.f (k * 2 + 1)
      have z3 : w.heap.size + 1 + 1 < wr.heap.size := z2
      have HA := hid hA
      clear hA hv0
      go_wp2_with (go_at_call 74; refine (Bu.sound_n g k _).mono ?_; rintro e w1 ⟨rfl, hw⟩; obtain ⟨c3, f3, z4⟩ := ap_two hw c2 f2 z3; have HW := hid hw; clear hw c2 f2 z3 z2)
      go_roundw
      case rel =>
        refine ⟨k + 1, by omega, by go_num, ?_⟩
        rw [HW.out]
        exact HA.out.next' hlt _ _
      case measure => simp [intOf]; omega
    · obtain rfl : k = 24 := by omega
      have HA := hid hA
      have z2 := hA.l.z
      have HR := hid hA.r
      have HL := hid hA.l
      have hL := apL_len w.heap.size g 24
      have HO := hid (ap_one w.heap.size g 24)
      clear hA HY
      generalize hLL : apL w.heap.size g 24 = L at HL hL HO
      have HLL := hid hLL
      have hsz : L.toArray.size = 64 := by simp [hL]
      have HTH : Hid (wr.there (w.heap.size + 1) 0 L.toArray.size) := hid (by rw [hsz]; exact HR.out.there 0 64 (by simp))
      have HIN : Hid ((Try.prog.info? 81).map (·.size) = some L.toArray.size) := hid (by rw [hsz]; exact info_ports)
      clear hLL hsz
      go_wp2_with (first
        | (refine wpList_load_mid rfl 81 _ rfl (w.heap.size + 2) 0 rfl L _ HL.out.c Try.underlying81 rfl (info_ports.trans (by rw [hL])) ?_)
        | (refine wpList_store_mid rfl 81 _ _ rfl (w.heap.size + 1) 0 L.toArray rfl rfl HTH.out HIN.out HO.out ?_
           refine Pl.cutL (fun X => Below w.heap.size w X ∧ (∀ k, k ≠ w.heap.size + 1 → X.heap[k]? = wr.heap[k]?) ∧ wr.heap.size = X.heap.size ∧ Bx X (w.heap.size + 1) L) ⟨?_, ?_, ?_, ?_⟩ ?_
           · exact Bl.puts HA.out.low (by omega) _
           · exact fun k hk => heap_sets_far hk _ _ _
           · exact (size_sets _ _ _ _).symm
           · have hx := HR.out.puts 0 L (by rw [hL]; simp)
             rw [putL_al _ _ (by rw [hL]; simp)] at hx
             exact hx
           rintro X ⟨hX1, hX2, hX3, hX4⟩
           have HX1 := hid hX1
           have HX2 := hid hX2
           have HX3 := hid hX3
           have HX4 := hid hX4
           clear hX1 hX2 hX3 hX4))
      exact bodyPost_ret (v := .agg L.toArray) (by simp only [results, Try.results48]; simp; exact Pl.res (load64 hL HX4.out)) rfl ⟨by rw [HLL.out], wr, HA.out, HX1.out, HX2.out, HX3.out⟩
theorem own_emptyB {w : World} {g B : Nat} (hg : w.heap[g]? = some (.cells #[] 5 (0, 0))) (hB : B ≤ g) : w.ownsRow B 5 1 (.slice (some ⟨g, 0, none⟩) 0 0) ([] : List UInt8).length (bcs []) :=
  ⟨rfl, Or.inr ⟨g, 0, #[], rfl, hB, hg, Nat.le_refl _, by decide, by simp, by simp [bcs]⟩⟩
/-- A slice that is one's own: nil, or at the start of a new block. -/
theorem own_rw {w : World} {B : Nat} {v : Value} {l : List UInt8} (h : w.ownsRow B 5 1 v l.length (bcs l)) : (v = .slice none 0 0 ∧ l = []) ∨ ∃ k cap, v = .slice (some ⟨k, 0, none⟩) l.length cap ∧ l.length ≤ cap ∧ B ≤ k ∧ Bx w k (bcs l) := by
  rcases h.2 with ⟨rfl, h0⟩ | ⟨g, cap, cur, rfl, hb, hg, hn, hm, hs, ht⟩
  · exact Or.inl ⟨rfl, List.length_eq_zero_iff.1 h0⟩
  · refine Or.inr ⟨g, cap, rfl, hn, hb, (Array.getElem?_eq_some_iff.1 hg).1, fun j c hj => ?_, fun o => Lib.frozen_of_heap hg o⟩
    have hjl := (List.getElem?_eq_some_iff.1 hj).1
    rw [bcs_len] at hjl
    rw [Nat.zero_add, Lib.cell_of_heap hg j]
    have e : cur[j]? = (cur.toList.take (l.length * 1))[j]? := by rw [List.getElem?_take, if_pos (by omega)]; simp
    rw [e, ht, hj]
theorem nil_eq (w : World) : (binOp .eql 22 (.slice none 0 0) (.slice none 0 0)).run Try.prog w = .ok (.bool true) w := by kernel_rfl
theorem nil_eq2 (n c : Nat) (w : World) : (binOp .eql 22 (.slice none n c) (.slice none 0 0)).run Try.prog w = .ok (.bool true) w := by kernel_rfl
theorem nil_ne (a : Addr) (n c : Nat) (w : World) : (binOp .eql 22 (.slice (some a) n c) (.slice none 0 0)).run Try.prog w = .ok (.bool false) w := by kernel_rfl
theorem Bu.clone_any (v : Value) (l : List UInt8) (w : World) (h : sliceAt w v l) (hl : l.length ≤ 100000) :
    Calls Try.prog 55 #[v] w fun e w' => ∃ v', e = .returned v' ∧ w'.ownsRow w.heap.size 5 1 v' l.length (bcs l) ∧ Below w.heap.size w w' := by
  obtain ⟨a, c, rfl⟩ := slice_len h
  cases a with
  | none =>
    have h0 : l = [] := by
      rcases h with ⟨_, _, _, h2⟩ | ⟨g, o, cap, h1, _⟩
      · exact h2
      · cases h1
    subst h0
    have hn := nil_eq2 0 c
    go_enter Try.func55, Try.ntmps55
    go_wp2
    go_ret
    exact ⟨_, rfl, ⟨rfl, Or.inl ⟨rfl, rfl⟩⟩, st0 _⟩
  | some a =>
    have hn := nil_ne a l.length c
    have H := hid h
    clear h
    go_enter Try.func55, Try.ntmps55
    go_wp2_with (at_builtin; refine wpList_appSlice (by rfl) _ _ (by rfl) w.heap.size _ ([] : List UInt8) (by rfl) (own_emptyB (heap_alloc_new w _) (Nat.le_refl _)) _ (by rfl) l (H.out.kept (stA (st0 w) _)) (by simp; exact hl) (by simp) ?_; intro v' w' hown' hb')
    go_ret
    exact ⟨_, rfl, by simpa using hown', (stA (st0 w) _).trans hb'⟩
def Sl.get (S : Sl) (j : Nat) : Value := match j with | 0 => S.mr | 1 => S.ar | 2 => S.ra | 3 => S.ow | _ => S.vi
def Sl.set (S : Sl) (j : Nat) (v : Value) : Sl := match j with | 0 => { S with mr := v } | 1 => { S with ar := v } | 2 => { S with ra := v } | 3 => { S with ow := v } | _ => { S with vi := v }
def Mach.byt (M : Mach) (j : Nat) : List UInt8 := match j with | 0 => M.mrom | 1 => M.arom | 2 => M.ram | 3 => M.own | _ => M.video
theorem five {j : Nat} (h : j < 5) : j = 0 ∨ j = 1 ∨ j = 2 ∨ j = 3 ∨ j = 4 := by omega
theorem Sl.get_set (S : Sl) (i j : Nat) (v : Value) (hi : i < 5) (hj : j < 5) : (S.set i v).get j = if j = i then v else S.get j := by
  rcases five hi with rfl | rfl | rfl | rfl | rfl <;> rcases five hj with rfl | rfl | rfl | rfl | rfl <;> rfl
theorem machL_at (M : Mach) (S : Sl) (j : Nat) (hj : j < 5) : (machL M S)[30 + j]? = some (S.get j) := by
  rcases five hj with rfl | rfl | rfl | rfl | rfl <;> rfl
theorem machL_set (M : Mach) (S : Sl) (j : Nat) (v : Value) (hj : j < 5) : (machL M S).set (30 + j) v = machL M (S.set j v) := by
  rcases five hj with rfl | rfl | rfl | rfl | rfl <;> rfl
theorem info_mach : (Try.prog.info? 41).map (·.size) = some 75 := by kernel_rfl
theorem load_mach {Y : World} {b o : Nat} (M : Mach) (S : Sl) (h : Y.rangeAt b o (machL M S)) : (loadVar 41 ⟨b, o, none⟩).run Try.prog Y = .ok (.agg (machL M S).toArray) Y :=
  run_loadVar_mid Y b o 41 _ _ h Try.underlying41 rfl info_mach
/-- Slices' values are one cell each. -/
def Sl.isSl (S : Sl) : Prop := ∀ j, j < 5 → ∃ a n c, S.get j = .slice a n c
theorem machL_one (M : Mach) (S : Sl) (h : S.isSl) : (machL M S).toArray.all (·.oneCell') = true := by
  obtain ⟨a0, n0, c0, e0⟩ := h 0 (by omega)
  obtain ⟨a1, n1, c1, e1⟩ := h 1 (by omega)
  obtain ⟨a2, n2, c2, e2⟩ := h 2 (by omega)
  obtain ⟨a3, n3, c3, e3⟩ := h 3 (by omega)
  obtain ⟨a4, n4, c4, e4⟩ := h 4 (by omega)
  simp only [Sl.get] at e0 e1 e2 e3 e4
  unfold machL cpuL slL restL
  rw [e0, e1, e2, e3, e4]
  simp [Value.oneCell']
def zeroM : Mach := ⟨C.Cpu.zero, C.Cpu.zero, [], [], [], [], [], ⟨0, false, 0⟩, ⟨0, false, 0⟩, ⟨0, 0, false, false⟩, ⟨⟨0, 0, 0, false, 0⟩, ⟨0, 0, 0, false, 0⟩, ⟨0, 0, 0, false, 0⟩, 0⟩, ⟨0, 0, false, 0⟩, 0, 0, false, false, 0, 0, false, 0, 0, 0⟩
def nilS : Sl := ⟨.slice none 0 0, .slice none 0 0, .slice none 0 0, .slice none 0 0, .slice none 0 0⟩
/-- One of a machine's slices is its own. -/
def OwnAt (B : Nat) (M : Mach) (S : Sl) (Y : World) (j : Nat) : Prop := (S.get j = .slice none 0 0 ∧ M.byt j = []) ∨ ∃ b cap, S.get j = .slice (some ⟨b, 0, none⟩) (M.byt j).length cap ∧ (M.byt j).length ≤ cap ∧ B ≤ b ∧ Bx Y b (bcs (M.byt j))
/-- The first of a machine's slices are its own, each in a block of its own. -/
structure OwnK (B : Nat) (M : Mach) (S : Sl) (k : Nat) (Y : World) : Prop where
  own : ∀ j, j < k → OwnAt B M S Y j
  dist : ∀ i j b b' n c n' c', i < k → j < k → i ≠ j → S.get i = .slice (some ⟨b, 0, none⟩) n c → S.get j = .slice (some ⟨b', 0, none⟩) n' c' → b ≠ b'
theorem OwnAt.same {B : Nat} {M : Mach} {S : Sl} {Y Y' : World} {j : Nat} (h : OwnAt B M S Y j) (hz : Y.heap.size ≤ Y'.heap.size) (e : ∀ b, B ≤ b → b < Y.heap.size → Y'.heap[b]? = Y.heap[b]?) : OwnAt B M S Y' j := by
  rcases h with h | ⟨b, cap, h1, h2, h3, h4⟩
  · exact Or.inl h
  · exact Or.inr ⟨b, cap, h1, h2, h3, h4.same hz (e b h3 h4.z)⟩
theorem OwnK.same {B : Nat} {M : Mach} {S : Sl} {k : Nat} {Y Y' : World} (h : OwnK B M S k Y) (hz : Y.heap.size ≤ Y'.heap.size) (e : ∀ b, B ≤ b → b < Y.heap.size → Y'.heap[b]? = Y.heap[b]?) : OwnK B M S k Y' :=
  ⟨fun j hj => (h.own j hj).same hz e, h.dist⟩
theorem OwnK.isSl {B : Nat} {M : Mach} {S : Sl} {Y : World} (h : OwnK B M S 5 Y) : S.isSl := fun j hj => by
  rcases h.own j hj with ⟨e, _⟩ | ⟨b, cap, e, _⟩
  · exact ⟨_, _, _, e⟩
  · exact ⟨_, _, _, e⟩
/-- In the midst of copying. -/
structure CP (w : World) (M : Mach) (S0 : Sl) (k : Nat) (S : Sl) (Y : World) : Prop where
  low : Below w.heap.size w Y
  bx : Bx Y w.heap.size (machL M S)
  res : Bx Y (w.heap.size + 1) (machL zeroM nilS)
  ptr : Bx Y (w.heap.size + 2) [pt w.heap.size 30, pt w.heap.size 31, pt w.heap.size 32, pt w.heap.size 33, pt w.heap.size 34]
  own : OwnK (w.heap.size + 3) M S k Y
  todo : ∀ j, j < 5 → k ≤ j → S.get j = S0.get j
theorem CP.next {w Y w1 : World} {M : Mach} {S0 S : Sl} {k : Nat} {v : Value} (h : CP w M S0 k S Y) (hk : k < 5) (ho : w1.ownsRow Y.heap.size 5 1 v (M.byt k).length (bcs (M.byt k))) (hb : Below Y.heap.size Y w1) :
    CP w M S0 (k + 1) (S.set k v) (w1.setCell ⟨w.heap.size, 30 + k, none⟩ v) := by
  have hz := h.ptr.z
  have hz1 := hb.size
  have hsame : ∀ b, w.heap.size + 3 ≤ b → b < Y.heap.size → (w1.setCell ⟨w.heap.size, 30 + k, none⟩ v).heap[b]? = Y.heap[b]? := fun b h1 h2 => (heap_set_far (by omega)).trans (hb.block b h2)
  have hold := h.own.same (Y' := w1.setCell ⟨w.heap.size, 30 + k, none⟩ v) (by rw [size_set]; exact hz1) hsame
  have hlen : 30 + k < (machL M S).length := by rw [machL_len]; omega
  refine ⟨(stp h.low hb).setCell (Nat.le_refl _) _, ?_, (h.res.kept hb).far (by omega) _, (h.ptr.kept hb).far (by omega) _, ⟨fun j hj => ?_, fun i j b b' n c n' c' hi hj hij e1 e2 => ?_⟩, fun j hj hkj => ?_⟩
  · rw [← machL_set M S k v hk]
    exact (h.bx.kept hb).set _ _ hlen
  · unfold OwnAt
    rw [S.get_set k j v hk (by omega)]
    by_cases e : j = k
    · subst e
      rw [if_pos rfl]
      rcases own_rw ho with ⟨e1, e2⟩ | ⟨b, cap, e1, e2, e3, e4⟩
      · exact Or.inl ⟨e1, e2⟩
      · exact Or.inr ⟨b, cap, e1, e2, by omega, e4.far (by omega) _⟩
    · rw [if_neg e]
      exact hold.own j (by omega)
  · rw [S.get_set k i v hk (by omega)] at e1
    rw [S.get_set k j v hk (by omega)] at e2
    by_cases ei : i = k
    · by_cases ej : j = k
      · omega
      · rw [if_pos ei] at e1
        rw [if_neg ej] at e2
        have hbn : Y.heap.size ≤ b := by
          rcases own_rw ho with ⟨x1, _⟩ | ⟨bb, cap, x1, _, x3, _⟩
          · rw [x1] at e1; cases e1
          · rw [x1] at e1; cases e1; exact x3
        rcases h.own.own j (by omega) with ⟨x1, _⟩ | ⟨bb, cap, x1, _, _, x4⟩
        · rw [x1] at e2; cases e2
        · rw [x1] at e2; cases e2; have := x4.z; omega
    · rw [if_neg ei] at e1
      by_cases ej : j = k
      · rw [if_pos ej] at e2
        have hbn : Y.heap.size ≤ b' := by
          rcases own_rw ho with ⟨x1, _⟩ | ⟨bb, cap, x1, _, x3, _⟩
          · rw [x1] at e2; cases e2
          · rw [x1] at e2; cases e2; exact x3
        rcases h.own.own i (by omega) with ⟨x1, _⟩ | ⟨bb, cap, x1, _, _, x4⟩
        · rw [x1] at e1; cases e1
        · rw [x1] at e1; cases e1; have := x4.z; omega
      · rw [if_neg ej] at e2
        exact h.own.dist i j b b' n c n' c' (by omega) (by omega) hij e1 e2
  · rw [S.get_set k j v hk hj, if_neg (by omega)]
    exact h.todo j hj (by omega)
theorem ptr_at (z k : Nat) (hk : k < 5) : ([pt z 30, pt z 31, pt z 32, pt z 33, pt z 34] : List Value)[k]? = some (pt z (30 + k)) := by
  rcases five hk with rfl | rfl | rfl | rfl | rfl <;> rfl
theorem zero_sl : nilS.isSl := fun j hj => by rcases five hj with rfl | rfl | rfl | rfl | rfl <;> exact ⟨_, _, _, rfl⟩
theorem CP.start (w : World) (M : Mach) (S : Sl) (o1 o2 o3 : TypeId) : CP w M S 0 S (((w.alloc (.cells (machL M S).toArray o1)).alloc (.cells (machL zeroM nilS).toArray o2)).alloc (.cells #[pt w.heap.size 30, pt w.heap.size 31, pt w.heap.size 32, pt w.heap.size 33, pt w.heap.size 34] o3)) :=
  ⟨stA (stA (stA (st0 w) _) _) _, ((Bx.new w (machL M S) o1 rfl).over _).over _, (Bx.new (w.alloc _) (machL zeroM nilS) o2 (by simp)).over _, Bx.new _ [pt w.heap.size 30, pt w.heap.size 31, pt w.heap.size 32, pt w.heap.size 33, pt w.heap.size 34] o3 (by simp), ⟨fun j hj => by omega, fun i j b b' n c n' c' hi => by omega⟩, fun j _ _ => rfl⟩
theorem own_sl {w : World} {B : Nat} {v : Value} {l : List UInt8} (h : w.ownsRow B 5 1 v l.length (bcs l)) : ∃ a n c, v = .slice a n c := by
  rcases own_rw h with ⟨e, _⟩ | ⟨k, cap, e, _⟩
  · exact ⟨_, _, _, e⟩
  · exact ⟨_, _, _, e⟩
theorem cp_two {Y w1 : World} {x o : Nat} {v : Value} (hb : Below Y.heap.size Y w1) (hc : Y.cell? ⟨x, o, none⟩ = some v) (hf : Y.frozen? ⟨x, o, none⟩ = false) (hz : x < Y.heap.size) : w1.cell? ⟨x, o, none⟩ = some v ∧ w1.frozen? ⟨x, o, none⟩ = false ∧ x < w1.heap.size :=
  ⟨(hb.cell (p := ⟨x, o, none⟩) hz).trans hc, (hb.frozen (p := ⟨x, o, none⟩) hz).trans hf, Nat.lt_of_lt_of_le hz hb.size⟩
theorem putL_whole (L L' : List Value) (h : L'.length = L.length) : putL L 0 L' = L' := by
  have := putL_mid [] L' L [] h
  simpa using this
set_option maxHeartbeats 800000 in
theorem Bu.copy_any (M : Mach) (S : Sl) (w : World) (hs : ∀ j, j < 5 → sliceAt w (S.get j) (M.byt j)) (hl : ∀ j, j < 5 → (M.byt j).length ≤ 100000) :
    Calls Try.prog 44 #[.agg (machL M S).toArray] w fun e w' => ∃ S', e = .returned (.agg (machL M S').toArray) ∧ OwnK (w.heap.size + 3) M S' 5 w' ∧ Below w.heap.size w w' := by
  go_enter Try.func44, Try.ntmps44
  go_wp2
  refine Pl.cutW (CP w M S 0 S) (CP.start w M S _ _ _) ?_
  intro Y hY
  have HY := hid hY
  clear hY
  go_loopw [12] (fun i wr => ∃ (k : Nat) (S1 : Sl), k ≤ 5 ∧ i = .int .i64 k ∧ CP w M S k S1 wr) (fun i _ => 5 - (intOf i).toNat)
  case atStart => exact ⟨0, S, by omega, rfl, HY.out⟩
  case round =>
    obtain ⟨k, S1, hk, rfl, hC⟩ := hrel
    clear HY
    by_cases hlt : k < 5
    · have hlt2 : (k : Int) < 5 := by omega
      have c1 := hC.ptr.at k _ (ptr_at _ k hlt)
      have c2 := hC.bx.at (30 + k) _ (machL_at M S1 k hlt)
      have e0 := hC.todo k hlt (Nat.le_refl _)
      rw [e0] at c2
      have z1 := hC.ptr.z
      have z0 := hC.bx.z
      have hsl := hid ((hs k hlt).kept hC.low)
      have hll := hl k hlt
      have HC := hid hC
      clear hC e0 hs hl
      go_wp2_with (go_at_call 55; refine (Bu.clone_any _ (M.byt k) _ hsl.out hll).mono ?_; rintro e w1 ⟨v', rfl, hown, hb1⟩; obtain ⟨av, nv, cv, rfl⟩ := own_sl hown; have HO := hid hown; have HB := hid hb1; obtain ⟨d1, d2, d3⟩ := cp_two hb1 c2 (HC.out.bx.f (30 + k)) z0; clear hown hb1)
      go_roundw
      case rel => exact ⟨k + 1, S1.set k (.slice av nv cv), by omega, by go_num, HC.out.next hlt HO.out HB.out⟩
      case measure => simp [intOf]; omega
    · obtain rfl : k = 5 := by omega
      have z0 := hC.bx.z
      have z1 := hC.res.z
      have HC := hid hC
      have HONE := hid (machL_one M S1 hC.own.isSl)
      clear hC hs hl
      go_wp2_with (first
        | (refine wpList_load_mid rfl 41 _ rfl w.heap.size 0 rfl (machL M S1) _ HC.out.bx.c Try.underlying41 rfl info_mach ?_)
        | (refine wpList_store_mid rfl 41 _ _ rfl (w.heap.size + 1) 0 (machL M S1).toArray rfl rfl (HC.out.res.there 0 75 (by rw [machL_len]; omega)) info_mach HONE.out ?_
           refine Pl.cutL (fun X => Below w.heap.size w X ∧ Bx X (w.heap.size + 1) (machL M S1) ∧ OwnK (w.heap.size + 3) M S1 5 X) ⟨?_, ?_, ?_⟩ ?_
           · exact Bl.puts HC.out.low (by omega) _
           · have hx := HC.out.res.puts 0 (machL M S1) (by rw [machL_len, machL_len]; omega)
             rw [putL_whole _ _ (by rw [machL_len, machL_len])] at hx
             exact hx
           · exact HC.out.own.same (Nat.le_of_eq (size_sets _ _ _ _).symm) (fun b h1 h2 => heap_sets_far (by omega) _ _ _)
           rintro X ⟨hX1, hX2, hX3⟩
           have HX1 := hid hX1
           have HX2 := hid hX2
           have HX3 := hid hX3
           clear hX1 hX2 hX3))
      exact bodyPost_ret (v := .agg (machL M S1).toArray) (by simp only [results, Try.results44]; simp; exact Pl.res (load_mach M S1 HX2.out.c)) rfl ⟨S1, rfl, HX3.out, HX1.out⟩
end Go.Proofs.Ythooknikfachnaa
