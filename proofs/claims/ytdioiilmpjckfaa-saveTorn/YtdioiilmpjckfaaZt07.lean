/-
  Parts of a proof, joined.
-/
import Derived.Test.YtdioiilmpjckfaaZt06
namespace Go.Proofs.Ytdioiilmpjckfaa
open Go.ChangeShapes Go.WideShapes Go.ChangeAt Go.RowKit
set_option linter.unusedVariables false
set_option maxRecDepth 100000
theorem exec_build {P : Program} {a : Act} {o : Oper} {w : World} (t : TypeId) (parts : Array (Nat × Operand)) (ho : o.op = .build t parts) (v : Value) (hrun : (Instr.build t (parts.map fun (i, x) => (i, a.eval x))).run P w = .ok v w) : (execOp a.eval o).run P w = .ok (.value v) w := by
  unfold execOp
  simp only [ho, Sem.run_bind, hrun, Result.andThen_ok, Sem.run_pure]
theorem own_blk {B g : Nat} {M : Mach} {S : Sl} {Y : World} {j : Nat} (h : OwnAt B M S Y j) : ∃ k, Rw Y (S.get j) k (M.byt j) ∧ ((k = g + 1 ∧ S.get j = .slice none 0 0) ∨ (B ≤ k ∧ k < Y.heap.size ∧ ∃ n c, S.get j = .slice (some ⟨k, 0, none⟩) n c)) := by
  rcases h with ⟨e1, e2⟩ | ⟨b, cap, e1, e2, e3, e4⟩
  · exact ⟨g + 1, Or.inl ⟨e1, e2⟩, Or.inl ⟨rfl, e1⟩⟩
  · exact ⟨b, Or.inr ⟨cap, e1, e2, e4⟩, Or.inr ⟨e3, e4.z, _, _, e1⟩⟩
def sM (g n : Nat) : List Value := pt g 30 :: mval 32 g 0 :: portsN (fxE g (mE n)).rdM (fxE g (mE n)).wrM 32
def sA (g a : Nat) : List Value := pt g 31 :: mval 34 g 0 :: apL a g 24
theorem sM_len (g n : Nat) : (sM g n).length = 66 := by unfold sM; simp [portsN_len]
theorem sA_len (g n : Nat) : (sA g n).length = 66 := by unfold sA; simp [apL_len]
theorem cells_make (B g k0 k1 k2 k3 k4 n a : Nat) (S : Sl) (M : Mach) : (Fx.mk B g k0 k1 k2 k3 k4 S (boE n a)).cells M Tk.zero = halfL M S (sM g n) (sA g a) := by kernel_rfl
theorem Bd.make {w2 w5 : World} {M : Mach} {S1 : Sl} {B B1 n a : Nat} (hO : OwnK B1 M S1 5 w2) (hB : B ≤ B1) (hB2 : B1 ≤ w2.heap.size) (hf : M.fit) (hbx : Bx w5 w2.heap.size (halfL M S1 (sM w2.heap.size n) (sA w2.heap.size a))) (hk : ∀ b, b < w2.heap.size → w5.heap[b]? = w2.heap[b]?)
    (hE : EnvM w2.heap.size (mE n) w5) (hn : w2.heap.size < n) (hA : Bx w5 a [pt w2.heap.size 0] ∧ ∀ k, k < 24 → Bx w5 (a + 3 + 2 * k) [pt w2.heap.size 0] ∧ Bx w5 (a + 4 + 2 * k) [.int .i64 k]) (ha : w2.heap.size < a) :
    ∃ F : Fx, F.B = B ∧ F.g = w2.heap.size ∧ (F.B ≤ F.mr ∧ F.B ≤ F.ar) ∧ Bd F w5 M Tk.zero := by
  obtain ⟨k0, r0, d0⟩ := own_blk (g := w2.heap.size) (hO.own 0 (by omega))
  obtain ⟨k1, r1, d1⟩ := own_blk (g := w2.heap.size) (hO.own 1 (by omega))
  obtain ⟨k2, r2, d2⟩ := own_blk (g := w2.heap.size) (hO.own 2 (by omega))
  obtain ⟨k3, r3, d3⟩ := own_blk (g := w2.heap.size) (hO.own 3 (by omega))
  obtain ⟨k4, r4, d4⟩ := own_blk (g := w2.heap.size) (hO.own 4 (by omega))
  have hz := hbx.z
  have r0' : Rw w5 S1.mr k0 M.mrom := r0.same (by omega) (fun h => hk _ h)
  have r1' : Rw w5 S1.ar k1 M.arom := r1.same (by omega) (fun h => hk _ h)
  have r2' : Rw w5 S1.ra k2 M.ram := r2.same (by omega) (fun h => hk _ h)
  have r3' : Rw w5 S1.ow k3 M.own := r3.same (by omega) (fun h => hk _ h)
  have r4' : Rw w5 S1.vi k4 M.video := r4.same (by omega) (fun h => hk _ h)
  have n2 : S1.get 2 ≠ .slice none 0 0 := fun e => by
    obtain ⟨cap, e1, _⟩ := r2'.some (by rw [hf.ram]; omega)
    have : S1.get 2 = S1.ra := rfl
    rw [this, e1] at e; cases e
  have n3 : S1.get 3 ≠ .slice none 0 0 := fun e => by
    obtain ⟨cap, e1, _⟩ := r3'.some (by rw [hf.own]; omega)
    have : S1.get 3 = S1.ow := rfl
    rw [this, e1] at e; cases e
  have n4 : S1.get 4 ≠ .slice none 0 0 := fun e => by
    obtain ⟨cap, e1, _⟩ := r4'.some (by rw [hf.video]; omega)
    have : S1.get 4 = S1.vi := rfl
    rw [this, e1] at e; cases e
  rcases d2 with ⟨_, e⟩ | ⟨b2, z2, _, _, e2⟩
  · exact absurd e n2
  rcases d3 with ⟨_, e⟩ | ⟨b3, z3, _, _, e3⟩
  · exact absurd e n3
  rcases d4 with ⟨_, e⟩ | ⟨b4, z4, _, _, e4⟩
  · exact absurd e n4
  have x23 := hO.dist 2 3 _ _ _ _ _ _ (by omega) (by omega) (by omega) e2 e3
  have x24 := hO.dist 2 4 _ _ _ _ _ _ (by omega) (by omega) (by omega) e2 e4
  have x34 := hO.dist 3 4 _ _ _ _ _ _ (by omega) (by omega) (by omega) e3 e4
  have y0 : k0 ≠ w2.heap.size ∧ k0 ≠ k2 ∧ k0 ≠ k3 ∧ k0 ≠ k4 := by
    rcases d0 with ⟨e, _⟩ | ⟨_, z0, _, _, e0⟩
    · omega
    · have := hO.dist 0 2 _ _ _ _ _ _ (by omega) (by omega) (by omega) e0 e2
      have := hO.dist 0 3 _ _ _ _ _ _ (by omega) (by omega) (by omega) e0 e3
      have := hO.dist 0 4 _ _ _ _ _ _ (by omega) (by omega) (by omega) e0 e4
      exact ⟨by omega, by assumption, by assumption, by assumption⟩
  have y1 : k1 ≠ w2.heap.size ∧ k1 ≠ k2 ∧ k1 ≠ k3 ∧ k1 ≠ k4 := by
    rcases d1 with ⟨e, _⟩ | ⟨_, z0, _, _, e0⟩
    · omega
    · have := hO.dist 1 2 _ _ _ _ _ _ (by omega) (by omega) (by omega) e0 e2
      have := hO.dist 1 3 _ _ _ _ _ _ (by omega) (by omega) (by omega) e0 e3
      have := hO.dist 1 4 _ _ _ _ _ _ (by omega) (by omega) (by omega) e0 e4
      exact ⟨by omega, by assumption, by assumption, by assumption⟩
  have hT : ∀ x, w2.heap.size < x → ¬ (x = w2.heap.size ∨ x = k2 ∨ x = k3 ∨ x = k4) := fun x hx h => by omega
  obtain ⟨E0, E1, E2, E3, E4, E5, E6, E7, E8, E9, E10⟩ := hE
  refine ⟨⟨B, w2.heap.size, k0, k1, k2, k3, k4, S1, boE n a⟩, rfl, rfl, ⟨by show B ≤ k0; rcases d0 with ⟨e, _⟩ | ⟨e, _⟩ <;> omega, by show B ≤ k1; rcases d1 with ⟨e, _⟩ | ⟨e, _⟩ <;> omega⟩, by show Bx w5 w2.heap.size ((Fx.mk B w2.heap.size k0 k1 k2 k3 k4 S1 (boE n a)).cells M Tk.zero); rw [cells_make]; exact hbx, r0', r1', r2', r3', r4', fun x v hx => ?_, ⟨⟨by show B ≤ w2.heap.size; omega, by show B ≤ k2; omega, by show B ≤ k3; omega, by show B ≤ k4; omega⟩, ⟨by show w2.heap.size ≠ k2; omega, by show w2.heap.size ≠ k3; omega, by show w2.heap.size ≠ k4; omega, x23, x24, x34⟩, fun h => ?_, fun h => ?_, fun x v hx => ?_⟩, hf, by show B ≤ w5.heap.size; omega, World.ownsRow_nil _ _ _ _, fun k hk => by cases hk⟩
  · cases hx
    · exact ⟨E0.z, E0.at 0 _ rfl⟩
    · exact ⟨E1.z, E1.at 0 _ rfl⟩
    · exact ⟨E2.z, E2.at 0 _ rfl⟩
    · exact ⟨E3.z, E3.at 0 _ rfl⟩
    · exact ⟨E4.z, E4.at 0 _ rfl⟩
    · exact ⟨E5.z, E5.at 0 _ rfl⟩
    · exact ⟨E6.z, E6.at 0 _ rfl⟩
    · exact ⟨E7.z, E7.at 0 _ rfl⟩
    · exact ⟨E8.z, E8.at 0 _ rfl⟩
    · exact ⟨E9.z, E9.at 0 _ rfl⟩
    · exact ⟨E10.z, E10.at 0 _ rfl⟩
    · exact ⟨hA.1.z, hA.1.at 0 _ rfl⟩
    · rename_i i hi
      exact ⟨(hA.2 i hi).1.z, (hA.2 i hi).1.at 0 _ rfl⟩
    · rename_i i hi
      exact ⟨(hA.2 i hi).2.z, (hA.2 i hi).2.at 0 _ rfl⟩
  · have h' : k0 = w2.heap.size ∨ k0 = k2 ∨ k0 = k3 ∨ k0 = k4 := h
    omega
  · have h' : k1 = w2.heap.size ∨ k1 = k2 ∨ k1 = k3 ∨ k1 = k4 := h
    omega
  · refine hT x ?_
    cases hx
    · show w2.heap.size < n + 1; omega
    · show w2.heap.size < n + 2; omega
    · show w2.heap.size < n + 3; omega
    · show w2.heap.size < n + 4; omega
    · show w2.heap.size < n + 5; omega
    · show w2.heap.size < n + 6; omega
    · show w2.heap.size < n + 7; omega
    · show w2.heap.size < n + 8; omega
    · show w2.heap.size < n + 9; omega
    · show w2.heap.size < n + 10; omega
    · show w2.heap.size < n + 11; omega
    · exact ha
    · rename_i i hi
      show w2.heap.size < a + 3 + 2 * i; omega
    · rename_i i hi
      show w2.heap.size < a + 4 + 2 * i; omega
end Go.Proofs.Ytdioiilmpjckfaa
