/-
  Joined texts.
-/
import Derived.Test.YthooknikfachnaaZeY
import Derived.Test.YthooknikfachnaaBusA
import Derived.Test.YthooknikfachnaaBusN
import Derived.Test.YthooknikfachnaaBusS
import Derived.Deep.RegionHeld3
namespace Go.Proofs.Ythooknikfachnaa
open Go.ChangeShapes Go.WideShapes Go.ChangeAt Go.RowKit
set_option linter.unusedVariables false
set_option maxRecDepth 100000

/-- What Check tells. -/
def Mach.chk (M : Mach) : Int :=
  if M.mrom.length ≤ 1024 ∧ M.arom.length ≤ 1024 then
    if M.ram.length = 128 ∧ M.own.length = 64 ∧ M.video.length = 256 then
      if 0 ≤ M.s.w ∧ M.s.w ≤ 15 then
        if bok M.b.l M.b.a M.b.f then
          if (0 ≤ M.clock ∧ M.clock ≤ 200000) ∧ (0 ≤ M.mready ∧ M.mready ≤ M.clock + 20000) ∧ (0 ≤ M.aready ∧ M.aready ≤ M.clock + 20000) then 0 else 3
        else 3
      else 3
    else 4
  else 2
theorem chk_fit {M : Mach} (hok : M.ok) (h : M.chk = 0) : M.fit := by
  unfold Mach.chk at h
  split at h
  · rename_i h1
    split at h
    · rename_i h2
      split at h
      · rename_i h3
        split at h
        · rename_i h4
          split at h
          · rename_i h5
            exact ⟨hok, h1.1, h1.2, h2.1, h2.2.1, h2.2.2, h3, (bok_iff _ _ _).1 h4, h5.1, h5.2.1, h5.2.2⟩
          · cases h
        · cases h
      · cases h
    · cases h
  · cases h
theorem fit_chk {M : Mach} (h : M.fit) : M.chk = 0 := by
  unfold Mach.chk
  rw [if_pos ⟨h.mrom, h.arom⟩, if_pos ⟨h.ram, h.own, h.video⟩, if_pos h.w, if_pos ((bok_iff _ _ _).2 h.b), if_pos ⟨h.clock, h.mready, h.aready⟩]
/-- A slice's value has so many bytes. -/
def Sl.lens (S : Sl) (M : Mach) : Prop := ∀ j, j < 5 → ∃ a c, S.get j = .slice a (M.byt j).length c
theorem Bx.sndR {Y : World} {b : Nat} {M : Mach} {S : Sl} (h : Bx Y b (machL M S)) : Y.rangeAt b 45 (sndL M.s) := fun i v hi => by
  refine h.at (45 + i) v ?_
  have hl := (List.getElem?_eq_some_iff.1 hi).1
  have hc : i = 0 ∨ i = 1 ∨ i = 2 ∨ i = 3 ∨ i = 4 ∨ i = 5 ∨ i = 6 ∨ i = 7 ∨ i = 8 ∨ i = 9 ∨ i = 10 ∨ i = 11 ∨ i = 12 ∨ i = 13 ∨ i = 14 ∨ i = 15 := by simp [sndL] at hl; omega
  rcases hc with rfl | rfl | rfl | rfl | rfl | rfl | rfl | rfl | rfl | rfl | rfl | rfl | rfl | rfl | rfl | rfl <;> exact hi
/-- What lies in the box that a board is to be: its machine, nothing else. -/
def halfL (M : Mach) (S : Sl) (A B : List Value) : List Value := machL M S ++ ([.int .i64 0, .slice none 0 0] ++ (A ++ B))
def nil66 : List Value := .pointer none :: .nilFunc :: List.replicate 64 .nilFunc
theorem nil66_len : nil66.length = 66 := by simp [nil66]
theorem halfL_len (M : Mach) (S : Sl) (A B : List Value) (hA : A.length = 66) (hB : B.length = 66) : (halfL M S A B).length = 209 := by
  unfold halfL
  simp only [List.length_append, machL_len, hA, hB]
  rfl
theorem halfL_put1 (M : Mach) (S : Sl) (A A' B : List Value) (h : A'.length = A.length) : putL (halfL M S A B) 77 A' = halfL M S A' B := by
  have e : ∀ X : List Value, halfL M S X B = (machL M S ++ [.int .i64 0, .slice none 0 0]) ++ (X ++ B) := fun X => by unfold halfL; simp only [List.append_assoc]
  rw [e A, e A']
  exact putL_mid B A' A (machL M S ++ [.int .i64 0, .slice none 0 0]) h
theorem halfL_put2 (M : Mach) (S : Sl) (A B B' : List Value) (hA : A.length = 66) (h : B'.length = B.length) : putL (halfL M S A B) 143 B' = halfL M S A B' := by
  have e : ∀ X : List Value, halfL M S A X = ((machL M S ++ [.int .i64 0, .slice none 0 0]) ++ A) ++ (X ++ []) := fun X => by unfold halfL; simp only [List.append_assoc, List.append_nil]
  rw [e B, e B']
  have hl : ((machL M S ++ [Value.int .i64 0, .slice none 0 0]) ++ A).length = 143 := by simp only [List.length_append, machL_len, hA]; rfl
  rw [← hl]
  exact putL_mid [] B' B _ h
theorem info_board : (Try.prog.info? 85).map (·.size) = some 209 := by kernel_rfl
theorem info_side : (Try.prog.info? 83).map (·.size) = some 66 := by kernel_rfl
/-- Where nothing else is needed of what ports keep. -/
def boE (n : Nat) (a : Nat) : Env := { mE n with ab := a, sb := fun k => a + 3 + 2 * k, sa := fun k => a + 4 + 2 * k }
/-- A struct that is built of parts whose cells aren't written out. -/
theorem wpList_build {P : Program} {ops : Array Oper} {rest : List Oper} {op : Oper} {a : Act} {w : World} {Q : Exit → Act → World → Prop} (hgd : op.guard = none) (t : TypeId) (parts : Array (Nat × Operand)) (ho : op.op = .build t parts) (v : Value)
    (hrun : (Instr.build t (parts.map fun (i, x) => (i, a.eval x))).run P w = .ok v w) (h : wpList P ops Q rest (a.put op.dst v) w) : wpList P ops Q (op :: rest) a w :=
  wpList_plain hgd fun K hK => by
    unfold Oper.wp execOp
    simp only [ho, Sem.run_bind, hrun, Result.andThen_ok, Sem.run_pure]
    exact hK _ _ h
theorem run_board (M : Mach) (S : Sl) (w : World) : (Instr.build 85 #[(0, .agg (machL M S).toArray)]).run Try.prog w = .ok (.agg (halfL M S nil66 nil66).toArray) w := by kernel_rfl
theorem run_sideL (g o n : Nat) (m : Nat) (r w' : Nat → Value) (w : World) : (Instr.build 83 #[(0, pt g o), (1, mval m g n), (2, .agg (portsN r w' 32).toArray)]).run Try.prog w = .ok (.agg (pt g o :: mval m g n :: portsN r w' 32).toArray) w := by kernel_rfl
theorem exec_build {P : Program} {a : Act} {o : Oper} {w : World} (t : TypeId) (parts : Array (Nat × Operand)) (ho : o.op = .build t parts) (v : Value) (hrun : (Instr.build t (parts.map fun (i, x) => (i, a.eval x))).run P w = .ok v w) : (execOp a.eval o).run P w = .ok (.value v) w := by
  unfold execOp
  simp only [ho, Sem.run_bind, hrun, Result.andThen_ok, Sem.run_pure]
theorem own_blk {B g : Nat} {M : Mach} {S : Sl} {Y : World} {j : Nat} (h : OwnAt B M S Y j) : ∃ k, Rw Y (S.get j) k (M.byt j) ∧ ((k = g + 1 ∧ S.get j = .slice none 0 0) ∨ (B ≤ k ∧ k < Y.heap.size ∧ ∃ n c, S.get j = .slice (some ⟨k, 0, none⟩) n c)) := by
  rcases h with ⟨e1, e2⟩ | ⟨b, cap, e1, e2, e3, e4⟩
  · exact ⟨g + 1, Or.inl ⟨e1, e2⟩, Or.inl ⟨rfl, e1⟩⟩
  · exact ⟨b, Or.inr ⟨cap, e1, e2, e4⟩, Or.inr ⟨e3, e4.z, _, _, e1⟩⟩
def sM (g n : Nat) : List Value := pt g 30 :: mval 45 g 0 :: portsN (fxE g (mE n)).rdM (fxE g (mE n)).wrM 32
def sA (g a : Nat) : List Value := pt g 31 :: mval 47 g 0 :: apL a g 24
theorem sM_len (g n : Nat) : (sM g n).length = 66 := by unfold sM; simp [portsN_len]
theorem sA_len (g n : Nat) : (sA g n).length = 66 := by unfold sA; simp [apL_len]
theorem cells_make (B g k0 k1 k2 k3 k4 n a : Nat) (S : Sl) (M : Mach) : (Fx.mk B g k0 k1 k2 k3 k4 S (boE n a)).cells M Tk.zero = halfL M S (sM g n) (sA g a) := by kernel_rfl
theorem Bd.make {w2 w5 : World} {M : Mach} {S1 : Sl} {B B1 n a : Nat} (hO : OwnK B1 M S1 5 w2) (hB : B ≤ B1) (hB2 : B1 ≤ w2.heap.size) (hf : M.fit) (hbx : Bx w5 w2.heap.size (halfL M S1 (sM w2.heap.size n) (sA w2.heap.size a))) (hk : ∀ b, b < w2.heap.size → w5.heap[b]? = w2.heap[b]?)
    (hE : EnvM w2.heap.size (mE n) w5) (hn : w2.heap.size < n) (hA : Bx w5 a [pt w2.heap.size 0] ∧ ∀ k, k < 24 → Bx w5 (a + 3 + 2 * k) [pt w2.heap.size 0] ∧ Bx w5 (a + 4 + 2 * k) [.int .i64 k]) (ha : w2.heap.size < a) :
    ∃ F : Fx, F.B = B ∧ F.g = w2.heap.size ∧ (F.B ≤ F.mr ∧ F.B ≤ F.ar) ∧ Bd F w5 M Tk.zero := by
  obtain ⟨k0, r0, d0⟩ := own_blk (g := w2.heap.size) (hO.own 0 (by omega))
  obtain ⟨k1, r1, d1⟩ := own_blk (g := w2.heap.size) (hO.own 1 (by omega))
  obtain ⟨k2, r2, d2⟩ := own_blk (g := w2.heap.size) (hO.own 2 (by omega))
  obtain ⟨k3, r3, d3⟩ := own_blk (g := w2.heap.size) (hO.own 3 (by omega))
  obtain ⟨k4, r4, d4⟩ := own_blk (g := w2.heap.size) (hO.own 4 (by omega))
  have hz := hbx.z
  have r0' : Rw w5 S1.mr k0 M.mrom := r0.same (by omega) (fun h => hk _ h)
  have r1' : Rw w5 S1.ar k1 M.arom := r1.same (by omega) (fun h => hk _ h)
  have r2' : Rw w5 S1.ra k2 M.ram := r2.same (by omega) (fun h => hk _ h)
  have r3' : Rw w5 S1.ow k3 M.own := r3.same (by omega) (fun h => hk _ h)
  have r4' : Rw w5 S1.vi k4 M.video := r4.same (by omega) (fun h => hk _ h)
  have n2 : S1.get 2 ≠ .slice none 0 0 := fun e => by
    obtain ⟨cap, e1, _⟩ := r2'.some (by rw [hf.ram]; omega)
    have : S1.get 2 = S1.ra := rfl
    rw [this, e1] at e; cases e
  have n3 : S1.get 3 ≠ .slice none 0 0 := fun e => by
    obtain ⟨cap, e1, _⟩ := r3'.some (by rw [hf.own]; omega)
    have : S1.get 3 = S1.ow := rfl
    rw [this, e1] at e; cases e
  have n4 : S1.get 4 ≠ .slice none 0 0 := fun e => by
    obtain ⟨cap, e1, _⟩ := r4'.some (by rw [hf.video]; omega)
    have : S1.get 4 = S1.vi := rfl
    rw [this, e1] at e; cases e
  rcases d2 with ⟨_, e⟩ | ⟨b2, z2, _, _, e2⟩
  · exact absurd e n2
  rcases d3 with ⟨_, e⟩ | ⟨b3, z3, _, _, e3⟩
  · exact absurd e n3
  rcases d4 with ⟨_, e⟩ | ⟨b4, z4, _, _, e4⟩
  · exact absurd e n4
  have x23 := hO.dist 2 3 _ _ _ _ _ _ (by omega) (by omega) (by omega) e2 e3
  have x24 := hO.dist 2 4 _ _ _ _ _ _ (by omega) (by omega) (by omega) e2 e4
  have x34 := hO.dist 3 4 _ _ _ _ _ _ (by omega) (by omega) (by omega) e3 e4
  have y0 : k0 ≠ w2.heap.size ∧ k0 ≠ k2 ∧ k0 ≠ k3 ∧ k0 ≠ k4 := by
    rcases d0 with ⟨e, _⟩ | ⟨_, z0, _, _, e0⟩
    · omega
    · have := hO.dist 0 2 _ _ _ _ _ _ (by omega) (by omega) (by omega) e0 e2
      have := hO.dist 0 3 _ _ _ _ _ _ (by omega) (by omega) (by omega) e0 e3
      have := hO.dist 0 4 _ _ _ _ _ _ (by omega) (by omega) (by omega) e0 e4
      exact ⟨by omega, by assumption, by assumption, by assumption⟩
  have y1 : k1 ≠ w2.heap.size ∧ k1 ≠ k2 ∧ k1 ≠ k3 ∧ k1 ≠ k4 := by
    rcases d1 with ⟨e, _⟩ | ⟨_, z0, _, _, e0⟩
    · omega
    · have := hO.dist 1 2 _ _ _ _ _ _ (by omega) (by omega) (by omega) e0 e2
      have := hO.dist 1 3 _ _ _ _ _ _ (by omega) (by omega) (by omega) e0 e3
      have := hO.dist 1 4 _ _ _ _ _ _ (by omega) (by omega) (by omega) e0 e4
      exact ⟨by omega, by assumption, by assumption, by assumption⟩
  have hT : ∀ x, w2.heap.size < x → ¬ (x = w2.heap.size ∨ x = k2 ∨ x = k3 ∨ x = k4) := fun x hx h => by omega
  obtain ⟨E0, E1, E2, E3, E4, E5, E6, E7, E8, E9, E10⟩ := hE
  refine ⟨⟨B, w2.heap.size, k0, k1, k2, k3, k4, S1, boE n a⟩, rfl, rfl, ⟨by show B ≤ k0; rcases d0 with ⟨e, _⟩ | ⟨e, _⟩ <;> omega, by show B ≤ k1; rcases d1 with ⟨e, _⟩ | ⟨e, _⟩ <;> omega⟩, by show Bx w5 w2.heap.size ((Fx.mk B w2.heap.size k0 k1 k2 k3 k4 S1 (boE n a)).cells M Tk.zero); rw [cells_make]; exact hbx, r0', r1', r2', r3', r4', fun x v hx => ?_, ⟨⟨by show B ≤ w2.heap.size; omega, by show B ≤ k2; omega, by show B ≤ k3; omega, by show B ≤ k4; omega⟩, ⟨by show w2.heap.size ≠ k2; omega, by show w2.heap.size ≠ k3; omega, by show w2.heap.size ≠ k4; omega, x23, x24, x34⟩, fun h => ?_, fun h => ?_, fun x v hx => ?_⟩, hf, by show B ≤ w5.heap.size; omega, World.ownsRow_nil _ _ _ _, fun k hk => by cases hk⟩
  · cases hx
    · exact ⟨E0.z, E0.at 0 _ rfl⟩
    · exact ⟨E1.z, E1.at 0 _ rfl⟩
    · exact ⟨E2.z, E2.at 0 _ rfl⟩
    · exact ⟨E3.z, E3.at 0 _ rfl⟩
    · exact ⟨E4.z, E4.at 0 _ rfl⟩
    · exact ⟨E5.z, E5.at 0 _ rfl⟩
    · exact ⟨E6.z, E6.at 0 _ rfl⟩
    · exact ⟨E7.z, E7.at 0 _ rfl⟩
    · exact ⟨E8.z, E8.at 0 _ rfl⟩
    · exact ⟨E9.z, E9.at 0 _ rfl⟩
    · exact ⟨E10.z, E10.at 0 _ rfl⟩
    · exact ⟨hA.1.z, hA.1.at 0 _ rfl⟩
    · rename_i i hi
      exact ⟨(hA.2 i hi).1.z, (hA.2 i hi).1.at 0 _ rfl⟩
    · rename_i i hi
      exact ⟨(hA.2 i hi).2.z, (hA.2 i hi).2.at 0 _ rfl⟩
  · have h' : k0 = w2.heap.size ∨ k0 = k2 ∨ k0 = k3 ∨ k0 = k4 := h
    omega
  · have h' : k1 = w2.heap.size ∨ k1 = k2 ∨ k1 = k3 ∨ k1 = k4 := h
    omega
  · refine hT x ?_
    cases hx
    · show w2.heap.size < n + 1; omega
    · show w2.heap.size < n + 2; omega
    · show w2.heap.size < n + 3; omega
    · show w2.heap.size < n + 4; omega
    · show w2.heap.size < n + 5; omega
    · show w2.heap.size < n + 6; omega
    · show w2.heap.size < n + 7; omega
    · show w2.heap.size < n + 8; omega
    · show w2.heap.size < n + 9; omega
    · show w2.heap.size < n + 10; omega
    · show w2.heap.size < n + 11; omega
    · exact ha
    · rename_i i hi
      show w2.heap.size < a + 3 + 2 * i; omega
    · rename_i i hi
      show w2.heap.size < a + 4 + 2 * i; omega
theorem Bu.roms_any2 (a1 a2 : Option Addr) (n1 c1 n2 c2 : Nat) (w : World) (h1 : n1 ≤ 9223372036854775807) (h2 : n2 ≤ 9223372036854775807) :
    Calls Try.prog 24 #[.slice a1 n1 c1, .slice a2 n2 c2] w fun e w' => e = .returned (.int .i64 (if n1 ≤ 1024 ∧ n2 ≤ 1024 then 0 else 2)) ∧ w = w' := by
  by_cases h : n1 ≤ 1024
  · have h' : ¬ (1024 : Int) < n1 := by omega
    by_cases k : n2 ≤ 1024
    · have k' : ¬ (1024 : Int) < n2 := by omega
      rw [if_pos ⟨h, k⟩]
      clear h k
      go_enter Try.func24, Try.ntmps24
      go_wp2
      go_ret
      exact ⟨rfl, rfl⟩
    · have k' : (1024 : Int) < n2 := by omega
      rw [if_neg (fun x => k x.2)]
      clear h k
      go_enter Try.func24, Try.ntmps24
      go_wp2
      go_ret
      exact ⟨rfl, rfl⟩
  · have h' : (1024 : Int) < n1 := by omega
    rw [if_neg (fun x => h x.1)]
    clear h
    go_enter Try.func24, Try.ntmps24
    go_wp2
    go_ret
    exact ⟨rfl, rfl⟩
theorem mcells {Y : World} {b : Nat} {M : Mach} {S : Sl} (h : Bx Y b (machL M S)) : (∀ j, j < 5 → Y.cell? ⟨b, 30 + j, none⟩ = some (S.get j)) ∧ Y.cell? ⟨b, 61, none⟩ = some (.int .i64 M.b.l) ∧ Y.cell? ⟨b, 62, none⟩ = some (.int .i64 M.b.a) ∧ Y.cell? ⟨b, 63, none⟩ = some (.bool M.b.g) ∧ Y.cell? ⟨b, 64, none⟩ = some (.int .i64 M.b.f) ∧
    Y.cell? ⟨b, 72, none⟩ = some (.int .i64 M.clock) ∧ Y.cell? ⟨b, 73, none⟩ = some (.int .i64 M.mready) ∧ Y.cell? ⟨b, 74, none⟩ = some (.int .i64 M.aready) ∧ b < Y.heap.size :=
  ⟨fun j hj => h.at _ _ (machL_at M S j hj), h.at 61 _ rfl, h.at 62 _ rfl, h.at 63 _ rfl, h.at 64 _ rfl, h.at 72 _ rfl, h.at 73 _ rfl, h.at 74 _ rfl, h.z⟩
/-- What Check's own text reads, the slices opened. -/
theorem mcells5 {Y : World} {b : Nat} {M : Mach} {S : Sl} {a0 a1 a2 a3 a4 : Option Addr} {c0 c1 c2 c3 c4 : Nat} (h : Bx Y b (machL M S)) (e0 : S.get 0 = .slice a0 M.mrom.length c0) (e1 : S.get 1 = .slice a1 M.arom.length c1) (e2 : S.get 2 = .slice a2 M.ram.length c2) (e3 : S.get 3 = .slice a3 M.own.length c3) (e4 : S.get 4 = .slice a4 M.video.length c4) :
    Y.cell? ⟨b, 30, none⟩ = some (.slice a0 M.mrom.length c0) ∧ Y.cell? ⟨b, 31, none⟩ = some (.slice a1 M.arom.length c1) ∧ Y.cell? ⟨b, 32, none⟩ = some (.slice a2 M.ram.length c2) ∧ Y.cell? ⟨b, 33, none⟩ = some (.slice a3 M.own.length c3) ∧ Y.cell? ⟨b, 34, none⟩ = some (.slice a4 M.video.length c4) := by
  rw [← e0, ← e1, ← e2, ← e3, ← e4]
  exact ⟨h.at 30 _ rfl, h.at 31 _ rfl, h.at 32 _ rfl, h.at 33 _ rfl, h.at 34 _ rfl⟩
theorem len_i {n m : Nat} (h : n = m) : ((n : Int) == (m : Int)) = true := by rw [h]; simp
theorem Sd.check (s : Sd) (w : World) : Calls Try.prog 25 #[.agg (sndL s).toArray] w fun e w' => e = .returned (.int .i64 (if 0 ≤ s.w ∧ s.w ≤ 15 then 0 else 3)) ∧ Below w.heap.size w w' := by
  by_cases h : 0 ≤ s.w ∧ s.w ≤ 15
  · rw [if_pos h]; exact check_ok s w h
  · rw [if_neg h]; exact check_bad s w (by omega)
theorem Bem.check (b : Bem) (w : World) : Calls Try.prog 26 #[.agg #[.int .i64 b.l, .int .i64 b.a, .bool b.g, .int .i64 b.f]] w fun e w' => e = .returned (.int .i64 (if bok b.l b.a b.f then 0 else 3)) ∧ Below w.heap.size w w' := by
  cases h : bok b.l b.a b.f
  · exact Bm.check_no b.l b.a b.f b.g w (fun x => by rw [(bok_iff _ _ _).2 x] at h; cases h)
  · exact Bm.check_yes b.l b.a b.f b.g w ((bok_iff _ _ _).1 h)
theorem Bu.ck_roms (M : Mach) (S : Sl) (w : World) (hS : S.lens M) (hz : ∀ j, j < 5 → (M.byt j).length ≤ 9223372036854775807) (hr : ¬ (M.mrom.length ≤ 1024 ∧ M.arom.length ≤ 1024)) :
    Calls Try.prog 10 #[.agg (machL M S).toArray] w fun e w' => e = .returned (.int .i64 2) ∧ Below w.heap.size w w' := by
  obtain ⟨a0, c0, e0⟩ := hS 0 (by omega)
  obtain ⟨a1, c1, e1⟩ := hS 1 (by omega)
  obtain ⟨a2, c2, e2⟩ := hS 2 (by omega)
  obtain ⟨a3, c3, e3⟩ := hS 3 (by omega)
  obtain ⟨a4, c4, e4⟩ := hS 4 (by omega)
  have hm0 : M.mrom.length ≤ 9223372036854775807 := hz 0 (by omega)
  have hm1 : M.arom.length ≤ 9223372036854775807 := hz 1 (by omega)
  have hB := Bx.new w (machL M S) 41 (b := w.heap.size) rfl
  obtain ⟨d0, d1, d2, d3, d4⟩ := mcells5 hB e0 e1 e2 e3 e4
  obtain ⟨_, f0, f1, f2, f3, f4, f5, f6, f7⟩ := mcells hB
  have HB := hid hB
  have HL := hid (stA (st0 w) (.cells (machL M S).toArray 41))
  have HR : Hid ((if M.mrom.length ≤ 1024 ∧ M.arom.length ≤ 1024 then (0 : Int) else 2) = 2) := hid (if_neg hr)
  clear hr
  clear hB hS hz e0 e1 e2 e3 e4
  go_enter Try.func10, Try.ntmps10
  go_wp2_with (first
    | (go_at_call 24; refine (Bu.roms_any2 _ _ _ _ _ _ _ hm0 hm1).mono ?_; rw [HR.out]; rintro e w0 ⟨rfl, rfl⟩)
    | (refine wpList_load_mid rfl 36 _ rfl w.heap.size 45 rfl (sndL M.s) _ HB.out.sndR Try.underlying36 rfl info_sound ?_)
    | (go_at_call 25; refine (Sd.check M.s _).mono ?_; rw [HS.out]; rintro e w1 ⟨rfl, hb1⟩; have HB1 := hid (HB.out.kept hb1); have HL1 := hid (stp HL.out hb1); obtain ⟨_, x0, x1, x2, x3, x4, x5, x6, x7⟩ := mcells HB1.out)
    | (go_at_call 26; refine (Bem.check M.b _).mono ?_; rw [HBM.out]; rintro e w2 ⟨rfl, hb2⟩; have HB2 := hid (HB1.out.kept hb2); have HL2 := hid (stp HL1.out hb2); obtain ⟨_, y0, y1, y2, y3, y4, y5, y6, y7⟩ := mcells HB2.out)
    | (go_at_call 27; refine (Bu.within_any _ _ _).mono ?_; (first | rw [K1.out] | rw [K2.out] | rw [K3.out]); rintro e w0 ⟨rfl, rfl⟩))
  go_ret
  exact ⟨rfl, HL.out⟩
theorem Bu.ck_ram (M : Mach) (S : Sl) (w : World) (hS : S.lens M) (hz : ∀ j, j < 5 → (M.byt j).length ≤ 9223372036854775807) (hr : M.mrom.length ≤ 1024 ∧ M.arom.length ≤ 1024) (hl : M.ram.length ≠ 128) :
    Calls Try.prog 10 #[.agg (machL M S).toArray] w fun e w' => e = .returned (.int .i64 4) ∧ Below w.heap.size w w' := by
  obtain ⟨a0, c0, e0⟩ := hS 0 (by omega)
  obtain ⟨a1, c1, e1⟩ := hS 1 (by omega)
  obtain ⟨a2, c2, e2⟩ := hS 2 (by omega)
  obtain ⟨a3, c3, e3⟩ := hS 3 (by omega)
  obtain ⟨a4, c4, e4⟩ := hS 4 (by omega)
  have hm0 : M.mrom.length ≤ 9223372036854775807 := hz 0 (by omega)
  have hm1 : M.arom.length ≤ 9223372036854775807 := hz 1 (by omega)
  have hB := Bx.new w (machL M S) 41 (b := w.heap.size) rfl
  obtain ⟨d0, d1, d2, d3, d4⟩ := mcells5 hB e0 e1 e2 e3 e4
  obtain ⟨_, f0, f1, f2, f3, f4, f5, f6, f7⟩ := mcells hB
  have HB := hid hB
  have HL := hid (stA (st0 w) (.cells (machL M S).toArray 41))
  have HR : Hid ((if M.mrom.length ≤ 1024 ∧ M.arom.length ≤ 1024 then (0 : Int) else 2) = 0) := hid (if_pos hr)
  have l2 : ¬ (M.ram.length : Int) = 128 := by omega
  clear hr hl
  clear hB hS hz e0 e1 e2 e3 e4
  go_enter Try.func10, Try.ntmps10
  go_wp2_with (first
    | (go_at_call 24; refine (Bu.roms_any2 _ _ _ _ _ _ _ hm0 hm1).mono ?_; rw [HR.out]; rintro e w0 ⟨rfl, rfl⟩)
    | (refine wpList_load_mid rfl 36 _ rfl w.heap.size 45 rfl (sndL M.s) _ HB.out.sndR Try.underlying36 rfl info_sound ?_)
    | (go_at_call 25; refine (Sd.check M.s _).mono ?_; rw [HS.out]; rintro e w1 ⟨rfl, hb1⟩; have HB1 := hid (HB.out.kept hb1); have HL1 := hid (stp HL.out hb1); obtain ⟨_, x0, x1, x2, x3, x4, x5, x6, x7⟩ := mcells HB1.out)
    | (go_at_call 26; refine (Bem.check M.b _).mono ?_; rw [HBM.out]; rintro e w2 ⟨rfl, hb2⟩; have HB2 := hid (HB1.out.kept hb2); have HL2 := hid (stp HL1.out hb2); obtain ⟨_, y0, y1, y2, y3, y4, y5, y6, y7⟩ := mcells HB2.out)
    | (go_at_call 27; refine (Bu.within_any _ _ _).mono ?_; (first | rw [K1.out] | rw [K2.out] | rw [K3.out]); rintro e w0 ⟨rfl, rfl⟩))
  go_ret
  exact ⟨rfl, HL.out⟩
theorem Bu.ck_own (M : Mach) (S : Sl) (w : World) (hS : S.lens M) (hz : ∀ j, j < 5 → (M.byt j).length ≤ 9223372036854775807) (hr : M.mrom.length ≤ 1024 ∧ M.arom.length ≤ 1024) (hl0 : M.ram.length = 128) (hl : M.own.length ≠ 64) :
    Calls Try.prog 10 #[.agg (machL M S).toArray] w fun e w' => e = .returned (.int .i64 4) ∧ Below w.heap.size w w' := by
  obtain ⟨a0, c0, e0⟩ := hS 0 (by omega)
  obtain ⟨a1, c1, e1⟩ := hS 1 (by omega)
  obtain ⟨a2, c2, e2⟩ := hS 2 (by omega)
  obtain ⟨a3, c3, e3⟩ := hS 3 (by omega)
  obtain ⟨a4, c4, e4⟩ := hS 4 (by omega)
  have hm0 : M.mrom.length ≤ 9223372036854775807 := hz 0 (by omega)
  have hm1 : M.arom.length ≤ 9223372036854775807 := hz 1 (by omega)
  have hB := Bx.new w (machL M S) 41 (b := w.heap.size) rfl
  obtain ⟨d0, d1, d2, d3, d4⟩ := mcells5 hB e0 e1 e2 e3 e4
  obtain ⟨_, f0, f1, f2, f3, f4, f5, f6, f7⟩ := mcells hB
  have HB := hid hB
  have HL := hid (stA (st0 w) (.cells (machL M S).toArray 41))
  have HR : Hid ((if M.mrom.length ≤ 1024 ∧ M.arom.length ≤ 1024 then (0 : Int) else 2) = 0) := hid (if_pos hr)
  rw [hl0] at d2
  have l2 : ¬ (M.own.length : Int) = 64 := by omega
  clear hr hl hl0
  clear hB hS hz e0 e1 e2 e3 e4
  go_enter Try.func10, Try.ntmps10
  go_wp2_with (first
    | (go_at_call 24; refine (Bu.roms_any2 _ _ _ _ _ _ _ hm0 hm1).mono ?_; rw [HR.out]; rintro e w0 ⟨rfl, rfl⟩)
    | (refine wpList_load_mid rfl 36 _ rfl w.heap.size 45 rfl (sndL M.s) _ HB.out.sndR Try.underlying36 rfl info_sound ?_)
    | (go_at_call 25; refine (Sd.check M.s _).mono ?_; rw [HS.out]; rintro e w1 ⟨rfl, hb1⟩; have HB1 := hid (HB.out.kept hb1); have HL1 := hid (stp HL.out hb1); obtain ⟨_, x0, x1, x2, x3, x4, x5, x6, x7⟩ := mcells HB1.out)
    | (go_at_call 26; refine (Bem.check M.b _).mono ?_; rw [HBM.out]; rintro e w2 ⟨rfl, hb2⟩; have HB2 := hid (HB1.out.kept hb2); have HL2 := hid (stp HL1.out hb2); obtain ⟨_, y0, y1, y2, y3, y4, y5, y6, y7⟩ := mcells HB2.out)
    | (go_at_call 27; refine (Bu.within_any _ _ _).mono ?_; (first | rw [K1.out] | rw [K2.out] | rw [K3.out]); rintro e w0 ⟨rfl, rfl⟩))
  go_ret
  exact ⟨rfl, HL.out⟩
theorem Bu.ck_video (M : Mach) (S : Sl) (w : World) (hS : S.lens M) (hz : ∀ j, j < 5 → (M.byt j).length ≤ 9223372036854775807) (hr : M.mrom.length ≤ 1024 ∧ M.arom.length ≤ 1024) (hl0 : M.ram.length = 128) (hl1 : M.own.length = 64) (hl : M.video.length ≠ 256) :
    Calls Try.prog 10 #[.agg (machL M S).toArray] w fun e w' => e = .returned (.int .i64 4) ∧ Below w.heap.size w w' := by
  obtain ⟨a0, c0, e0⟩ := hS 0 (by omega)
  obtain ⟨a1, c1, e1⟩ := hS 1 (by omega)
  obtain ⟨a2, c2, e2⟩ := hS 2 (by omega)
  obtain ⟨a3, c3, e3⟩ := hS 3 (by omega)
  obtain ⟨a4, c4, e4⟩ := hS 4 (by omega)
  have hm0 : M.mrom.length ≤ 9223372036854775807 := hz 0 (by omega)
  have hm1 : M.arom.length ≤ 9223372036854775807 := hz 1 (by omega)
  have hB := Bx.new w (machL M S) 41 (b := w.heap.size) rfl
  obtain ⟨d0, d1, d2, d3, d4⟩ := mcells5 hB e0 e1 e2 e3 e4
  obtain ⟨_, f0, f1, f2, f3, f4, f5, f6, f7⟩ := mcells hB
  have HB := hid hB
  have HL := hid (stA (st0 w) (.cells (machL M S).toArray 41))
  have HR : Hid ((if M.mrom.length ≤ 1024 ∧ M.arom.length ≤ 1024 then (0 : Int) else 2) = 0) := hid (if_pos hr)
  rw [hl0] at d2
  rw [hl1] at d3
  have l2 : ¬ (M.video.length : Int) = 256 := by omega
  clear hr hl hl0 hl1
  clear hB hS hz e0 e1 e2 e3 e4
  go_enter Try.func10, Try.ntmps10
  go_wp2_with (first
    | (go_at_call 24; refine (Bu.roms_any2 _ _ _ _ _ _ _ hm0 hm1).mono ?_; rw [HR.out]; rintro e w0 ⟨rfl, rfl⟩)
    | (refine wpList_load_mid rfl 36 _ rfl w.heap.size 45 rfl (sndL M.s) _ HB.out.sndR Try.underlying36 rfl info_sound ?_)
    | (go_at_call 25; refine (Sd.check M.s _).mono ?_; rw [HS.out]; rintro e w1 ⟨rfl, hb1⟩; have HB1 := hid (HB.out.kept hb1); have HL1 := hid (stp HL.out hb1); obtain ⟨_, x0, x1, x2, x3, x4, x5, x6, x7⟩ := mcells HB1.out)
    | (go_at_call 26; refine (Bem.check M.b _).mono ?_; rw [HBM.out]; rintro e w2 ⟨rfl, hb2⟩; have HB2 := hid (HB1.out.kept hb2); have HL2 := hid (stp HL1.out hb2); obtain ⟨_, y0, y1, y2, y3, y4, y5, y6, y7⟩ := mcells HB2.out)
    | (go_at_call 27; refine (Bu.within_any _ _ _).mono ?_; (first | rw [K1.out] | rw [K2.out] | rw [K3.out]); rintro e w0 ⟨rfl, rfl⟩))
  go_ret
  exact ⟨rfl, HL.out⟩
theorem Bu.ck_tone (M : Mach) (S : Sl) (w : World) (hS : S.lens M) (hz : ∀ j, j < 5 → (M.byt j).length ≤ 9223372036854775807) (hr : M.mrom.length ≤ 1024 ∧ M.arom.length ≤ 1024) (hl : M.ram.length = 128 ∧ M.own.length = 64 ∧ M.video.length = 256) (hw : ¬ (0 ≤ M.s.w ∧ M.s.w ≤ 15)) :
    Calls Try.prog 10 #[.agg (machL M S).toArray] w fun e w' => e = .returned (.int .i64 3) ∧ Below w.heap.size w w' := by
  obtain ⟨a0, c0, e0⟩ := hS 0 (by omega)
  obtain ⟨a1, c1, e1⟩ := hS 1 (by omega)
  obtain ⟨a2, c2, e2⟩ := hS 2 (by omega)
  obtain ⟨a3, c3, e3⟩ := hS 3 (by omega)
  obtain ⟨a4, c4, e4⟩ := hS 4 (by omega)
  have hm0 : M.mrom.length ≤ 9223372036854775807 := hz 0 (by omega)
  have hm1 : M.arom.length ≤ 9223372036854775807 := hz 1 (by omega)
  have hB := Bx.new w (machL M S) 41 (b := w.heap.size) rfl
  obtain ⟨d0, d1, d2, d3, d4⟩ := mcells5 hB e0 e1 e2 e3 e4
  obtain ⟨_, f0, f1, f2, f3, f4, f5, f6, f7⟩ := mcells hB
  have HB := hid hB
  have HL := hid (stA (st0 w) (.cells (machL M S).toArray 41))
  have HR : Hid ((if M.mrom.length ≤ 1024 ∧ M.arom.length ≤ 1024 then (0 : Int) else 2) = 0) := hid (if_pos hr)
  rw [hl.1] at d2
  rw [hl.2.1] at d3
  rw [hl.2.2] at d4
  have HS : Hid ((if 0 ≤ M.s.w ∧ M.s.w ≤ 15 then (0 : Int) else 3) = 3) := hid (if_neg hw)
  clear hr hl hw
  clear hB hS hz e0 e1 e2 e3 e4
  go_enter Try.func10, Try.ntmps10
  go_wp2_with (first
    | (go_at_call 24; refine (Bu.roms_any2 _ _ _ _ _ _ _ hm0 hm1).mono ?_; rw [HR.out]; rintro e w0 ⟨rfl, rfl⟩)
    | (refine wpList_load_mid rfl 36 _ rfl w.heap.size 45 rfl (sndL M.s) _ HB.out.sndR Try.underlying36 rfl info_sound ?_)
    | (go_at_call 25; refine (Sd.check M.s _).mono ?_; rw [HS.out]; rintro e w1 ⟨rfl, hb1⟩; have HB1 := hid (HB.out.kept hb1); have HL1 := hid (stp HL.out hb1); obtain ⟨_, x0, x1, x2, x3, x4, x5, x6, x7⟩ := mcells HB1.out)
    | (go_at_call 26; refine (Bem.check M.b _).mono ?_; rw [HBM.out]; rintro e w2 ⟨rfl, hb2⟩; have HB2 := hid (HB1.out.kept hb2); have HL2 := hid (stp HL1.out hb2); obtain ⟨_, y0, y1, y2, y3, y4, y5, y6, y7⟩ := mcells HB2.out)
    | (go_at_call 27; refine (Bu.within_any _ _ _).mono ?_; (first | rw [K1.out] | rw [K2.out] | rw [K3.out]); rintro e w0 ⟨rfl, rfl⟩))
  go_ret
  exact ⟨rfl, HL1.out⟩
theorem Bu.ck_beam (M : Mach) (S : Sl) (w : World) (hS : S.lens M) (hz : ∀ j, j < 5 → (M.byt j).length ≤ 9223372036854775807) (hr : M.mrom.length ≤ 1024 ∧ M.arom.length ≤ 1024) (hl : M.ram.length = 128 ∧ M.own.length = 64 ∧ M.video.length = 256) (hw : 0 ≤ M.s.w ∧ M.s.w ≤ 15) (hb : bok M.b.l M.b.a M.b.f = false) :
    Calls Try.prog 10 #[.agg (machL M S).toArray] w fun e w' => e = .returned (.int .i64 3) ∧ Below w.heap.size w w' := by
  obtain ⟨a0, c0, e0⟩ := hS 0 (by omega)
  obtain ⟨a1, c1, e1⟩ := hS 1 (by omega)
  obtain ⟨a2, c2, e2⟩ := hS 2 (by omega)
  obtain ⟨a3, c3, e3⟩ := hS 3 (by omega)
  obtain ⟨a4, c4, e4⟩ := hS 4 (by omega)
  have hm0 : M.mrom.length ≤ 9223372036854775807 := hz 0 (by omega)
  have hm1 : M.arom.length ≤ 9223372036854775807 := hz 1 (by omega)
  have hB := Bx.new w (machL M S) 41 (b := w.heap.size) rfl
  obtain ⟨d0, d1, d2, d3, d4⟩ := mcells5 hB e0 e1 e2 e3 e4
  obtain ⟨_, f0, f1, f2, f3, f4, f5, f6, f7⟩ := mcells hB
  have HB := hid hB
  have HL := hid (stA (st0 w) (.cells (machL M S).toArray 41))
  have HR : Hid ((if M.mrom.length ≤ 1024 ∧ M.arom.length ≤ 1024 then (0 : Int) else 2) = 0) := hid (if_pos hr)
  rw [hl.1] at d2
  rw [hl.2.1] at d3
  rw [hl.2.2] at d4
  have HS : Hid ((if 0 ≤ M.s.w ∧ M.s.w ≤ 15 then (0 : Int) else 3) = 0) := hid (if_pos hw)
  have HBM : Hid ((if bok M.b.l M.b.a M.b.f then (0 : Int) else 3) = 3) := hid (by rw [hb]; rfl)
  clear hr hl hw hb
  clear hB hS hz e0 e1 e2 e3 e4
  go_enter Try.func10, Try.ntmps10
  go_wp2_with (first
    | (go_at_call 24; refine (Bu.roms_any2 _ _ _ _ _ _ _ hm0 hm1).mono ?_; rw [HR.out]; rintro e w0 ⟨rfl, rfl⟩)
    | (refine wpList_load_mid rfl 36 _ rfl w.heap.size 45 rfl (sndL M.s) _ HB.out.sndR Try.underlying36 rfl info_sound ?_)
    | (go_at_call 25; refine (Sd.check M.s _).mono ?_; rw [HS.out]; rintro e w1 ⟨rfl, hb1⟩; have HB1 := hid (HB.out.kept hb1); have HL1 := hid (stp HL.out hb1); obtain ⟨_, x0, x1, x2, x3, x4, x5, x6, x7⟩ := mcells HB1.out)
    | (go_at_call 26; refine (Bem.check M.b _).mono ?_; rw [HBM.out]; rintro e w2 ⟨rfl, hb2⟩; have HB2 := hid (HB1.out.kept hb2); have HL2 := hid (stp HL1.out hb2); obtain ⟨_, y0, y1, y2, y3, y4, y5, y6, y7⟩ := mcells HB2.out)
    | (go_at_call 27; refine (Bu.within_any _ _ _).mono ?_; (first | rw [K1.out] | rw [K2.out] | rw [K3.out]); rintro e w0 ⟨rfl, rfl⟩))
  go_ret
  exact ⟨rfl, HL2.out⟩
set_option maxHeartbeats 3200000 in
theorem Bu.ck_clock (M : Mach) (S : Sl) (w : World) (hS : S.lens M) (hz : ∀ j, j < 5 → (M.byt j).length ≤ 9223372036854775807) (hr : M.mrom.length ≤ 1024 ∧ M.arom.length ≤ 1024) (hl : M.ram.length = 128 ∧ M.own.length = 64 ∧ M.video.length = 256) (hw : 0 ≤ M.s.w ∧ M.s.w ≤ 15) (hb : bok M.b.l M.b.a M.b.f = true) (hc : ¬ (0 ≤ M.clock ∧ M.clock ≤ 200000)) :
    Calls Try.prog 10 #[.agg (machL M S).toArray] w fun e w' => e = .returned (.int .i64 3) ∧ Below w.heap.size w w' := by
  obtain ⟨a0, c0, e0⟩ := hS 0 (by omega)
  obtain ⟨a1, c1, e1⟩ := hS 1 (by omega)
  obtain ⟨a2, c2, e2⟩ := hS 2 (by omega)
  obtain ⟨a3, c3, e3⟩ := hS 3 (by omega)
  obtain ⟨a4, c4, e4⟩ := hS 4 (by omega)
  have hm0 : M.mrom.length ≤ 9223372036854775807 := hz 0 (by omega)
  have hm1 : M.arom.length ≤ 9223372036854775807 := hz 1 (by omega)
  have hB := Bx.new w (machL M S) 41 (b := w.heap.size) rfl
  obtain ⟨d0, d1, d2, d3, d4⟩ := mcells5 hB e0 e1 e2 e3 e4
  obtain ⟨_, f0, f1, f2, f3, f4, f5, f6, f7⟩ := mcells hB
  have HB := hid hB
  have HL := hid (stA (st0 w) (.cells (machL M S).toArray 41))
  have HR : Hid ((if M.mrom.length ≤ 1024 ∧ M.arom.length ≤ 1024 then (0 : Int) else 2) = 0) := hid (if_pos hr)
  rw [hl.1] at d2
  rw [hl.2.1] at d3
  rw [hl.2.2] at d4
  have HS : Hid ((if 0 ≤ M.s.w ∧ M.s.w ≤ 15 then (0 : Int) else 3) = 0) := hid (if_pos hw)
  have HBM : Hid ((if bok M.b.l M.b.a M.b.f then (0 : Int) else 3) = 0) := hid (by rw [hb]; rfl)
  have K1 : Hid (decide (0 ≤ M.clock ∧ M.clock ≤ 200000) = false) := hid (decide_eq_false hc)
  clear hr hl hw hb hc
  clear hB hS hz e0 e1 e2 e3 e4
  go_enter Try.func10, Try.ntmps10
  go_wp2_with (first
    | (go_at_call 24; refine (Bu.roms_any2 _ _ _ _ _ _ _ hm0 hm1).mono ?_; rw [HR.out]; rintro e w0 ⟨rfl, rfl⟩)
    | (refine wpList_load_mid rfl 36 _ rfl w.heap.size 45 rfl (sndL M.s) _ HB.out.sndR Try.underlying36 rfl info_sound ?_)
    | (go_at_call 25; refine (Sd.check M.s _).mono ?_; rw [HS.out]; rintro e w1 ⟨rfl, hb1⟩; have HB1 := hid (HB.out.kept hb1); have HL1 := hid (stp HL.out hb1); obtain ⟨_, x0, x1, x2, x3, x4, x5, x6, x7⟩ := mcells HB1.out)
    | (go_at_call 26; refine (Bem.check M.b _).mono ?_; rw [HBM.out]; rintro e w2 ⟨rfl, hb2⟩; have HB2 := hid (HB1.out.kept hb2); have HL2 := hid (stp HL1.out hb2); obtain ⟨_, y0, y1, y2, y3, y4, y5, y6, y7⟩ := mcells HB2.out)
    | (go_at_call 27; refine (Bu.within_any _ _ _).mono ?_; (first | rw [K1.out] | rw [K2.out] | rw [K3.out]); rintro e w0 ⟨rfl, rfl⟩))
  go_ret
  exact ⟨rfl, HL2.out⟩
set_option maxHeartbeats 3200000 in
theorem Bu.ck_main (M : Mach) (S : Sl) (w : World) (hS : S.lens M) (hz : ∀ j, j < 5 → (M.byt j).length ≤ 9223372036854775807) (hr : M.mrom.length ≤ 1024 ∧ M.arom.length ≤ 1024) (hl : M.ram.length = 128 ∧ M.own.length = 64 ∧ M.video.length = 256) (hw : 0 ≤ M.s.w ∧ M.s.w ≤ 15) (hb : bok M.b.l M.b.a M.b.f = true) (hc : 0 ≤ M.clock ∧ M.clock ≤ 200000) (hm : ¬ (0 ≤ M.mready ∧ M.mready ≤ M.clock + 20000)) :
    Calls Try.prog 10 #[.agg (machL M S).toArray] w fun e w' => e = .returned (.int .i64 3) ∧ Below w.heap.size w w' := by
  obtain ⟨a0, c0, e0⟩ := hS 0 (by omega)
  obtain ⟨a1, c1, e1⟩ := hS 1 (by omega)
  obtain ⟨a2, c2, e2⟩ := hS 2 (by omega)
  obtain ⟨a3, c3, e3⟩ := hS 3 (by omega)
  obtain ⟨a4, c4, e4⟩ := hS 4 (by omega)
  have hm0 : M.mrom.length ≤ 9223372036854775807 := hz 0 (by omega)
  have hm1 : M.arom.length ≤ 9223372036854775807 := hz 1 (by omega)
  have hB := Bx.new w (machL M S) 41 (b := w.heap.size) rfl
  obtain ⟨d0, d1, d2, d3, d4⟩ := mcells5 hB e0 e1 e2 e3 e4
  obtain ⟨_, f0, f1, f2, f3, f4, f5, f6, f7⟩ := mcells hB
  have HB := hid hB
  have HL := hid (stA (st0 w) (.cells (machL M S).toArray 41))
  have HR : Hid ((if M.mrom.length ≤ 1024 ∧ M.arom.length ≤ 1024 then (0 : Int) else 2) = 0) := hid (if_pos hr)
  rw [hl.1] at d2
  rw [hl.2.1] at d3
  rw [hl.2.2] at d4
  have HS : Hid ((if 0 ≤ M.s.w ∧ M.s.w ≤ 15 then (0 : Int) else 3) = 0) := hid (if_pos hw)
  have HBM : Hid ((if bok M.b.l M.b.a M.b.f then (0 : Int) else 3) = 0) := hid (by rw [hb]; rfl)
  have K1 : Hid (decide (0 ≤ M.clock ∧ M.clock ≤ 200000) = true) := hid (decide_eq_true hc)
  have K2 : Hid (decide (0 ≤ M.mready ∧ M.mready ≤ M.clock + 20000) = false) := hid (decide_eq_false hm)
  obtain ⟨hc0, hc1⟩ := hc
  clear hr hl hw hb hm
  clear hB hS hz e0 e1 e2 e3 e4
  go_enter Try.func10, Try.ntmps10
  go_wp2_with (first
    | (go_at_call 24; refine (Bu.roms_any2 _ _ _ _ _ _ _ hm0 hm1).mono ?_; rw [HR.out]; rintro e w0 ⟨rfl, rfl⟩)
    | (refine wpList_load_mid rfl 36 _ rfl w.heap.size 45 rfl (sndL M.s) _ HB.out.sndR Try.underlying36 rfl info_sound ?_)
    | (go_at_call 25; refine (Sd.check M.s _).mono ?_; rw [HS.out]; rintro e w1 ⟨rfl, hb1⟩; have HB1 := hid (HB.out.kept hb1); have HL1 := hid (stp HL.out hb1); obtain ⟨_, x0, x1, x2, x3, x4, x5, x6, x7⟩ := mcells HB1.out)
    | (go_at_call 26; refine (Bem.check M.b _).mono ?_; rw [HBM.out]; rintro e w2 ⟨rfl, hb2⟩; have HB2 := hid (HB1.out.kept hb2); have HL2 := hid (stp HL1.out hb2); obtain ⟨_, y0, y1, y2, y3, y4, y5, y6, y7⟩ := mcells HB2.out)
    | (go_at_call 27; refine (Bu.within_any _ _ _).mono ?_; (first | rw [K1.out] | rw [K2.out] | rw [K3.out]); rintro e w0 ⟨rfl, rfl⟩))
  go_ret
  exact ⟨rfl, HL2.out⟩
theorem Bu.ck_aux (M : Mach) (S : Sl) (w : World) (hS : S.lens M) (hz : ∀ j, j < 5 → (M.byt j).length ≤ 9223372036854775807) (hr : M.mrom.length ≤ 1024 ∧ M.arom.length ≤ 1024) (hl : M.ram.length = 128 ∧ M.own.length = 64 ∧ M.video.length = 256) (hw : 0 ≤ M.s.w ∧ M.s.w ≤ 15) (hb : bok M.b.l M.b.a M.b.f = true) (hc : 0 ≤ M.clock ∧ M.clock ≤ 200000) (hm : 0 ≤ M.mready ∧ M.mready ≤ M.clock + 20000) (ha : ¬ (0 ≤ M.aready ∧ M.aready ≤ M.clock + 20000)) :
    Calls Try.prog 10 #[.agg (machL M S).toArray] w fun e w' => e = .returned (.int .i64 3) ∧ Below w.heap.size w w' := by
  obtain ⟨a0, c0, e0⟩ := hS 0 (by omega)
  obtain ⟨a1, c1, e1⟩ := hS 1 (by omega)
  obtain ⟨a2, c2, e2⟩ := hS 2 (by omega)
  obtain ⟨a3, c3, e3⟩ := hS 3 (by omega)
  obtain ⟨a4, c4, e4⟩ := hS 4 (by omega)
  have hm0 : M.mrom.length ≤ 9223372036854775807 := hz 0 (by omega)
  have hm1 : M.arom.length ≤ 9223372036854775807 := hz 1 (by omega)
  have hB := Bx.new w (machL M S) 41 (b := w.heap.size) rfl
  obtain ⟨d0, d1, d2, d3, d4⟩ := mcells5 hB e0 e1 e2 e3 e4
  obtain ⟨_, f0, f1, f2, f3, f4, f5, f6, f7⟩ := mcells hB
  have HB := hid hB
  have HL := hid (stA (st0 w) (.cells (machL M S).toArray 41))
  have HR : Hid ((if M.mrom.length ≤ 1024 ∧ M.arom.length ≤ 1024 then (0 : Int) else 2) = 0) := hid (if_pos hr)
  rw [hl.1] at d2
  rw [hl.2.1] at d3
  rw [hl.2.2] at d4
  have HS : Hid ((if 0 ≤ M.s.w ∧ M.s.w ≤ 15 then (0 : Int) else 3) = 0) := hid (if_pos hw)
  have HBM : Hid ((if bok M.b.l M.b.a M.b.f then (0 : Int) else 3) = 0) := hid (by rw [hb]; rfl)
  have K1 : Hid (decide (0 ≤ M.clock ∧ M.clock ≤ 200000) = true) := hid (decide_eq_true hc)
  have K2 : Hid (decide (0 ≤ M.mready ∧ M.mready ≤ M.clock + 20000) = true) := hid (decide_eq_true hm)
  have K3 : Hid (decide (0 ≤ M.aready ∧ M.aready ≤ M.clock + 20000) = false) := hid (decide_eq_false ha)
  obtain ⟨hc0, hc1⟩ := hc
  clear hr hl hw hb hm ha
  clear hB hS hz e0 e1 e2 e3 e4
  go_enter Try.func10, Try.ntmps10
  go_wp2_with (first
    | (go_at_call 24; refine (Bu.roms_any2 _ _ _ _ _ _ _ hm0 hm1).mono ?_; rw [HR.out]; rintro e w0 ⟨rfl, rfl⟩)
    | (refine wpList_load_mid rfl 36 _ rfl w.heap.size 45 rfl (sndL M.s) _ HB.out.sndR Try.underlying36 rfl info_sound ?_)
    | (go_at_call 25; refine (Sd.check M.s _).mono ?_; rw [HS.out]; rintro e w1 ⟨rfl, hb1⟩; have HB1 := hid (HB.out.kept hb1); have HL1 := hid (stp HL.out hb1); obtain ⟨_, x0, x1, x2, x3, x4, x5, x6, x7⟩ := mcells HB1.out)
    | (go_at_call 26; refine (Bem.check M.b _).mono ?_; rw [HBM.out]; rintro e w2 ⟨rfl, hb2⟩; have HB2 := hid (HB1.out.kept hb2); have HL2 := hid (stp HL1.out hb2); obtain ⟨_, y0, y1, y2, y3, y4, y5, y6, y7⟩ := mcells HB2.out)
    | (go_at_call 27; refine (Bu.within_any _ _ _).mono ?_; (first | rw [K1.out] | rw [K2.out] | rw [K3.out]); rintro e w0 ⟨rfl, rfl⟩))
  go_ret
  exact ⟨rfl, HL2.out⟩
theorem Bu.ck_ok (M : Mach) (S : Sl) (w : World) (hS : S.lens M) (hz : ∀ j, j < 5 → (M.byt j).length ≤ 9223372036854775807) (hr : M.mrom.length ≤ 1024 ∧ M.arom.length ≤ 1024) (hl : M.ram.length = 128 ∧ M.own.length = 64 ∧ M.video.length = 256) (hw : 0 ≤ M.s.w ∧ M.s.w ≤ 15) (hb : bok M.b.l M.b.a M.b.f = true) (hc : 0 ≤ M.clock ∧ M.clock ≤ 200000) (hm : 0 ≤ M.mready ∧ M.mready ≤ M.clock + 20000) (ha : 0 ≤ M.aready ∧ M.aready ≤ M.clock + 20000) :
    Calls Try.prog 10 #[.agg (machL M S).toArray] w fun e w' => e = .returned (.int .i64 0) ∧ Below w.heap.size w w' := by
  obtain ⟨a0, c0, e0⟩ := hS 0 (by omega)
  obtain ⟨a1, c1, e1⟩ := hS 1 (by omega)
  obtain ⟨a2, c2, e2⟩ := hS 2 (by omega)
  obtain ⟨a3, c3, e3⟩ := hS 3 (by omega)
  obtain ⟨a4, c4, e4⟩ := hS 4 (by omega)
  have hm0 : M.mrom.length ≤ 9223372036854775807 := hz 0 (by omega)
  have hm1 : M.arom.length ≤ 9223372036854775807 := hz 1 (by omega)
  have hB := Bx.new w (machL M S) 41 (b := w.heap.size) rfl
  obtain ⟨d0, d1, d2, d3, d4⟩ := mcells5 hB e0 e1 e2 e3 e4
  obtain ⟨_, f0, f1, f2, f3, f4, f5, f6, f7⟩ := mcells hB
  have HB := hid hB
  have HL := hid (stA (st0 w) (.cells (machL M S).toArray 41))
  have HR : Hid ((if M.mrom.length ≤ 1024 ∧ M.arom.length ≤ 1024 then (0 : Int) else 2) = 0) := hid (if_pos hr)
  rw [hl.1] at d2
  rw [hl.2.1] at d3
  rw [hl.2.2] at d4
  have HS : Hid ((if 0 ≤ M.s.w ∧ M.s.w ≤ 15 then (0 : Int) else 3) = 0) := hid (if_pos hw)
  have HBM : Hid ((if bok M.b.l M.b.a M.b.f then (0 : Int) else 3) = 0) := hid (by rw [hb]; rfl)
  have K1 : Hid (decide (0 ≤ M.clock ∧ M.clock ≤ 200000) = true) := hid (decide_eq_true hc)
  have K2 : Hid (decide (0 ≤ M.mready ∧ M.mready ≤ M.clock + 20000) = true) := hid (decide_eq_true hm)
  have K3 : Hid (decide (0 ≤ M.aready ∧ M.aready ≤ M.clock + 20000) = true) := hid (decide_eq_true ha)
  obtain ⟨hc0, hc1⟩ := hc
  clear hr hl hw hb hm ha
  clear hB hS hz e0 e1 e2 e3 e4
  go_enter Try.func10, Try.ntmps10
  go_wp2_with (first
    | (go_at_call 24; refine (Bu.roms_any2 _ _ _ _ _ _ _ hm0 hm1).mono ?_; rw [HR.out]; rintro e w0 ⟨rfl, rfl⟩)
    | (refine wpList_load_mid rfl 36 _ rfl w.heap.size 45 rfl (sndL M.s) _ HB.out.sndR Try.underlying36 rfl info_sound ?_)
    | (go_at_call 25; refine (Sd.check M.s _).mono ?_; rw [HS.out]; rintro e w1 ⟨rfl, hb1⟩; have HB1 := hid (HB.out.kept hb1); have HL1 := hid (stp HL.out hb1); obtain ⟨_, x0, x1, x2, x3, x4, x5, x6, x7⟩ := mcells HB1.out)
    | (go_at_call 26; refine (Bem.check M.b _).mono ?_; rw [HBM.out]; rintro e w2 ⟨rfl, hb2⟩; have HB2 := hid (HB1.out.kept hb2); have HL2 := hid (stp HL1.out hb2); obtain ⟨_, y0, y1, y2, y3, y4, y5, y6, y7⟩ := mcells HB2.out)
    | (go_at_call 27; refine (Bu.within_any _ _ _).mono ?_; (first | rw [K1.out] | rw [K2.out] | rw [K3.out]); rintro e w0 ⟨rfl, rfl⟩))
  go_ret
  exact ⟨rfl, HL2.out⟩
theorem Bu.check_any (M : Mach) (S : Sl) (w : World) (hS : S.lens M) (hz : ∀ j, j < 5 → (M.byt j).length ≤ 9223372036854775807) :
    Calls Try.prog 10 #[.agg (machL M S).toArray] w fun e w' => e = .returned (.int .i64 M.chk) ∧ Below w.heap.size w w' := by
  unfold Mach.chk
  by_cases hr : M.mrom.length ≤ 1024 ∧ M.arom.length ≤ 1024
  · rw [if_pos hr]
    by_cases hl : M.ram.length = 128 ∧ M.own.length = 64 ∧ M.video.length = 256
    · rw [if_pos hl]
      by_cases hw : 0 ≤ M.s.w ∧ M.s.w ≤ 15
      · rw [if_pos hw]
        cases hb : bok M.b.l M.b.a M.b.f
        · exact Bu.ck_beam M S w hS hz hr hl hw hb
        · rw [if_pos rfl]
          by_cases hc : 0 ≤ M.clock ∧ M.clock ≤ 200000
          · by_cases hm : 0 ≤ M.mready ∧ M.mready ≤ M.clock + 20000
            · by_cases ha : 0 ≤ M.aready ∧ M.aready ≤ M.clock + 20000
              · rw [if_pos ⟨hc, hm, ha⟩]; exact Bu.ck_ok M S w hS hz hr hl hw hb hc hm ha
              · rw [if_neg (fun x => ha x.2.2)]; exact Bu.ck_aux M S w hS hz hr hl hw hb hc hm ha
            · rw [if_neg (fun x => hm x.2.1)]; exact Bu.ck_main M S w hS hz hr hl hw hb hc hm
          · rw [if_neg (fun x => hc x.1)]; exact Bu.ck_clock M S w hS hz hr hl hw hb hc
      · rw [if_neg hw]; exact Bu.ck_tone M S w hS hz hr hl hw
    · rw [if_neg hl]
      by_cases h1 : M.ram.length = 128
      · by_cases h2 : M.own.length = 64
        · exact Bu.ck_video M S w hS hz hr h1 h2 (fun h3 => hl ⟨h1, h2, h3⟩)
        · exact Bu.ck_own M S w hS hz hr h1 h2
      · exact Bu.ck_ram M S w hS hz hr h1
  · rw [if_neg hr]; exact Bu.ck_roms M S w hS hz hr
theorem wpList_build1 {P : Program} {ops : Array Oper} {rest : List Oper} {op : Oper} {a : Act} {w : World} {Q : Exit → Act → World → Prop} (hgd : op.guard = none) (t : TypeId) (i : Nat) (x : Operand) (ho : op.op = .build t #[(i, x)]) (xv v : Value) (hx : a.eval x = xv)
    (hrun : (Instr.build t #[(i, xv)]).run P w = .ok v w) (h : wpList P ops Q rest (a.put op.dst v) w) : wpList P ops Q (op :: rest) a w :=
  wpList_build hgd t _ ho v (by simp only [List.map_toArray, List.map_cons, List.map_nil, hx]; exact hrun) h
theorem exec_build3 {P : Program} {a : Act} {o : Oper} {w : World} (t : TypeId) (i j k : Nat) (x y z : Operand) (ho : o.op = .build t #[(i, x), (j, y), (k, z)]) (xv yv zv v : Value) (hx : a.eval x = xv) (hy : a.eval y = yv) (hz : a.eval z = zv)
    (hrun : (Instr.build t #[(i, xv), (j, yv), (k, zv)]).run P w = .ok v w) : (execOp a.eval o).run P w = .ok (.value v) w :=
  exec_build t _ ho v (by simp only [List.map_toArray, List.map_cons, List.map_nil, hx, hy, hz]; exact hrun)
theorem run_sM (g n : Nat) (w : World) : (Instr.build 83 #[(0, pt g 30), (1, mval 45 g 0), (2, .agg (portsN (fxE g (mE n)).rdM (fxE g (mE n)).wrM 32).toArray)]).run Try.prog w = .ok (.agg (sM g n).toArray) w := by kernel_rfl
theorem run_sA (g a : Nat) (w : World) : (Instr.build 83 #[(0, pt g 31), (1, mval 47 g 0), (2, .agg (apL a g 24).toArray)]).run Try.prog w = .ok (.agg (sA g a).toArray) w := by kernel_rfl
/-- A store of many cells, the last that is left to do. -/
theorem readyH_store {P : Program} {md : Region.Mode} {ops : Array Oper} {Q : Exit → Act → World → Prop} {S : World → Prop} {fuel : Nat} {listed : Array Bool} {a : Act} {w : World} {i : Nat} {op : Oper} (hr : Region.ready md ops listed = [i]) (hi : ops[i]? = some op) (hgd : op.guard = none) (ty : TypeId) (x y : Operand) (ho : op.op = .store ty x y)
    (b o : Nat) (cells : Array Value) (hx : a.eval x = .pointer (some ⟨b, o, none⟩)) (hy : a.eval y = .agg cells) (ht : w.there b o cells.size) (hn : (P.info? ty).map (·.size) = some cells.size) (h1 : cells.all (·.oneCell') = true) (hS : S (w.setCells b o cells.toList))
    (h : wpAnyH P md ops Q S fuel (listed.setIfInBounds i true) (a.put op.dst undef) (w.setCells b o cells.toList)) : wpAnyH P md ops Q S (fuel + 1) listed a w :=
  wpAnyH_ready hr (by simp) (AllReadyH.cons hi (fun K hK => step_store_mid hgd ty x y ho b o cells hx hy ht hn h1 (hK.out _ _ hS (fun _ => h))) AllReadyH.nil)
theorem sM_sz (g n : Nat) : (sM g n).toArray.size = 66 := by rw [List.size_toArray, sM_len]
theorem sA_sz (g n : Nat) : (sA g n).toArray.size = 66 := by rw [List.size_toArray, sA_len]
theorem fit_lens {M : Mach} (hf : M.fit) : ∀ j, j < 5 → (M.byt j).length ≤ 1024 := fun j hj => by
  rcases five hj with rfl | rfl | rfl | rfl | rfl
  · exact hf.mrom
  · exact hf.arom
  · show M.ram.length ≤ 1024; rw [hf.ram]; omega
  · show M.own.length ≤ 1024; rw [hf.own]; omega
  · show M.video.length ≤ 1024; rw [hf.video]; omega
theorem Bu.open_bad (M : Mach) (S : Sl) (w : World) (hS : S.lens M) (hz : ∀ j, j < 5 → (M.byt j).length ≤ 9223372036854775807) (hc : M.chk ≠ 0) :
    Calls Try.prog 21 #[.agg (machL M S).toArray] w fun e w' => e = .returned (.tuple #[.pointer none, .int .i64 M.chk]) ∧ Below w.heap.size w w' := by
  have hB := Bx.new w (machL M S) 41 (b := w.heap.size) rfl
  have HB := hid hB
  have HSL := hid hS
  have HZ := hid hz
  have hne : (M.chk == 0) = false := by simpa using hc
  clear hB hS hz hc
  generalize hcc : M.chk = c at *
  have HCC := hid hcc
  clear hcc
  go_enter Try.func21, Try.ntmps21
  go_wp2_with (first
    | (refine wpList_load_mid rfl 41 _ rfl w.heap.size 0 rfl (machL M S) _ HB.out.c Try.underlying41 rfl info_mach ?_)
    | (go_at_call 10; refine (Bu.check_any M S _ HSL.out HZ.out).mono ?_; rw [HCC.out]; rintro e w1 ⟨rfl, hb1⟩; have HL1 := hid (stp (stA (st0 w) (.cells (machL M S).toArray 41)) hb1)))
  go_ret2
  exact ⟨rfl, HL1.out⟩
theorem one66 {v0 v1 : Value} {L : List Value} (h0 : v0.oneCell' = true) (h1 : v1.oneCell' = true) (h : ∀ v ∈ L, v.oneCell' = true) : (v0 :: v1 :: L).toArray.all (·.oneCell') = true :=
  all_oneCell_toArray (fun v hv => by
    simp only [List.mem_cons] at hv
    rcases hv with rfl | rfl | hv
    · exact h0
    · exact h1
    · exact h v hv)
theorem one_m (g n : Nat) : (sM g n).toArray.all (·.oneCell') = true := one66 rfl rfl (fun v hv => by
  obtain ⟨i, rfl | rfl⟩ := mem_ports _ _ v 32 hv
  · exact oneR _ _
  · exact oneW _ _)
theorem one_a (g a : Nat) : (sA g a).toArray.all (·.oneCell') = true := one66 rfl rfl (fun v hv => by
  obtain ⟨i, rfl | rfl⟩ := mem_ports _ _ v 32 hv
  · unfold apR; split <;> rfl
  · unfold apW; split
    · rfl
    · split <;> rfl)
theorem OwnK.room {B : Nat} {M : Mach} {S : Sl} {Y : World} (h : OwnK B M S 5 Y) (hf : M.fit) : B ≤ Y.heap.size := by
  rcases h.own 2 (by omega) with ⟨_, e⟩ | ⟨b, cap, _, _, h3, h4⟩
  · have e' : M.ram = [] := e
    have := hf.ram
    rw [e'] at this
    simp at this
  · have := h4.z; omega
/-- The box of a board, in the midst. -/
structure OP (w w2 : World) (M : Mach) (S1 : Sl) (A B : List Value) (Y : World) : Prop where
  low : Below w.heap.size w Y
  bx : Bx Y w2.heap.size (halfL M S1 A B)
  old : ∀ b, b < w2.heap.size → Y.heap[b]? = w2.heap[b]?
theorem OP.kept {w w2 : World} {M : Mach} {S1 : Sl} {A B : List Value} {Y Y' : World} (h : OP w w2 M S1 A B Y) (hb : Below Y.heap.size Y Y') : OP w w2 M S1 A B Y' :=
  ⟨stp h.low hb, h.bx.kept hb, fun b hb2 => (hb.block b (by have := h.bx.z; omega)).trans (h.old b hb2)⟩
section
variable {w w2 : World} {M : Mach} {S1 : Sl} {A B : List Value} {Y : World} {g : Nat}
theorem OP.drew' (h : OP w w2 M S1 A B Y) : OP w w2 M S1 A B Y.drew := ⟨h.low.drew, h.bx.drew, h.old⟩
theorem OP.bx' (h : OP w w2 M S1 A B Y) (hg : w2.heap.size = g) : Bx Y g (halfL M S1 A B) := hg ▸ h.bx
theorem OP.th77 (h : OP w w2 M S1 nil66 nil66 Y) (hg : w2.heap.size = g) : Y.there g 77 66 := (h.bx' hg).there 77 66 (by rw [halfL_len _ _ _ _ nil66_len nil66_len]; omega)
theorem OP.th143 (h : OP w w2 M S1 A nil66 Y) (hg : w2.heap.size = g) (hA : A.length = 66) : Y.there g 143 66 := (h.bx' hg).there 143 66 (by rw [halfL_len _ _ _ _ hA nil66_len]; omega)
theorem OP.put1 {A' : List Value} (h : OP w w2 M S1 nil66 nil66 Y) (hg : w2.heap.size = g) (hA : A'.length = 66) (hw : w.heap.size ≤ g) : OP w w2 M S1 A' nil66 (Y.setCells g 77 A') := by
  subst hg
  have hx := h.bx.puts 77 A' (by rw [halfL_len _ _ _ _ nil66_len nil66_len]; omega)
  rw [halfL_put1 _ _ _ _ _ (by rw [hA, nil66_len])] at hx
  exact ⟨Bl.puts h.low hw _, hx, fun b hb => (heap_sets_far (by omega) _ _ _).trans (h.old b hb)⟩
theorem OP.put2 {B' : List Value} (h : OP w w2 M S1 A nil66 Y) (hg : w2.heap.size = g) (hA : A.length = 66) (hB : B'.length = 66) (hw : w.heap.size ≤ g) : OP w w2 M S1 A B' (Y.setCells g 143 B') := by
  subst hg
  have hx := h.bx.puts 143 B' (by rw [halfL_len _ _ _ _ hA nil66_len]; omega)
  rw [halfL_put2 _ _ _ _ _ hA (by rw [hB, nil66_len])] at hx
  exact ⟨Bl.puts h.low hw _, hx, fun b hb => (heap_sets_far (by omega) _ _ _).trans (h.old b hb)⟩
theorem EnvM.keep {n : Nat} {Y' : World} (h : EnvM g (mE n) Y) (hb : Below Y.drew.heap.size Y.drew Y') : EnvM g (mE n) Y' := by
  obtain ⟨e0, e1, e2, e3, e4, e5, e6, e7, e8, e9, e10⟩ := h
  exact ⟨e0.drew.kept hb, e1.drew.kept hb, e2.drew.kept hb, e3.drew.kept hb, e4.drew.kept hb, e5.drew.kept hb, e6.drew.kept hb, e7.drew.kept hb, e8.drew.kept hb, e9.drew.kept hb, e10.drew.kept hb⟩
theorem EnvM.off {n o : Nat} {vs : List Value} (h : EnvM g (mE n) Y) (hn : g < n) : EnvM g (mE n) (Y.setCells g o vs) := by
  obtain ⟨e0, e1, e2, e3, e4, e5, e6, e7, e8, e9, e10⟩ := h
  exact ⟨e0.fars (by show g ≠ n + 1; omega) _ _, e1.fars (by show g ≠ n + 2; omega) _ _, e2.fars (by show g ≠ n + 3; omega) _ _, e3.fars (by show g ≠ n + 4; omega) _ _, e4.fars (by show g ≠ n + 5; omega) _ _, e5.fars (by show g ≠ n + 6; omega) _ _, e6.fars (by show g ≠ n + 7; omega) _ _, e7.fars (by show g ≠ n + 8; omega) _ _, e8.fars (by show g ≠ n + 9; omega) _ _, e9.fars (by show g ≠ n + 10; omega) _ _, e10.fars (by show g ≠ n + 11; omega) _ _⟩
/-- What the other ports keep. -/
def ApB (g a : Nat) (Y : World) : Prop := Bx Y a [pt g 0] ∧ ∀ k, k < 24 → Bx Y (a + 3 + 2 * k) [pt g 0] ∧ Bx Y (a + 4 + 2 * k) [.int .i64 k]
theorem ap_box {Z X w4 : World} (h : AP Z g 24 X) (hs : ∀ k, k ≠ Z.heap.size + 1 → w4.heap[k]? = X.heap[k]?) (hz : X.heap.size = w4.heap.size) : ApB g Z.heap.size w4 :=
  ⟨h.b.same (Nat.le_of_eq hz) (hs _ (by omega)), fun k hk => ⟨(h.sb k hk).1.same (Nat.le_of_eq hz) (hs _ (by omega)), (h.sb k hk).2.same (Nat.le_of_eq hz) (hs _ (by omega))⟩⟩
theorem ap_off {a o : Nat} {vs : List Value} (h : ApB g a Y) (ha : g < a) : ApB g a (Y.setCells g o vs) :=
  ⟨h.1.fars (by omega) _ _, fun k hk => ⟨(h.2 k hk).1.fars (by omega) _ _, (h.2 k hk).2.fars (by omega) _ _⟩⟩
end
set_option maxHeartbeats 1600000 in
theorem Bu.open_ok (M : Mach) (S : Sl) (w : World) (hS : S.lens M) (hs : ∀ j, j < 5 → sliceAt w (S.get j) (M.byt j)) (hf : M.fit) :
    Calls Try.prog 21 #[.agg (machL M S).toArray] w fun e w' => ∃ F : Fx, F.B = w.heap.size ∧ e = .returned (.tuple #[pt F.g 0, .int .i64 0]) ∧ (F.B ≤ F.mr ∧ F.B ≤ F.ar) ∧ Bd F w' M Tk.zero ∧ Below w.heap.size w w' := by
  have hB := Bx.new w (machL M S) 41 (b := w.heap.size) rfl
  have HB := hid hB
  have HS := hid hs
  have HC := hid (fit_chk hf)
  have HSL := hid hS
  have HF := hid hf
  have HLL := hid (fit_lens hf)
  clear hB hs hS hf
  go_enter Try.func21, Try.ntmps21
  go_wp2_with (first
    | (refine wpList_load_mid rfl 41 _ rfl w.heap.size 0 rfl (machL M S) _ HB1.out.c Try.underlying41 rfl info_mach ?_)
    | (refine wpList_load_mid rfl 41 _ rfl w.heap.size 0 rfl (machL M S) _ HB.out.c Try.underlying41 rfl info_mach ?_)
    | (refine wpList_build1 rfl 85 0 _ rfl (.agg (machL M S1).toArray) _ rfl (run_board M S1 _) ?_)
    | (go_at_call 10; refine (Bu.check_any M S _ HSL.out (fun j hj => Nat.le_trans (HLL.out j hj) (by omega))).mono ?_; rw [HC.out]; rintro e w1 ⟨rfl, hb1⟩; have HB1 := hid (HB.out.kept hb1); have HL1 := hid (stp (stA (st0 w) (.cells (machL M S).toArray 41)) hb1))
    | (go_at_call 44; refine (Bu.copy_any M S _ (fun j hj => (HS.out j hj).kept HL1.out) (fun j hj => Nat.le_trans (HLL.out j hj) (by omega))).mono ?_; rintro e w2 ⟨S1, rfl, ho, hb2⟩; have HO := hid ho; have HL2 := hid (stp HL1.out hb2); have hz2 := hb2.size; clear ho hb2 hb1))
  have hz0 : w.heap.size ≤ w1.heap.size := HL1.out.size
  have HZ := hid hz2
  have HW2 := hid HL2.out.size
  have HZ0 := hid hz0
  refine Pl.cutW (OP w w2 M S1 nil66 nil66) ⟨stA HL2.out _, Bx.new w2 _ _ rfl, fun b hb => Below.heap_alloc _ _ _ hb⟩ ?_
  intro Y hY
  have HY := hid hY
  clear hY hz2 hz0
  generalize hg : w2.heap.size = g at *
  have HG := hid hg
  clear hg
  refine wp_region_held_drew (S := fun _ => True) (by kernel_rfl) trivial ?_
  intro _
  refine wpAnyH_take (i := 0) (oi := { dst := some 15, op := _, type := _, pos := _, after := _, guard := none }) (v := ?_) rfl (by kernel_rfl) (by kernel_rfl) (by kernel_rfl) (fun _ _ _ h => h) (Or.inl ⟨by rfl, ?_⟩) trivial ?_
  rotate_left 1
  focus (intro w hSw; go_simp; try (with_reducible rfl))
  simp only [Act.put, List.setIfInBounds_toArray, List.set_cons_zero, List.set_cons_succ]
  refine wpAnyH_take (i := 1) (oi := { dst := some 16, op := _, type := _, pos := _, after := _, guard := none }) (v := ?_) rfl (by kernel_rfl) (by kernel_rfl) (by kernel_rfl) (fun _ _ _ h => h) (Or.inl ⟨by rfl, ?_⟩) trivial ?_
  rotate_left 1
  focus (intro w hSw; go_simp; try (with_reducible rfl))
  simp only [Act.put, List.setIfInBounds_toArray, List.set_cons_zero, List.set_cons_succ]
  refine wpAnyH_take (i := 2) (oi := { dst := some 17, op := _, type := _, pos := _, after := _, guard := none }) (v := ?_) rfl (by kernel_rfl) (by kernel_rfl) (by kernel_rfl) (fun _ _ _ h => h) (Or.inl ⟨by rfl, ?_⟩) trivial ?_
  rotate_left 1
  focus (intro w hSw; go_simp; try (with_reducible rfl))
  simp only [Act.put, List.setIfInBounds_toArray, List.set_cons_zero, List.set_cons_succ]
  refine wpAnyH_take (i := 3) (oi := { dst := some 18, op := _, type := _, pos := _, after := _, guard := none }) (v := ?_) rfl (by kernel_rfl) (by kernel_rfl) (by kernel_rfl) (fun _ _ _ h => h) (Or.inl ⟨by rfl, ?_⟩) trivial ?_
  rotate_left 1
  focus (intro w hSw; go_simp; try (with_reducible rfl))
  simp only [Act.put, List.setIfInBounds_toArray, List.set_cons_zero, List.set_cons_succ]
  refine wpAnyH_take (i := 4) (oi := { dst := some 19, op := _, type := _, pos := _, after := _, guard := none }) (v := ?_) rfl (by kernel_rfl) (by kernel_rfl) (by kernel_rfl) (fun _ _ _ h => h) (Or.inl ⟨by rfl, ?_⟩) trivial ?_
  rotate_left 1
  focus (intro w hSw; go_simp; try (with_reducible rfl))
  simp only [Act.put, List.setIfInBounds_toArray, List.set_cons_zero, List.set_cons_succ]
  refine wpAnyH_take (i := 5) (oi := { dst := some 20, op := _, type := _, pos := _, after := _, guard := none }) (v := ?_) rfl (by kernel_rfl) (by kernel_rfl) (by kernel_rfl) (fun _ _ _ h => h) (Or.inl ⟨by rfl, ?_⟩) trivial ?_
  rotate_left 1
  focus (intro w hSw; go_simp; try (with_reducible rfl))
  simp only [Act.put, List.setIfInBounds_toArray, List.set_cons_zero, List.set_cons_succ]
  refine wpAnyH_take (i := 6) (oi := { dst := some 21, op := _, type := _, pos := _, after := _, guard := none }) (v := ?_) rfl (by kernel_rfl) (by kernel_rfl) (by kernel_rfl) (fun _ _ _ h => h) (Or.inl ⟨by rfl, ?_⟩) trivial ?_
  rotate_left 1
  focus (intro w hSw; go_simp; try (with_reducible rfl))
  simp only [Act.put, List.setIfInBounds_toArray, List.set_cons_zero, List.set_cons_succ]
  refine wpAnyH_take (i := 7) (oi := { dst := some 22, op := _, type := _, pos := _, after := _, guard := none }) (v := ?_) rfl (by kernel_rfl) (by kernel_rfl) (by kernel_rfl) (fun _ _ _ h => h) (Or.inl ⟨by rfl, ?_⟩) trivial ?_
  rotate_left 1
  focus (intro w hSw; go_simp; try (with_reducible rfl))
  simp only [Act.put, List.setIfInBounds_toArray, List.set_cons_zero, List.set_cons_succ]
  refine wpAnyH_ready (rs := [8]) (by kernel_rfl) (by simp) ?_
  refine AllReadyH.cons (o := { dst := some 23, op := _, type := _, pos := _, after := _, guard := none }) rfl (fun K hK => ?_) AllReadyH.nil
  go_simp
  go_at_call 46
  refine (Bu.mports_any g _).mono ?_
  rintro e w3 ⟨rfl, hb3, hE⟩
  have HY3 := hid (HY.out.drew'.kept hb3)
  have HE := hid hE
  have HN : Hid (g < Y.drew.heap.size) := hid (by have := HY.out.bx.z; rw [HG.out] at this; exact this)
  clear hb3 hE
  generalize hn : Y.drew.heap.size = n at *
  clear hn
  try go_wp2_with fail
  refine hK.out _ _ trivial (fun _ => ?_)
  clear hK K
  try simp only [Act.put, List.setIfInBounds_toArray, List.set_cons_zero, List.set_cons_succ]
  refine wpAnyH_take (i := 9) (oi := { dst := some 24, op := _, type := _, pos := _, after := _, guard := none }) (v := .agg (sM g n).toArray) rfl (by kernel_rfl) (by kernel_rfl) (by kernel_rfl) (fun _ _ _ h => h) (Or.inl ⟨by rfl, fun w _ => exec_build3 83 0 1 2 _ _ _ rfl (pt g 30) (mval 45 g 0) (.agg (portsN (fxE g (mE n)).rdM (fxE g (mE n)).wrM 32).toArray) (.agg (sM g n).toArray) rfl rfl rfl (run_sM g n w)⟩) trivial ?_
  simp only [Act.put, List.setIfInBounds_toArray, List.set_cons_zero, List.set_cons_succ]
  refine wpAnyH_take (i := 10) (oi := { dst := some 25, op := _, type := _, pos := _, after := _, guard := none }) (v := ?_) rfl (by kernel_rfl) (by kernel_rfl) (by kernel_rfl) (fun _ _ _ h => h) (Or.inl ⟨by rfl, ?_⟩) trivial ?_
  rotate_left 1
  focus (intro w hSw; go_simp; try (with_reducible rfl))
  simp only [Act.put, List.setIfInBounds_toArray, List.set_cons_zero, List.set_cons_succ]
  refine wpAnyH_take (i := 11) (oi := { dst := some 26, op := _, type := _, pos := _, after := _, guard := none }) (v := ?_) rfl (by kernel_rfl) (by kernel_rfl) (by kernel_rfl) (fun _ _ _ h => h) (Or.inl ⟨by rfl, ?_⟩) trivial ?_
  rotate_left 1
  focus (intro w hSw; go_simp; try (with_reducible rfl))
  simp only [Act.put, List.setIfInBounds_toArray, List.set_cons_zero, List.set_cons_succ]
  refine readyH_store (i := 12) (op := { dst := none, op := _, type := _, pos := _, after := _, guard := none }) (by kernel_rfl) rfl rfl 83 _ _ rfl g 77 (sM g n).toArray rfl rfl (by rw [sM_sz]; exact HY3.out.th77 HG.out) (by rw [sM_sz]; exact info_side) (one_m g n) trivial ?_
  refine wpAnyH_done (by kernel_rfl) ?_ _
  refine Pl.cutE (fun Z => OP w w2 M S1 (sM g n) nil66 Z ∧ EnvM g (mE n) Z) ⟨OP.put1 HY3.out HG.out (sM_len g n) HW2.out, HE.out.off HN.out⟩ ?_
  rintro Z ⟨hZ1, hZ2⟩
  have HZ1 := hid hZ1
  have HZ2 := hid hZ2
  clear hZ1 hZ2
  go_wp2
  refine wp_region_held_drew (S := fun _ => True) (by kernel_rfl) trivial ?_
  intro _
  refine wpAnyH_take (i := 0) (oi := { dst := some 27, op := _, type := _, pos := _, after := _, guard := none }) (v := ?_) rfl (by kernel_rfl) (by kernel_rfl) (by kernel_rfl) (fun _ _ _ h => h) (Or.inl ⟨by rfl, ?_⟩) trivial ?_
  rotate_left 1
  focus (intro w hSw; go_simp; try (with_reducible rfl))
  simp only [Act.put, List.setIfInBounds_toArray, List.set_cons_zero, List.set_cons_succ]
  refine wpAnyH_take (i := 1) (oi := { dst := some 28, op := _, type := _, pos := _, after := _, guard := none }) (v := ?_) rfl (by kernel_rfl) (by kernel_rfl) (by kernel_rfl) (fun _ _ _ h => h) (Or.inl ⟨by rfl, ?_⟩) trivial ?_
  rotate_left 1
  focus (intro w hSw; go_simp; try (with_reducible rfl))
  simp only [Act.put, List.setIfInBounds_toArray, List.set_cons_zero, List.set_cons_succ]
  refine wpAnyH_take (i := 2) (oi := { dst := some 29, op := _, type := _, pos := _, after := _, guard := none }) (v := ?_) rfl (by kernel_rfl) (by kernel_rfl) (by kernel_rfl) (fun _ _ _ h => h) (Or.inl ⟨by rfl, ?_⟩) trivial ?_
  rotate_left 1
  focus (intro w hSw; go_simp; try (with_reducible rfl))
  simp only [Act.put, List.setIfInBounds_toArray, List.set_cons_zero, List.set_cons_succ]
  refine wpAnyH_take (i := 3) (oi := { dst := some 30, op := _, type := _, pos := _, after := _, guard := none }) (v := ?_) rfl (by kernel_rfl) (by kernel_rfl) (by kernel_rfl) (fun _ _ _ h => h) (Or.inl ⟨by rfl, ?_⟩) trivial ?_
  rotate_left 1
  focus (intro w hSw; go_simp; try (with_reducible rfl))
  simp only [Act.put, List.setIfInBounds_toArray, List.set_cons_zero, List.set_cons_succ]
  refine wpAnyH_take (i := 4) (oi := { dst := some 31, op := _, type := _, pos := _, after := _, guard := none }) (v := ?_) rfl (by kernel_rfl) (by kernel_rfl) (by kernel_rfl) (fun _ _ _ h => h) (Or.inl ⟨by rfl, ?_⟩) trivial ?_
  rotate_left 1
  focus (intro w hSw; go_simp; try (with_reducible rfl))
  simp only [Act.put, List.setIfInBounds_toArray, List.set_cons_zero, List.set_cons_succ]
  refine wpAnyH_take (i := 5) (oi := { dst := some 32, op := _, type := _, pos := _, after := _, guard := none }) (v := ?_) rfl (by kernel_rfl) (by kernel_rfl) (by kernel_rfl) (fun _ _ _ h => h) (Or.inl ⟨by rfl, ?_⟩) trivial ?_
  rotate_left 1
  focus (intro w hSw; go_simp; try (with_reducible rfl))
  simp only [Act.put, List.setIfInBounds_toArray, List.set_cons_zero, List.set_cons_succ]
  refine wpAnyH_take (i := 6) (oi := { dst := some 33, op := _, type := _, pos := _, after := _, guard := none }) (v := ?_) rfl (by kernel_rfl) (by kernel_rfl) (by kernel_rfl) (fun _ _ _ h => h) (Or.inl ⟨by rfl, ?_⟩) trivial ?_
  rotate_left 1
  focus (intro w hSw; go_simp; try (with_reducible rfl))
  simp only [Act.put, List.setIfInBounds_toArray, List.set_cons_zero, List.set_cons_succ]
  refine wpAnyH_take (i := 7) (oi := { dst := some 34, op := _, type := _, pos := _, after := _, guard := none }) (v := ?_) rfl (by kernel_rfl) (by kernel_rfl) (by kernel_rfl) (fun _ _ _ h => h) (Or.inl ⟨by rfl, ?_⟩) trivial ?_
  rotate_left 1
  focus (intro w hSw; go_simp; try (with_reducible rfl))
  simp only [Act.put, List.setIfInBounds_toArray, List.set_cons_zero, List.set_cons_succ]
  refine wpAnyH_ready (rs := [8]) (by kernel_rfl) (by simp) ?_
  refine AllReadyH.cons (o := { dst := some 35, op := _, type := _, pos := _, after := _, guard := none }) rfl (fun K hK => ?_) AllReadyH.nil
  go_simp
  go_at_call 48
  refine (Bu.aports_any g _).mono ?_
  rintro e w4 ⟨rfl, X, hX, hb4, hsame, hsz⟩
  have HZ4 := hid (HZ1.out.drew'.kept hb4)
  have HE4 := hid (HZ2.out.keep hb4)
  have HX := hid (ap_box hX hsame hsz)
  have HA : Hid (g < Z.drew.heap.size) := hid (by have := HZ1.out.bx.z; rw [HG.out] at this; exact this)
  clear hb4 hX hsame hsz
  generalize ha : Z.drew.heap.size = a at *
  clear ha
  try go_wp2_with fail
  refine hK.out _ _ trivial (fun _ => ?_)
  clear hK K
  try simp only [Act.put, List.setIfInBounds_toArray, List.set_cons_zero, List.set_cons_succ]
  refine wpAnyH_take (i := 9) (oi := { dst := some 36, op := _, type := _, pos := _, after := _, guard := none }) (v := .agg (sA g a).toArray) rfl (by kernel_rfl) (by kernel_rfl) (by kernel_rfl) (fun _ _ _ h => h) (Or.inl ⟨by rfl, fun w _ => exec_build3 83 0 1 2 _ _ _ rfl (pt g 31) (mval 47 g 0) (.agg (apL a g 24).toArray) (.agg (sA g a).toArray) rfl rfl rfl (run_sA g a w)⟩) trivial ?_
  simp only [Act.put, List.setIfInBounds_toArray, List.set_cons_zero, List.set_cons_succ]
  refine wpAnyH_take (i := 10) (oi := { dst := some 37, op := _, type := _, pos := _, after := _, guard := none }) (v := ?_) rfl (by kernel_rfl) (by kernel_rfl) (by kernel_rfl) (fun _ _ _ h => h) (Or.inl ⟨by rfl, ?_⟩) trivial ?_
  rotate_left 1
  focus (intro w hSw; go_simp; try (with_reducible rfl))
  simp only [Act.put, List.setIfInBounds_toArray, List.set_cons_zero, List.set_cons_succ]
  refine wpAnyH_take (i := 11) (oi := { dst := some 38, op := _, type := _, pos := _, after := _, guard := none }) (v := ?_) rfl (by kernel_rfl) (by kernel_rfl) (by kernel_rfl) (fun _ _ _ h => h) (Or.inl ⟨by rfl, ?_⟩) trivial ?_
  rotate_left 1
  focus (intro w hSw; go_simp; try (with_reducible rfl))
  simp only [Act.put, List.setIfInBounds_toArray, List.set_cons_zero, List.set_cons_succ]
  refine readyH_store (i := 12) (op := { dst := none, op := _, type := _, pos := _, after := _, guard := none }) (by kernel_rfl) rfl rfl 83 _ _ rfl g 143 (sA g a).toArray rfl rfl (by rw [sA_sz]; exact HZ4.out.th143 HG.out (sM_len g n)) (by rw [sA_sz]; exact info_side) (one_a g a) trivial ?_
  refine wpAnyH_done (by kernel_rfl) ?_ _
  refine Pl.cutE (fun V => ∃ F : Fx, F.B = w.heap.size ∧ F.g = g ∧ (F.B ≤ F.mr ∧ F.B ≤ F.ar) ∧ Bd F V M Tk.zero ∧ Below w.heap.size w V) ?_ ?_
  · obtain ⟨F, f1, f2, f3, f4⟩ := Bd.make (B := w.heap.size) (n := n) (a := a) HO.out (by have := HZ0.out; omega) (HO.out.room HF.out) HF.out (by rw [HG.out]; exact (OP.put2 HZ4.out HG.out (sM_len g n) (sA_len g a) HW2.out).bx' HG.out) (OP.put2 HZ4.out HG.out (sM_len g n) (sA_len g a) HW2.out).old (by rw [HG.out]; exact HE4.out.off HN.out) (by rw [HG.out]; exact HN.out) (by rw [HG.out]; exact ap_off HX.out HA.out) (by rw [HG.out]; exact HA.out)
    exact ⟨F, f1, f2.trans HG.out, f3, f4, (OP.put2 HZ4.out HG.out (sM_len g n) (sA_len g a) HW2.out).low⟩
  rintro V ⟨F, hV1, hV2, hV0, hV3, hV4⟩
  have HV0 := hid hV0
  have HV1 := hid hV1
  have HV2 := hid hV2
  have HV3 := hid hV3
  have HV4 := hid hV4
  clear hV1 hV2 hV3 hV4 hV0
  go_wp2
  go_ret2
  exact ⟨F, HV1.out, by rw [HV2.out]; rfl, HV0.out, HV3.out, HV4.out⟩
theorem readyH_load {P : Program} {md : Region.Mode} {ops : Array Oper} {Q : Exit → Act → World → Prop} {S : World → Prop} {fuel : Nat} {listed : Array Bool} {a : Act} {w : World} {i : Nat} {op : Oper} (hr : Region.ready md ops listed = [i]) (hi : ops[i]? = some op) (hgd : op.guard = none) (ty : TypeId) (x : Operand) (ho : op.op = .load ty x)
    (b o : Nat) (hx : a.eval x = .pointer (some ⟨b, o, none⟩)) (cs : List Value) (u : TypeDesc) (hc : w.rangeAt b o cs) (hu : P.underlying ty = some u) (hag : u.isRow = true) (hn : (P.info? ty).map (·.size) = some cs.length) (hS : S w)
    (h : wpAnyH P md ops Q S fuel (listed.setIfInBounds i true) (a.put op.dst (.agg cs.toArray)) w) : wpAnyH P md ops Q S (fuel + 1) listed a w :=
  wpAnyH_ready hr (by simp) (AllReadyH.cons hi (fun K hK => step_load_mid hgd ty x ho b o hx cs u hc hu hag hn (hK.out _ _ hS (fun _ => h))) AllReadyH.nil)
/-- A machine's slices hold its bytes. -/
def SlAt (W : World) (S : Sl) (M : Mach) : Prop := ∀ j, j < 5 → sliceAt W (S.get j) (M.byt j)
theorem SlAt.kept {W W' : World} {S : Sl} {M : Mach} (h : SlAt W S M) (hb : Below W.heap.size W W') : SlAt W' S M := fun j hj => (h j hj).kept hb
theorem SlAt.lens {W : World} {S : Sl} {M : Mach} (h : SlAt W S M) : S.lens M := fun j hj => slice_len (h j hj)
theorem Bd.slAt {F : Fx} {W : World} {M : Mach} {tk : Tk} (h : Bd F W M tk) : SlAt W F.S M := fun j hj => by
  rcases five hj with rfl | rfl | rfl | rfl | rfl
  · exact h.mr.slice
  · exact h.ar.slice
  · exact h.ra.slice
  · exact h.ow.slice
  · exact h.vi.slice
theorem Bd.isSl {F : Fx} {W : World} {M : Mach} {tk : Tk} (h : Bd F W M tk) : F.S.isSl := fun j hj => by
  obtain ⟨a, c, e⟩ := h.slAt.lens j hj
  exact ⟨_, _, _, e⟩
/-- The machine of a board, as a row. -/
theorem Bd.row {F : Fx} {W : World} {M : Mach} {tk : Tk} (h : Bd F W M tk) : W.rangeAt F.g 0 (machL M F.S) := fun i v hi => by
  refine h.at (0 + i) v ?_
  rw [Nat.zero_add]
  unfold Fx.cells
  rw [List.getElem?_append_left (List.getElem?_eq_some_iff.1 hi).1]
  exact hi
def Mach.rd (M : Mach) (aux : Bool) (a : Int) : Int × Mach := if aux then M.rdA a else M.rdM a
def Mach.wr (M : Mach) (aux : Bool) (a n : Int) : Mach := if aux then M.wrA a n else M.wrM a n
def took (aux : Bool) (a n : Int) : Int := if aux then 0 else tookM a n
/-- A machine's slices lie in blocks from n on. -/
def SlNew (n : Nat) (S : Sl) : Prop := ∀ j, j < 5 → ∀ a m c, S.get j = .slice (some a) m c → n ≤ a.block
theorem Rw.ge {W : World} {v : Value} {k n : Nat} {l : List UInt8} (h : Rw W v k l) (hk : n ≤ k) : ∀ (a : Addr) (m c : Nat), v = .slice (Option.some a) m c → n ≤ a.block := fun a m c e => by
  rcases h with ⟨e1, _⟩ | ⟨cap, e1, _⟩
  · rw [e1] at e; cases e
  · rw [e1] at e; cases e; exact hk
theorem Bd.slNew {F : Fx} {W : World} {M : Mach} {tk : Tk} (h : Bd F W M tk) (hr : F.B ≤ F.mr ∧ F.B ≤ F.ar) : SlNew F.B F.S := fun j hj => by
  rcases five hj with rfl | rfl | rfl | rfl | rfl
  · exact h.mr.ge hr.1
  · exact h.ar.ge hr.2
  · exact h.ra.ge h.nd.lo.2.1
  · exact h.ow.ge h.nd.lo.2.2.1
  · exact h.vi.ge h.nd.lo.2.2.2
theorem SlNew.mono {n m : Nat} {S : Sl} (h : SlNew n S) (hm : m ≤ n) : SlNew m S := fun j hj a k c e => Nat.le_trans hm (h j hj a k c e)
/-- A box ahead of a machine's slices is written. -/
theorem SlAt.off {W : World} {S : Sl} {M : Mach} {n b : Nat} (h : SlAt W S M) (hn : SlNew n S) (hb : b < n) (o : Nat) (vs : List Value) : SlAt (W.setCells b o vs) S M := fun j hj => by
  rcases h j hj with h0 | ⟨g, o', cap, e1, e2, e3, e4⟩
  · exact Or.inl h0
  · have hg : n ≤ g := hn j hj _ _ _ e1
    exact Or.inr ⟨g, o', cap, e1, e2, by rw [size_sets]; exact e3, fun i c hi => (World.cell?_of_block (heap_sets_far (x := g) (b := b) (by omega) vs o W)).trans (e4 i c hi)⟩
/-- The box of a result beside a board that was opened behind it. -/
structure RB (w : World) (F : Fx) (M : Mach) (tk : Tk) (L : List Value) (Y : World) : Prop where
  bd : Bd F Y M tk
  low : Below w.heap.size w Y
  res : Bx Y (w.heap.size + 1) L
  B : w.heap.size + 1 < F.B
  r : F.B ≤ F.mr ∧ F.B ≤ F.ar
theorem RB.go {w Y Y' : World} {F : Fx} {M M' : Mach} {tk tk' : Tk} {L : List Value} (h : RB w F M tk L Y) (hB : Bd F Y' M' tk') (ht : Bt F Y Y') : RB w F M' tk' L Y' := by
  have hb := h.B
  exact ⟨hB, h.low.trans ((Mv.below ht).mono (by omega)), h.res.under (Mv.below ht) hb, hb, h.r⟩
theorem RB.goW {w Y Y' : World} {F : Fx} {M M' : Mach} {tk tk' : Tk} {L : List Value} (h : RB w F M tk L Y) (hB : Bd F Y' M' tk') (ht : Bw F Y Y') : RB w F M' tk' L Y' := by
  have hb := h.B
  exact ⟨hB, h.low.trans ((Mv.below ht).mono (by omega)), h.res.under (Mv.below ht) hb, hb, h.r⟩
theorem RB.kept {w Y Y' : World} {F : Fx} {M : Mach} {tk : Tk} {L : List Value} (h : RB w F M tk L Y) (hb : Below Y.heap.size Y Y') : RB w F M tk L Y' := h.go (h.bd.kept hb) (Mv.of_below h.bd.big hb)
theorem RB.drew {w Y : World} {F : Fx} {M : Mach} {tk : Tk} {L : List Value} (h : RB w F M tk L Y) : RB w F M tk L Y.drew := h.kept (st0 Y).drew
theorem Rw.offB {W : World} {v : Value} {k b : Nat} {l : List UInt8} (h : Rw W v k l) (hn : b ≠ k) (o : Nat) (vs : List Value) : Rw (W.setCells b o vs) v k l := by
  rcases h with h | ⟨cap, e, hl, hx⟩
  · exact Or.inl h
  · exact Or.inr ⟨cap, e, hl, hx.fars hn o vs⟩
/-- The result's box is written: what is handed back. -/
theorem RB.fin {w Y : World} {F : Fx} {M : Mach} {tk : Tk} {L L' : List Value} (h : RB w F M tk L Y) (hl : L'.length = L.length) : Below w.heap.size w (Y.setCells (w.heap.size + 1) 0 L') ∧ Bx (Y.setCells (w.heap.size + 1) 0 L') (w.heap.size + 1) L' ∧ SlAt (Y.setCells (w.heap.size + 1) 0 L') F.S M := by
  have hx := h.res.puts 0 L' (by omega)
  rw [putL_whole _ _ hl] at hx
  have lo := h.bd.nd.lo
  have hB := h.B
  have hr := h.r
  refine ⟨Bl.puts h.low (by omega) _, hx, fun j hj => ?_⟩
  rcases five hj with rfl | rfl | rfl | rfl | rfl
  · exact (h.bd.mr.offB (by omega) _ _).slice
  · exact (h.bd.ar.offB (by omega) _ _).slice
  · exact (h.bd.ra.offB (by omega) _ _).slice
  · exact (h.bd.ow.offB (by omega) _ _).slice
  · exact (h.bd.vi.offB (by omega) _ _).slice
theorem RB.new {w Y : World} {F : Fx} {M : Mach} {tk : Tk} {L : List Value} (h : RB w F M tk L Y) : SlNew (w.heap.size + 2) F.S := (h.bd.slNew h.r).mono h.B
theorem RB.th {w Y : World} {F : Fx} {M : Mach} {tk : Tk} (h : RB w F M tk (machL zeroM nilS) Y) : Y.there (w.heap.size + 1) 0 75 := h.res.there 0 75 (by rw [machL_len]; omega)
theorem field_0 (x y : Value) (w : World) : (Instr.field 73 (.agg #[x, y]) 0).run Try.prog w = .ok x w := by kernel_rfl
theorem field_1 (x y : Value) (w : World) : (Instr.field 73 (.agg #[x, y]) 1).run Try.prog w = .ok y w := by kernel_rfl
theorem wpList_field {P : Program} {ops : Array Oper} {rest : List Oper} {op : Oper} {a : Act} {w : World} {Q : Exit → Act → World → Prop} (hgd : op.guard = none) (t : TypeId) (x : Operand) (i : Nat) (ho : op.op = .field t x i) (xv v : Value) (hx : a.eval x = xv)
    (hrun : (Instr.field t xv i).run P w = .ok v w) (h : wpList P ops Q rest (a.put op.dst v) w) : wpList P ops Q (op :: rest) a w :=
  wpList_plain hgd fun K hK => by
    unfold Oper.wp execOp
    simp only [ho, hx, Sem.run_bind, hrun, Result.andThen_ok, Sem.run_pure]
    exact hK _ _ h
end Go.Proofs.Ythooknikfachnaa
