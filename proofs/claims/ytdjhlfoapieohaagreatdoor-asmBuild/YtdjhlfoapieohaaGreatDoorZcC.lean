/-
  The reference's Built: a line with an order: which order it is, what it has.
-/
import Derived.Test.YtdjhlfoapieohaaGreatDoorZcB
import Derived.Test.YtdjhlfoapieohaaGreatDoorZcR
namespace Go.Proofs.YtdjhlfoapieohaaGreatDoor
open Go.ChangeShapes Go.WideShapes Go.ChangeAt Go.RowKit
set_option linter.unusedVariables false

structure Sf (a : Act) (v5 v6 : Value) (mp gl n k bi : Nat) (t op nm : S.By) (v17 : Value) : Prop extends Sn a v5 v6 mp gl n k bi t where
  s14 : sl a 14 = .string (mk op)
  s17 : sl a 17 = v17
  s20 : sl a 20 = .string (mk nm)
structure Sg (a : Act) (v5 v6 : Value) (mp gl n k bi : Nat) (t op nm : S.By) (v17 : Value) (bo : Nat) : Prop extends Sf a v5 v6 mp gl n k bi t op nm v17 where
  s23 : sl a 23 = .pointer (some ⟨bo, 0, none⟩)
theorem then_k {P : Program} {tail c : Code} {Q : Exit → Act → World → Prop} {K : Act → World → Prop} (hK : ∀ a w, Code.wp P tail Q a w → K a w) {a : Act} {w : World} (h : c.wp P (Exit.then (tail.wp P Q) Q) a w) : c.wp P (Exit.then K Q) a w :=
  wp_mono h (fun e a w hq => by
    cases e with
    | normal => exact hK a w hq
    | _ => exact hq)
/-- The order in its box. -/
structure Ob (w1 : World) (bo : Nat) (x d s n v : Int) (w : World) : Prop where
  low : Below w1.heap.size w1 w
  hb : w1.heap.size ≤ bo
  z : bo < w.heap.size
  c0 : w.cell? ⟨bo, 0, none⟩ = some (.int .i64 x)
  c1 : w.cell? ⟨bo, 1, none⟩ = some (.int .i64 d)
  c2 : w.cell? ⟨bo, 2, none⟩ = some (.int .i64 s)
  c3 : w.cell? ⟨bo, 3, none⟩ = some (.int .i64 n)
  c4 : w.cell? ⟨bo, 4, none⟩ = some (.int .i64 v)
  f : ∀ i, w.frozen? ⟨bo, i, none⟩ = false
section
variable {w1 w w' : World} {bo : Nat} {x d s n v : Int}
theorem Ob.kept (h : Ob w1 bo x d s n v w) (hb : Below w.heap.size w w') : Ob w1 bo x d s n v w' :=
  ⟨stp h.low hb, h.hb, Nat.lt_of_lt_of_le h.z hb.size, (hb.cell (p := ⟨bo, 0, none⟩) h.z).trans h.c0, (hb.cell (p := ⟨bo, 1, none⟩) h.z).trans h.c1, (hb.cell (p := ⟨bo, 2, none⟩) h.z).trans h.c2, (hb.cell (p := ⟨bo, 3, none⟩) h.z).trans h.c3, (hb.cell (p := ⟨bo, 4, none⟩) h.z).trans h.c4, fun i => (hb.frozen (p := ⟨bo, i, none⟩) h.z).trans (h.f i)⟩
theorem Ob.oth (w : World) (bo i j : Nat) (u : Value) (h : i ≠ j) : (w.setCell ⟨bo, i, none⟩ u).cell? ⟨bo, j, none⟩ = w.cell? ⟨bo, j, none⟩ := World.cell?_setCell_other _ _ _ _ (by intro e; exact h (congrArg Addr.off e))
theorem Ob.put0 (h : Ob w1 bo x d s n v w) (y : Int) : Ob w1 bo y d s n v (w.setCell ⟨bo, 0, none⟩ (.int .i64 y)) :=
  ⟨h.low.setCell h.hb _, h.hb, by simpa using h.z, World.cell?_setCell_same' _ _ _ (by rw [h.c0]; rfl), (Ob.oth w bo 0 1 _ (by omega)).trans h.c1, (Ob.oth w bo 0 2 _ (by omega)).trans h.c2, (Ob.oth w bo 0 3 _ (by omega)).trans h.c3, (Ob.oth w bo 0 4 _ (by omega)).trans h.c4, fun i => by simpa using h.f i⟩
theorem Ob.put1 (h : Ob w1 bo x d s n v w) (y : Int) : Ob w1 bo x y s n v (w.setCell ⟨bo, 1, none⟩ (.int .i64 y)) :=
  ⟨h.low.setCell h.hb _, h.hb, by simpa using h.z, (Ob.oth w bo 1 0 _ (by omega)).trans h.c0, World.cell?_setCell_same' _ _ _ (by rw [h.c1]; rfl), (Ob.oth w bo 1 2 _ (by omega)).trans h.c2, (Ob.oth w bo 1 3 _ (by omega)).trans h.c3, (Ob.oth w bo 1 4 _ (by omega)).trans h.c4, fun i => by simpa using h.f i⟩
theorem Ob.put2 (h : Ob w1 bo x d s n v w) (y : Int) : Ob w1 bo x d y n v (w.setCell ⟨bo, 2, none⟩ (.int .i64 y)) :=
  ⟨h.low.setCell h.hb _, h.hb, by simpa using h.z, (Ob.oth w bo 2 0 _ (by omega)).trans h.c0, (Ob.oth w bo 2 1 _ (by omega)).trans h.c1, World.cell?_setCell_same' _ _ _ (by rw [h.c2]; rfl), (Ob.oth w bo 2 3 _ (by omega)).trans h.c3, (Ob.oth w bo 2 4 _ (by omega)).trans h.c4, fun i => by simpa using h.f i⟩
theorem Ob.put3 (h : Ob w1 bo x d s n v w) (y : Int) : Ob w1 bo x d s y v (w.setCell ⟨bo, 3, none⟩ (.int .i64 y)) :=
  ⟨h.low.setCell h.hb _, h.hb, by simpa using h.z, (Ob.oth w bo 3 0 _ (by omega)).trans h.c0, (Ob.oth w bo 3 1 _ (by omega)).trans h.c1, (Ob.oth w bo 3 2 _ (by omega)).trans h.c2, World.cell?_setCell_same' _ _ _ (by rw [h.c3]; rfl), (Ob.oth w bo 3 4 _ (by omega)).trans h.c4, fun i => by simpa using h.f i⟩
theorem Ob.put4 (h : Ob w1 bo x d s n v w) (y : Int) : Ob w1 bo x d s n y (w.setCell ⟨bo, 4, none⟩ (.int .i64 y)) :=
  ⟨h.low.setCell h.hb _, h.hb, by simpa using h.z, (Ob.oth w bo 4 0 _ (by omega)).trans h.c0, (Ob.oth w bo 4 1 _ (by omega)).trans h.c1, (Ob.oth w bo 4 2 _ (by omega)).trans h.c2, (Ob.oth w bo 4 3 _ (by omega)).trans h.c3, World.cell?_setCell_same' _ _ _ (by rw [h.c4]; rfl), fun i => by simpa using h.f i⟩
theorem Ob.new (w : World) (x d s n v : Int) : Ob w w.heap.size x d s n v (w.alloc (.cells #[.int .i64 x, .int .i64 d, .int .i64 s, .int .i64 n, .int .i64 v] 42)) :=
  ⟨stA (st0 w) _, Nat.le_refl _, by simp, cell_new _ _ _ _ rfl, cell_new _ _ _ _ rfl, cell_new _ _ _ _ rfl, cell_new _ _ _ _ rfl, cell_new _ _ _ _ rfl, fun i => Lib.frozen_of_heap (heap_alloc_new w _) i⟩
end
set_option maxRecDepth 100000 in
set_option maxHeartbeats 1600000 in
theorem secF_pre (Q : Exit → Act → World → Prop) (a : Act) (w : World) (v5 v6 v17 : Value) (mp gl n k bi : Nat) (t op rest : S.By) (hS : Sc a v5 v6 mp gl n k bi t op rest v17) (ho : op ≠ S.plain)
    (hz : ∀ a', Sf a' v5 v6 mp gl n k bi t op [] v17 → ((cGo [1, 1, 1, 1, 1, 1, 1, 0, 1, 2, 3, 1, 1, 0, 2, 1, 1, 1, 1, 1, 1, 1, 1, 1, 1, 0, 1, 5] bBody)).wp Tryz.prog (Exit.then (((cGo [1, 1, 1, 1, 1, 1, 1, 0, 1, 2, 3, 1, 1, 0, 2, 1, 1, 1, 1, 1, 1, 1, 1, 1, 1, 1] bBody)).wp Tryz.prog Q) Q) a' w) :
    ((cGo [1, 1, 1, 1, 1, 1, 1, 0, 1, 2, 3, 1, 1, 0, 2, 1, 1, 1, 1, 1, 1, 1, 1] bBody)).wp Tryz.prog Q a w := by
  obtain ⟨⟨⟨sz, df, s5, s6, s7, s8, s52, s53, s54⟩, s9, s10, s11⟩, s14, s15, s17⟩ := hS
  have hop : ((mk op).toList == [46, 119, 111, 114, 100]) = false := by
    rw [mk_toList]
    exact beq_eq_false_iff_ne.2 ho
  clear ho
  obtain ⟨f, hf, rfl⟩ := act_open a sz df
  rw [hf] at s5 s6 s7 s8 s52 s53 s54 s9 s10 s11 s14 s15 s17
  clear hf sz df
  rw [s5, s6, s7, s8, s52, s53, s54, s9, s10, s11, s14, s15, s17]
  show (Code.seq (cGo [1, 1, 1, 1, 1, 1, 1, 0, 1, 2, 3, 1, 1, 0, 2, 1, 1, 1, 1, 1, 1, 1, 1, 0] bBody) (Code.seq (cGo [1, 1, 1, 1, 1, 1, 1, 0, 1, 2, 3, 1, 1, 0, 2, 1, 1, 1, 1, 1, 1, 1, 1, 1, 0] bBody) (Code.seq (Code.seq (cGo [1, 1, 1, 1, 1, 1, 1, 0, 1, 2, 3, 1, 1, 0, 2, 1, 1, 1, 1, 1, 1, 1, 1, 1, 1, 0, 0] bBody) (Code.cond (.tmp 141) (cGo [1, 1, 1, 1, 1, 1, 1, 0, 1, 2, 3, 1, 1, 0, 2, 1, 1, 1, 1, 1, 1, 1, 1, 1, 1, 0, 1, 4] bBody) (cGo [1, 1, 1, 1, 1, 1, 1, 0, 1, 2, 3, 1, 1, 0, 2, 1, 1, 1, 1, 1, 1, 1, 1, 1, 1, 0, 1, 5] bBody))) (cGo [1, 1, 1, 1, 1, 1, 1, 0, 1, 2, 3, 1, 1, 0, 2, 1, 1, 1, 1, 1, 1, 1, 1, 1, 1, 1] bBody)))).wp Tryz.prog Q _ w
  revert hz
  generalize (cGo [1, 1, 1, 1, 1, 1, 1, 0, 1, 2, 3, 1, 1, 0, 2, 1, 1, 1, 1, 1, 1, 1, 1, 1, 1, 1] bBody) = z
  generalize (cGo [1, 1, 1, 1, 1, 1, 1, 0, 1, 2, 3, 1, 1, 0, 2, 1, 1, 1, 1, 1, 1, 1, 1, 1, 1, 0, 1, 5] bBody) = ze
  generalize (cGo [1, 1, 1, 1, 1, 1, 1, 0, 1, 2, 3, 1, 1, 0, 2, 1, 1, 1, 1, 1, 1, 1, 1, 1, 1, 0, 1, 4] bBody) = zt
  intro hz
  conv => arg 2; arg 1; whnf
  conv => arg 2; arg 2; arg 1; whnf
  conv => arg 2; arg 2; arg 2; arg 1; arg 1; whnf
  go_wp2
  exact then_k (by assumption) (hz _ ⟨⟨⟨rfl, rfl, rfl, rfl, rfl, rfl, rfl, rfl, rfl⟩, rfl, rfl, rfl⟩, rfl, rfl, rfl⟩)
set_option maxRecDepth 100000 in
set_option maxHeartbeats 1600000 in
theorem secF_0 (Q : Exit → Act → World → Prop) (a : Act) (w : World) (v5 v6 v17 : Value) (mp gl n k bi : Nat) (t op nm : S.By) (hS : Sf a v5 v6 mp gl n k bi t op nm v17)
    (hN : ∀ a' w', Sg a' v5 v6 mp gl n k bi t op nm v17 w.heap.size → Ob w w.heap.size (-1) 0 0 0 0 w' → Q .normal a' w') :
    ((cGo [1, 1, 1, 1, 1, 1, 1, 0, 1, 2, 3, 1, 1, 0, 2, 1, 1, 1, 1, 1, 1, 1, 1, 1, 1, 0, 1, 5, 0] bBody)).wp Tryz.prog Q a w := by
  obtain ⟨⟨⟨sz, df, s5, s6, s7, s8, s52, s53, s54⟩, s9, s10, s11⟩, s14, s17, s20⟩ := hS
  obtain ⟨f, hf, rfl⟩ := act_open a sz df
  rw [hf] at s5 s6 s7 s8 s52 s53 s54 s9 s10 s11 s14 s17 s20
  clear hf sz df
  rw [s5, s6, s7, s8, s52, s53, s54, s9, s10, s11, s14, s17, s20]
  conv => arg 2; whnf
  go_wp2
  exact hN _ _ ⟨⟨⟨⟨rfl, rfl, rfl, rfl, rfl, rfl, rfl, rfl, rfl⟩, rfl, rfl, rfl⟩, rfl, rfl, rfl⟩, rfl⟩ (Ob.new w _ _ _ _ _)
set_option maxRecDepth 100000 in
set_option maxHeartbeats 1600000 in
theorem secF_1a (Q : Exit → Act → World → Prop) (a : Act) (w : World) (v5 v6 v17 : Value) (mp gl n k bi : Nat) (t op nm : S.By) (bo : Nat) (hS : Sg a v5 v6 mp gl n k bi t op nm v17 bo) (hF : Facts w)
    (hN : ∀ a' w' gk, Sg a' v5 v6 mp gl n k bi t op nm v17 bo → (∃ cap, sl a' 186 = .slice (some ⟨gk, 0, none⟩) 32 cap) → sl a' 187 = .int .i64 32 → sl a' 188 = .int .i64 0 → tableAt w' gk → gk < w'.heap.size → w.heap.size ≤ gk → Below w.heap.size w w' → Q .normal a' w') :
    ((cGo [1, 1, 1, 1, 1, 1, 1, 0, 1, 2, 3, 1, 1, 0, 2, 1, 1, 1, 1, 1, 1, 1, 1, 1, 1, 0, 1, 5, 1, 0, 0] bBody)).wp Tryz.prog Q a w := by
  obtain ⟨⟨⟨⟨sz, df, s5, s6, s7, s8, s52, s53, s54⟩, s9, s10, s11⟩, s14, s17, s20⟩, s23⟩ := hS
  have HK := hid (kinds_of w hF)
  clear hF
  obtain ⟨f, hf, rfl⟩ := act_open a sz df
  rw [hf] at s5 s6 s7 s8 s52 s53 s54 s9 s10 s11 s14 s17 s20 s23
  clear hf sz df
  rw [s5, s6, s7, s8, s52, s53, s54, s9, s10, s11, s14, s17, s20, s23]
  conv => arg 2; whnf
  go_wp2_with (go_at_call 18; refine HK.out.mono ?_; rintro e w1 ⟨g, cap, rfl, htb, hg1, hg2, hb1⟩)
  exact hN _ _ g ⟨⟨⟨⟨rfl, rfl, rfl, rfl, rfl, rfl, rfl, rfl, rfl⟩, rfl, rfl, rfl⟩, rfl, rfl, rfl⟩, rfl⟩ ⟨cap, rfl⟩ rfl rfl htb hg2 hg1 hb1
set_option maxRecDepth 100000 in
set_option maxHeartbeats 1600000 in
theorem secF_1x (Q : Exit → Act → World → Prop) (a : Act) (w w1 : World) (v5 v6 v17 : Value) (mp gl n k bi : Nat) (t op nm : S.By) (bo gk cap j : Nat) (x d s nn v : Int) (hS : Sg a v5 v6 mp gl n k bi t op nm v17 bo) (s186 : sl a 186 = .slice (some ⟨gk, 0, none⟩) 32 cap) (s187 : sl a 187 = .int .i64 32) (s188 : sl a 188 = .int .i64 j) (hO : Ob w1 bo x d s nn v w) (hT : tableAt w gk) (hgk : gk < w.heap.size) (hgo : gk ≠ bo) (hj : j = 32)
    (hN : ∀ a', Sg a' v5 v6 mp gl n k bi t op nm v17 bo → Q (.exit 4) a' w) :
    ((cGo [1, 1, 1, 1, 1, 1, 1, 0, 1, 2, 3, 1, 1, 0, 2, 1, 1, 1, 1, 1, 1, 1, 1, 1, 1, 0, 1, 5, 1, 0, 1, 2, 3] bBody)).wp Tryz.prog Q a w := by
  obtain ⟨⟨⟨⟨sz, df, s5, s6, s7, s8, s52, s53, s54⟩, s9, s10, s11⟩, s14, s17, s20⟩, s23⟩ := hS
  subst hj
  obtain ⟨f, hf, rfl⟩ := act_open a sz df
  rw [hf] at s5 s6 s7 s8 s52 s53 s54 s9 s10 s11 s14 s17 s20 s23 s186 s187 s188
  clear hf sz df
  rw [s5, s6, s7, s8, s52, s53, s54, s9, s10, s11, s14, s17, s20, s23, s186, s187, s188]
  conv => arg 2; whnf
  go_wp2
  exact ⟨⟨⟨⟨rfl, rfl, rfl, rfl, rfl, rfl, rfl, rfl, rfl⟩, rfl, rfl, rfl⟩, rfl, rfl, rfl⟩, rfl⟩
theorem tab_box {w : World} {gk : Nat} {o : Obj} (h : tableAt w gk) (hg : gk < w.heap.size) : tableAt (w.alloc o) gk := h.kept (stA (st0 w) o) hg
theorem tab_set {w : World} {gk bo : Nat} {v : Value} (h : tableAt w gk) (hne : gk ≠ bo) : tableAt (w.setCell ⟨bo, 0, none⟩ v) gk := fun k hk => by
  obtain ⟨h1, h2, h3⟩ := h k hk
  exact ⟨(World.cell?_setCell_far _ _ _ v (Ne.symm hne)).trans h1, (World.cell?_setCell_far _ _ _ v (Ne.symm hne)).trans h2, (World.cell?_setCell_far _ _ _ v (Ne.symm hne)).trans h3⟩
set_option maxRecDepth 100000 in
set_option maxHeartbeats 1600000 in
theorem secF_1y (Q : Exit → Act → World → Prop) (a : Act) (w w1 : World) (v5 v6 v17 : Value) (mp gl n k bi : Nat) (t op nm : S.By) (bo gk cap j : Nat) (x d s nn v : Int) (hS : Sg a v5 v6 mp gl n k bi t op nm v17 bo) (s186 : sl a 186 = .slice (some ⟨gk, 0, none⟩) 32 cap) (s187 : sl a 187 = .int .i64 32) (s188 : sl a 188 = .int .i64 j) (hO : Ob w1 bo x d s nn v w) (hT : tableAt w gk) (hgk : gk < w.heap.size) (hgo : gk ≠ bo) (hj : j < 32) (hnm : ((K.name j).toList == (mk op).toList) = true) (h30 : j ≠ 30)
    (hN : ∀ a' w', Sg a' v5 v6 mp gl n k bi t op nm v17 bo → sl a' 186 = .slice (some ⟨gk, 0, none⟩) 32 cap → sl a' 187 = .int .i64 32 → sl a' 188 = .int .i64 (j + 1 : Nat) → Ob w1 bo j d s nn v w' → tableAt w' gk → gk < w'.heap.size → Q .normal a' w') :
    ((cGo [1, 1, 1, 1, 1, 1, 1, 0, 1, 2, 3, 1, 1, 0, 2, 1, 1, 1, 1, 1, 1, 1, 1, 1, 1, 0, 1, 5, 1, 0, 1, 2, 3] bBody)).wp Tryz.prog Q a w := by
  obtain ⟨⟨⟨⟨sz, df, s5, s6, s7, s8, s52, s53, s54⟩, s9, s10, s11⟩, s14, s17, s20⟩, s23⟩ := hS
  have hj1 : (j : Int) < 32 := by omega
  have hj0 : (0 : Int) ≤ j := by omega
  obtain ⟨t0, t1, t2⟩ := hT j (by omega)
  have HO := hid hO
  have HT := hid hT
  obtain ⟨_, _, oz, o0, _, _, _, _, of⟩ := hO
  have hne : w.heap.size ≠ bo := by omega
  have hne2 : bo ≠ w.heap.size := by omega
  have h30' : ((j : Int) != 30) = true := by simp; omega
  clear hT h30
  obtain ⟨f, hf, rfl⟩ := act_open a sz df
  rw [hf] at s5 s6 s7 s8 s52 s53 s54 s9 s10 s11 s14 s17 s20 s23 s186 s187 s188
  clear hf sz df
  rw [s5, s6, s7, s8, s52, s53, s54, s9, s10, s11, s14, s17, s20, s23, s186, s187, s188]
  conv => arg 2; whnf
  go_wp2
  have hb := stA (st0 w) (.cells #[.string (K.name j), .string (K.has j), .int .i64 (K.cyc j)] 46)
  refine hN _ _ ⟨⟨⟨⟨rfl, rfl, rfl, rfl, rfl, rfl, rfl, rfl, rfl⟩, rfl, rfl, rfl⟩, rfl, rfl, rfl⟩, rfl⟩ rfl rfl (by first | rfl | simp) ?_ ?_ ?_
  · first | exact (HO.out.kept hb).put0 j | exact (HO.out.put0 j).kept (stA (st0 _) _)
  · first | exact tab_set (tab_box HT.out hgk) hgo | exact tab_box (tab_set HT.out hgo) (by simpa using hgk)
  · simp; omega
set_option maxRecDepth 100000 in
set_option maxHeartbeats 1600000 in
theorem secF_1n (Q : Exit → Act → World → Prop) (a : Act) (w w1 : World) (v5 v6 v17 : Value) (mp gl n k bi : Nat) (t op nm : S.By) (bo gk cap j : Nat) (x d s nn v : Int) (hS : Sg a v5 v6 mp gl n k bi t op nm v17 bo) (s186 : sl a 186 = .slice (some ⟨gk, 0, none⟩) 32 cap) (s187 : sl a 187 = .int .i64 32) (s188 : sl a 188 = .int .i64 j) (hO : Ob w1 bo x d s nn v w) (hT : tableAt w gk) (hgk : gk < w.heap.size) (hgo : gk ≠ bo) (hj : j < 32) (hnm : ((K.name j).toList == (mk op).toList) = false)
    (hN : ∀ a' w', Sg a' v5 v6 mp gl n k bi t op nm v17 bo → sl a' 186 = .slice (some ⟨gk, 0, none⟩) 32 cap → sl a' 187 = .int .i64 32 → sl a' 188 = .int .i64 (j + 1 : Nat) → Ob w1 bo x d s nn v w' → tableAt w' gk → gk < w'.heap.size → Q .normal a' w') :
    ((cGo [1, 1, 1, 1, 1, 1, 1, 0, 1, 2, 3, 1, 1, 0, 2, 1, 1, 1, 1, 1, 1, 1, 1, 1, 1, 0, 1, 5, 1, 0, 1, 2, 3] bBody)).wp Tryz.prog Q a w := by
  obtain ⟨⟨⟨⟨sz, df, s5, s6, s7, s8, s52, s53, s54⟩, s9, s10, s11⟩, s14, s17, s20⟩, s23⟩ := hS
  have hj1 : (j : Int) < 32 := by omega
  have hj0 : (0 : Int) ≤ j := by omega
  obtain ⟨t0, t1, t2⟩ := hT j (by omega)
  have HO := hid hO
  have HT := hid hT
  obtain ⟨_, _, oz, o0, _, _, _, _, of⟩ := hO
  have hne : w.heap.size ≠ bo := by omega
  have hne2 : bo ≠ w.heap.size := by omega
  clear hT
  obtain ⟨f, hf, rfl⟩ := act_open a sz df
  rw [hf] at s5 s6 s7 s8 s52 s53 s54 s9 s10 s11 s14 s17 s20 s23 s186 s187 s188
  clear hf sz df
  rw [s5, s6, s7, s8, s52, s53, s54, s9, s10, s11, s14, s17, s20, s23, s186, s187, s188]
  conv => arg 2; whnf
  go_wp2
  have hb := stA (st0 w) (.cells #[.string (K.name j), .string (K.has j), .int .i64 (K.cyc j)] 46)
  exact hN _ _ ⟨⟨⟨⟨rfl, rfl, rfl, rfl, rfl, rfl, rfl, rfl, rfl⟩, rfl, rfl, rfl⟩, rfl, rfl, rfl⟩, rfl⟩ rfl rfl (by first | rfl | simp) (HO.out.kept hb) (tab_box HT.out hgk) (by simp; omega)
set_option maxRecDepth 100000 in
set_option maxHeartbeats 1600000 in
theorem secF_1m (Q : Exit → Act → World → Prop) (a : Act) (w w1 : World) (v5 v6 v17 : Value) (mp gl n k bi : Nat) (t op nm : S.By) (bo gk cap j : Nat) (x d s nn v : Int) (hS : Sg a v5 v6 mp gl n k bi t op nm v17 bo) (s186 : sl a 186 = .slice (some ⟨gk, 0, none⟩) 32 cap) (s187 : sl a 187 = .int .i64 32) (s188 : sl a 188 = .int .i64 j) (hO : Ob w1 bo x d s nn v w) (hT : tableAt w gk) (hgk : gk < w.heap.size) (hgo : gk ≠ bo) (hj : j < 32) (hnm : ((K.name j).toList == (mk op).toList) = true) (h30 : j = 30)
    (hN : ∀ a' w', Sg a' v5 v6 mp gl n k bi t op nm v17 bo → sl a' 186 = .slice (some ⟨gk, 0, none⟩) 32 cap → sl a' 187 = .int .i64 32 → sl a' 188 = .int .i64 (j + 1 : Nat) → Ob w1 bo x d s nn v w' → tableAt w' gk → gk < w'.heap.size → Q .normal a' w') :
    ((cGo [1, 1, 1, 1, 1, 1, 1, 0, 1, 2, 3, 1, 1, 0, 2, 1, 1, 1, 1, 1, 1, 1, 1, 1, 1, 0, 1, 5, 1, 0, 1, 2, 3] bBody)).wp Tryz.prog Q a w := by
  obtain ⟨⟨⟨⟨sz, df, s5, s6, s7, s8, s52, s53, s54⟩, s9, s10, s11⟩, s14, s17, s20⟩, s23⟩ := hS
  have hj1 : (j : Int) < 32 := by omega
  have hj0 : (0 : Int) ≤ j := by omega
  obtain ⟨t0, t1, t2⟩ := hT j (by omega)
  have HO := hid hO
  have HT := hid hT
  obtain ⟨_, _, oz, o0, _, _, _, _, of⟩ := hO
  have hne : w.heap.size ≠ bo := by omega
  have hne2 : bo ≠ w.heap.size := by omega
  have h30' : ((j : Int) != 30) = false := by simp; omega
  clear hT h30
  obtain ⟨f, hf, rfl⟩ := act_open a sz df
  rw [hf] at s5 s6 s7 s8 s52 s53 s54 s9 s10 s11 s14 s17 s20 s23 s186 s187 s188
  clear hf sz df
  rw [s5, s6, s7, s8, s52, s53, s54, s9, s10, s11, s14, s17, s20, s23, s186, s187, s188]
  conv => arg 2; whnf
  go_wp2
  have hb := stA (st0 w) (.cells #[.string (K.name j), .string (K.has j), .int .i64 (K.cyc j)] 46)
  exact hN _ _ ⟨⟨⟨⟨rfl, rfl, rfl, rfl, rfl, rfl, rfl, rfl, rfl⟩, rfl, rfl, rfl⟩, rfl, rfl, rfl⟩, rfl⟩ rfl rfl (by first | rfl | simp) (HO.out.kept hb) (tab_box HT.out hgk) (by simp; omega)
def μF (i M : Nat) (a : Act) (_ : World) : Nat := M - (intOf (sl a i)).toNat
theorem μF_at {i M j : Nat} {a : Act} {w : World} (h : sl a i = .int .i64 j) : μF i M a w = M - j := by
  unfold μF
  rw [h]
  simp [intOf]
theorem secF_1 (Q : Exit → Act → World → Prop) (a : Act) (w w1 : World) (v5 v6 v17 : Value) (mp gl n k bi : Nat) (t op nm : S.By) (bo : Nat) (hS : Sg a v5 v6 mp gl n k bi t op nm v17 bo) (hO : Ob w1 bo (-1) 0 0 0 0 w) (hF : Facts w)
    (hN : ∀ a' w', Sg a' v5 v6 mp gl n k bi t op nm v17 bo → Ob w1 bo (S.lastOp 32 op) 0 0 0 0 w' → Q .normal a' w') :
    ((cGo [1, 1, 1, 1, 1, 1, 1, 0, 1, 2, 3, 1, 1, 0, 2, 1, 1, 1, 1, 1, 1, 1, 1, 1, 1, 0, 1, 5, 1, 0] bBody)).wp Tryz.prog Q a w := by
  show (Code.seq (cGo [1, 1, 1, 1, 1, 1, 1, 0, 1, 2, 3, 1, 1, 0, 2, 1, 1, 1, 1, 1, 1, 1, 1, 1, 1, 0, 1, 5, 1, 0, 0] bBody) (Code.block 4 (Code.loop (cGo [1, 1, 1, 1, 1, 1, 1, 0, 1, 2, 3, 1, 1, 0, 2, 1, 1, 1, 1, 1, 1, 1, 1, 1, 1, 0, 1, 5, 1, 0, 1, 2, 3] bBody)))).wp Tryz.prog Q a w
  refine wp_seq (secF_1a _ a w v5 v6 v17 mp gl n k bi t op nm bo hS hF ?_)
  rintro a2 w2 gk hS2 ⟨cap, h186⟩ h187 h188 hT2 hg2 hgk hb2
  have hO2 := hO.kept hb2
  have hgo : gk ≠ bo := by have := hO.z; omega
  refine wp_block (wp_loop (fun a w => ∃ j : Nat, j ≤ 32 ∧ Sg a v5 v6 mp gl n k bi t op nm v17 bo ∧ sl a 186 = .slice (some ⟨gk, 0, none⟩) 32 cap ∧ sl a 187 = .int .i64 32 ∧ sl a 188 = .int .i64 j ∧ Ob w1 bo (S.lastOp j op) 0 0 0 0 w ∧ tableAt w gk ∧ gk < w.heap.size) (μF 188 32) ⟨0, by omega, hS2, h186, h187, h188, hO2, hT2, hg2⟩ ?_)
  rintro a3 w3 ⟨j, hj, hS3, q186, q187, q188, hO3, hT3, hg3⟩
  rw [μF_at (M := 32) (w := w3) q188]
  by_cases h32 : j = 32
  · refine secF_1x _ a3 w3 w1 v5 v6 v17 mp gl n k bi t op nm bo gk cap j _ _ _ _ _ hS3 q186 q187 q188 hO3 hT3 hg3 hgo h32 (fun a' h => ex_in (hN a' w3 h ?_))
    rw [← h32]; exact hO3
  · have hjl : j < 32 := by omega
    have hnl : (K.name j).toList = (K.row j).1 := by rw [Lib.toList_data]; rfl
    have hstep : S.lastOp (j + 1) op = if (K.row j).1 = op ∧ j ≠ 30 then (j : Int) else S.lastOp j op := rfl
    cases hnm : ((K.name j).toList == (mk op).toList) with
    | true =>
      have heq : (K.row j).1 = op := by rw [← hnl, ← mk_toList op]; exact eq_of_beq hnm
      by_cases h30 : j = 30
      · refine secF_1m _ a3 w3 w1 v5 v6 v17 mp gl n k bi t op nm bo gk cap j _ _ _ _ _ hS3 q186 q187 q188 hO3 hT3 hg3 hgo hjl hnm h30 (fun a' w' h1 h2 h3 h4 h5 h6 h7 => ⟨⟨j + 1, by omega, h1, h2, h3, h4, ?_, h6, h7⟩, ?_⟩)
        · rw [hstep, if_neg (fun h => h.2 h30)]; exact h5
        · rw [μF_at (M := 32) (w := w') h4]; omega
      · refine secF_1y _ a3 w3 w1 v5 v6 v17 mp gl n k bi t op nm bo gk cap j _ _ _ _ _ hS3 q186 q187 q188 hO3 hT3 hg3 hgo hjl hnm h30 (fun a' w' h1 h2 h3 h4 h5 h6 h7 => ⟨⟨j + 1, by omega, h1, h2, h3, h4, ?_, h6, h7⟩, ?_⟩)
        · rw [hstep, if_pos ⟨heq, h30⟩]; exact h5
        · rw [μF_at (M := 32) (w := w') h4]; omega
    | false =>
      have hne : (K.row j).1 ≠ op := by rw [← hnl, ← mk_toList op]; exact beq_eq_false_iff_ne.1 hnm
      refine secF_1n _ a3 w3 w1 v5 v6 v17 mp gl n k bi t op nm bo gk cap j _ _ _ _ _ hS3 q186 q187 q188 hO3 hT3 hg3 hgo hjl hnm (fun a' w' h1 h2 h3 h4 h5 h6 h7 => ⟨⟨j + 1, by omega, h1, h2, h3, h4, ?_, h6, h7⟩, ?_⟩)
      · rw [hstep, if_neg (fun h => hne h.1)]; exact h5
      · rw [μF_at (M := 32) (w := w') h4]; omega
set_option maxRecDepth 100000 in
set_option maxHeartbeats 1600000 in
theorem secF_2bad (Q : Exit → Act → World → Prop) (a : Act) (w w1 : World) (v5 v6 v17 : Value) (mp gl n k bi : Nat) (t op nm : S.By) (bo : Nat) (x d s nn v : Int) (hS : Sg a v5 v6 mp gl n k bi t op nm v17 bo) (hO : Ob w1 bo x d s nn v w) (hx : x < 0) (hB : Bi w bi k)
    (hR : ∀ a' w', Rt a' k 5 → Below w.heap.size w w' → Q .ret a' w') :
    ((cGo [1, 1, 1, 1, 1, 1, 1, 0, 1, 2, 3, 1, 1, 0, 2, 1, 1, 1, 1, 1, 1, 1, 1, 1, 1, 0, 1, 5, 1, 1, 0] bBody)).wp Tryz.prog Q a w := by
  obtain ⟨⟨⟨⟨sz, df, s5, s6, s7, s8, s52, s53, s54⟩, s9, s10, s11⟩, s14, s17, s20⟩, s23⟩ := hS
  obtain ⟨_, _, oz, o0, _, _, _, _, of⟩ := hO
  have HB := hid hB
  clear hB
  obtain ⟨f, hf, rfl⟩ := act_open a sz df
  rw [hf] at s5 s6 s7 s8 s52 s53 s54 s9 s10 s11 s14 s17 s20 s23
  clear hf sz df
  rw [s5, s6, s7, s8, s52, s53, s54, s9, s10, s11, s14, s17, s20, s23]
  conv => arg 2; whnf
  go_wp2_with (go_at_call 13; refine (HB.out.fail _).mono ?_; rintro e w3 ⟨rfl, hb3⟩)
  exact hR _ _ ⟨rfl, rfl, rfl, rfl⟩ hb3
set_option maxRecDepth 100000 in
set_option maxHeartbeats 1600000 in
theorem secF_2ok (Q : Exit → Act → World → Prop) (a : Act) (w w1 : World) (v5 v6 v17 : Value) (mp gl n k bi : Nat) (t op nm : S.By) (bo : Nat) (x d s nn v : Int) (hS : Sg a v5 v6 mp gl n k bi t op nm v17 bo) (hO : Ob w1 bo x d s nn v w) (hx : ¬ x < 0)
    (hN : ∀ a', Sg a' v5 v6 mp gl n k bi t op nm v17 bo → Q .normal a' w) :
    ((cGo [1, 1, 1, 1, 1, 1, 1, 0, 1, 2, 3, 1, 1, 0, 2, 1, 1, 1, 1, 1, 1, 1, 1, 1, 1, 0, 1, 5, 1, 1, 0] bBody)).wp Tryz.prog Q a w := by
  obtain ⟨⟨⟨⟨sz, df, s5, s6, s7, s8, s52, s53, s54⟩, s9, s10, s11⟩, s14, s17, s20⟩, s23⟩ := hS
  obtain ⟨_, _, oz, o0, _, _, _, _, of⟩ := hO
  obtain ⟨f, hf, rfl⟩ := act_open a sz df
  rw [hf] at s5 s6 s7 s8 s52 s53 s54 s9 s10 s11 s14 s17 s20 s23
  clear hf sz df
  rw [s5, s6, s7, s8, s52, s53, s54, s9, s10, s11, s14, s17, s20, s23]
  conv => arg 2; whnf
  go_wp2
  exact ⟨⟨⟨⟨rfl, rfl, rfl, rfl, rfl, rfl, rfl, rfl, rfl⟩, rfl, rfl, rfl⟩, rfl, rfl, rfl⟩, rfl⟩
/-- The slots of a line whose order is known: what it has. -/
structure Sh (a : Act) (v5 v6 : Value) (mp gl n k bi : Nat) (t op nm : S.By) (v17 : Value) (bo : Nat) (has : ByteArray) : Prop extends Sg a v5 v6 mp gl n k bi t op nm v17 bo where
  s26 : sl a 26 = .string has
set_option maxRecDepth 100000 in
set_option maxHeartbeats 1600000 in
theorem secF_3 (Q : Exit → Act → World → Prop) (a : Act) (w w1 : World) (v5 v6 v17 : Value) (mp gl n k bi : Nat) (t op nm : S.By) (bo kk : Nat) (d s nn v : Int) (hS : Sg a v5 v6 mp gl n k bi t op nm v17 bo) (hO : Ob w1 bo kk d s nn v w) (hk : kk < 32) (hF : Facts w)
    (hN : ∀ a' w', Sh a' v5 v6 mp gl n k bi t op nm v17 bo (K.has kk) → Below w.heap.size w w' → Q .normal a' w') :
    ((cGo [1, 1, 1, 1, 1, 1, 1, 0, 1, 2, 3, 1, 1, 0, 2, 1, 1, 1, 1, 1, 1, 1, 1, 1, 1, 0, 1, 5, 1, 1, 1, 0] bBody)).wp Tryz.prog Q a w := by
  obtain ⟨⟨⟨⟨sz, df, s5, s6, s7, s8, s52, s53, s54⟩, s9, s10, s11⟩, s14, s17, s20⟩, s23⟩ := hS
  obtain ⟨_, _, oz, o0, _, _, _, _, of⟩ := hO
  have hk0 : (0 : Int) ≤ kk := by omega
  have hk1 : (kk : Int) < 32 := by omega
  have HF := hid hF
  clear hF
  obtain ⟨f, hf, rfl⟩ := act_open a sz df
  rw [hf] at s5 s6 s7 s8 s52 s53 s54 s9 s10 s11 s14 s17 s20 s23
  clear hf sz df
  rw [s5, s6, s7, s8, s52, s53, s54, s9, s10, s11, s14, s17, s20, s23]
  suffices hK : ∀ Kx : Act → World → Prop, (∀ a' w', Sh a' v5 v6 mp gl n k bi t op nm v17 bo (K.has kk) → Below w.heap.size w w' → Kx a' w') → ((cGo [1, 1, 1, 1, 1, 1, 1, 0, 1, 2, 3, 1, 1, 0, 2, 1, 1, 1, 1, 1, 1, 1, 1, 1, 1, 0, 1, 5, 1, 1, 1, 0] bBody)).wp Tryz.prog (Exit.then Kx (fun _ _ _ => False)) { tmps := #[f 0, f 1, f 2, f 3, f 4, v5, v6, (.map (some mp)), (.slice (some ⟨gl, 0, none⟩) n n), (.pointer (some ⟨bi, 0, none⟩)), (.string (mk t)), (.func (.func 13) #[] #[.pointer (some ⟨bi, 0, none⟩)]), f 12, f 13, (.string (mk op)), f 15, f 16, v17, f 18, f 19, (.string (mk nm)), f 21, f 22, (.pointer (some ⟨bo, 0, none⟩)), f 24, f 25, f 26, f 27, f 28, f 29, f 30, f 31, f 32, f 33, f 34, f 35, f 36, f 37, f 38, f 39, f 40, f 41, f 42, f 43, f 44, f 45, f 46, f 47, f 48, f 49, f 50, f 51, (.slice (some ⟨gl, 0, none⟩) n n), (.int .i64 n), (.int .i64 k), f 55, f 56, f 57, f 58, f 59, f 60, f 61, f 62, f 63, f 64, f 65, f 66, f 67, f 68, f 69, f 70, f 71, f 72, f 73, f 74, f 75, f 76, f 77, f 78, f 79, f 80, f 81, f 82, f 83, f 84, f 85, f 86, f 87, f 88, f 89, f 90, f 91, f 92, f 93, f 94, f 95, f 96, f 97, f 98, f 99, f 100, f 101, f 102, f 103, f 104, f 105, f 106, f 107, f 108, f 109, f 110, f 111, f 112, f 113, f 114, f 115, f 116, f 117, f 118, f 119, f 120, f 121, f 122, f 123, f 124, f 125, f 126, f 127, f 128, f 129, f 130, f 131, f 132, f 133, f 134, f 135, f 136, f 137, f 138, f 139, f 140, f 141, f 142, f 143, f 144, f 145, f 146, f 147, f 148, f 149, f 150, f 151, f 152, f 153, f 154, f 155, f 156, f 157, f 158, f 159, f 160, f 161, f 162, f 163, f 164, f 165, f 166, f 167, f 168, f 169, f 170, f 171, f 172, f 173, f 174, f 175, f 176, f 177, f 178, f 179, f 180, f 181, f 182, f 183, f 184, f 185, f 186, f 187, f 188, f 189, f 190, f 191, f 192, f 193, f 194, f 195, f 196, f 197, f 198, f 199, f 200, f 201, f 202, f 203, f 204, f 205, f 206, f 207, f 208, f 209, f 210, f 211, f 212, f 213, f 214, f 215, f 216, f 217, f 218, f 219, f 220, f 221, f 222, f 223, f 224, f 225, f 226, f 227, f 228, f 229, f 230, f 231, f 232, f 233, f 234, f 235, f 236, f 237, f 238, f 239, f 240, f 241, f 242, f 243, f 244, f 245, f 246, f 247, f 248, f 249, f 250, f 251, f 252, f 253, f 254, f 255, f 256, f 257, f 258, f 259, f 260, f 261, f 262, f 263, f 264, f 265, f 266, f 267, f 268, f 269, f 270, f 271, f 272, f 273, f 274, f 275, f 276, f 277, f 278, f 279, f 280, f 281, f 282, f 283, f 284, f 285, f 286, f 287, f 288, f 289, f 290, f 291, f 292, f 293, f 294, f 295, f 296, f 297, f 298, f 299, f 300, f 301, f 302, f 303, f 304, f 305, f 306, f 307, f 308, f 309, f 310, f 311, f 312, f 313, f 314, f 315, f 316, f 317, f 318, f 319, f 320, f 321, f 322, f 323, f 324, f 325, f 326, f 327, f 328, f 329, f 330, f 331, f 332, f 333, f 334, f 335, f 336, f 337, f 338, f 339, f 340, f 341, f 342, f 343, f 344, f 345, f 346, f 347, f 348, f 349, f 350, f 351, f 352, f 353, f 354, f 355, f 356, f 357, f 358, f 359, f 360, f 361, f 362, f 363, f 364, f 365, f 366, f 367, f 368, f 369, f 370, f 371, f 372, f 373, f 374, f 375, f 376, f 377, f 378, f 379, f 380, f 381, f 382, f 383, f 384, f 385, f 386, f 387, f 388, f 389, f 390], defers := [] } w from
    wp_mono (hK (fun a' w' => Q .normal a' w') hN) (fun e a w h => by
      cases e with
      | normal => exact h
      | _ => exact h.elim)
  intro Kx hKx
  conv => arg 2; whnf
  go_region_with (go_at_call 18; refine (kinds_of _ (by repeat first | exact HF.out | apply facts_drew | apply facts_alloc)).mono ?_; rintro e w1 ⟨g, cap, rfl, htb, hg1, hg2, hb1⟩; obtain ⟨c0, c1, c2⟩ := htb kk hk; clear htb; have q0 : w1.cell? ⟨bo, 0, none⟩ = some (.int .i64 kk) := (hb1.cell (p := ⟨bo, 0, none⟩) oz).trans o0; have oz1 : bo < w1.heap.size := Nat.lt_of_lt_of_le oz hb1.size)
  all_goals exact hKx _ _ ⟨⟨⟨⟨⟨rfl, rfl, rfl, rfl, rfl, rfl, rfl, rfl, rfl⟩, rfl, rfl, rfl⟩, rfl, rfl, rfl⟩, rfl⟩, rfl⟩ (stp (st0 w).drew hb1)
set_option maxRecDepth 100000 in
set_option maxHeartbeats 1600000 in
theorem secF_4bad (Q : Exit → Act → World → Prop) (a : Act) (w : World) (v5 v6 : Value) (mp gl n k bi : Nat) (t op nm : S.By) (bo : Nat) (has : ByteArray) (ra : Option Addr) (L rc : Nat) (hS : Sh a v5 v6 mp gl n k bi t op nm (.slice ra L rc) bo has) (hL : L ≠ has.size) (hLb : L ≤ 10000) (hh : has.size ≤ 10) (hB : Bi w bi k)
    (hR : ∀ a' w', Rt a' k 4 → Below w.heap.size w w' → Q .ret a' w') :
    ((cGo [1, 1, 1, 1, 1, 1, 1, 0, 1, 2, 3, 1, 1, 0, 2, 1, 1, 1, 1, 1, 1, 1, 1, 1, 1, 0, 1, 5, 1, 1, 1, 1, 0] bBody)).wp Tryz.prog Q a w := by
  obtain ⟨⟨⟨⟨⟨sz, df, s5, s6, s7, s8, s52, s53, s54⟩, s9, s10, s11⟩, s14, s17, s20⟩, s23⟩, s26⟩ := hS
  have h1 : ((L : Int) == (has.size : Int)) = false := by simp; omega
  have h2 : ((L : Int) != (has.size : Int)) = true := by simp; omega
  have HB := hid hB
  clear hB hL
  obtain ⟨f, hf, rfl⟩ := act_open a sz df
  rw [hf] at s5 s6 s7 s8 s52 s53 s54 s9 s10 s11 s14 s17 s20 s23 s26
  clear hf sz df
  rw [s5, s6, s7, s8, s52, s53, s54, s9, s10, s11, s14, s17, s20, s23, s26]
  conv => arg 2; whnf
  go_wp2_with (go_at_call 13; refine (HB.out.fail _).mono ?_; rintro e w3 ⟨rfl, hb3⟩)
  exact hR _ _ ⟨rfl, rfl, rfl, rfl⟩ hb3
set_option maxRecDepth 100000 in
set_option maxHeartbeats 1600000 in
theorem secF_4ok (Q : Exit → Act → World → Prop) (a : Act) (w : World) (v5 v6 : Value) (mp gl n k bi : Nat) (t op nm : S.By) (bo : Nat) (has : ByteArray) (ra : Option Addr) (L rc : Nat) (hS : Sh a v5 v6 mp gl n k bi t op nm (.slice ra L rc) bo has) (hL : L = has.size)
    (hN : ∀ a', Sh a' v5 v6 mp gl n k bi t op nm (.slice ra L rc) bo has → Q .normal a' w) :
    ((cGo [1, 1, 1, 1, 1, 1, 1, 0, 1, 2, 3, 1, 1, 0, 2, 1, 1, 1, 1, 1, 1, 1, 1, 1, 1, 0, 1, 5, 1, 1, 1, 1, 0] bBody)).wp Tryz.prog Q a w := by
  obtain ⟨⟨⟨⟨⟨sz, df, s5, s6, s7, s8, s52, s53, s54⟩, s9, s10, s11⟩, s14, s17, s20⟩, s23⟩, s26⟩ := hS
  have h1 : ((L : Int) == (has.size : Int)) = true := by simp; omega
  have h2 : ((L : Int) != (has.size : Int)) = false := by simp; omega
  clear hL
  obtain ⟨f, hf, rfl⟩ := act_open a sz df
  rw [hf] at s5 s6 s7 s8 s52 s53 s54 s9 s10 s11 s14 s17 s20 s23 s26
  clear hf sz df
  rw [s5, s6, s7, s8, s52, s53, s54, s9, s10, s11, s14, s17, s20, s23, s26]
  conv => arg 2; whnf
  go_wp2
  exact ⟨⟨⟨⟨⟨rfl, rfl, rfl, rfl, rfl, rfl, rfl, rfl, rfl⟩, rfl, rfl, rfl⟩, rfl, rfl, rfl⟩, rfl⟩, rfl⟩
end Go.Proofs.YtdjhlfoapieohaaGreatDoor
