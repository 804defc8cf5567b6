/-
  What the laws' ownSpace answers; what CpuReturns needs of its boxes (the texts CpuOw, CpuOwS, CpuOwA, CpuRetA in one).
-/
import Derived.Test.YthfngejmihdafaaDoorCpuU
import Derived.Laws.AppendOwnNone
import Derived.Deep.AppendLies
import Derived.Test.YthfngejmihdafaaDoorZoA
import Derived.Laws.OwnMore
namespace Go.Proofs.YthfngejmihdafaaDoor
open Go.ChangeShapes Go.WideShapes Go.ChangeAt Go.RowKit
set_option linter.unusedVariables false

theorem info_byte : (Tryd.prog.info? 5).map (fun i => (i.zero, i.size, i.bytes)) = some (some (.int .u8 0), 1, 1) := by kernel_rfl
theorem bcs_append (a b : List UInt8) : bcs a ++ bcs b = bcs (a ++ b) := by simp [bcs]
theorem appendNo (B : Nat) (i : TypeInfo) (hi : Tryd.prog.info? 5 = some i) (ty : TypeId) (v : Value) (n : Nat) (xs : List Value) {w : World} (hown : w.ownsRow B 5 1 v n xs) (a : Option Addr) (c : Nat) :
    (Builtin.append_ #[22, 22] ty #[v, .slice a 0 c]).run Tryd.prog w = .ok v w := by
  have hu := run_underlying (P := Tryd.prog) Tryd.underlying22
  have hf : (Builtin.firstCells i.size 0 (.slice a 0 c)).run Tryd.prog w = .ok #[] w := by
    cases a with
    | none => exact run_firstCells_none w i.size 0 0 c
    | some a => exact run_firstCells_some w i.size 0 a 0 c [] (by simp) (fun j v hj => by simp at hj)
  rcases hown.2 with ⟨rfl, rfl⟩ | ⟨g, cap, cur, rfl, _, _, hnc, _⟩
  · simp [Builtin.append_, hu, sizeOf, typeInfo, hi, Builtin.lenOf, hf]
  · simp [Builtin.append_, hu, sizeOf, typeInfo, hi, Builtin.lenOf, hf, hnc, storeCells]
theorem wpList_appSlice {ops : Array Oper} {rest : List Oper} {o : Oper} {a : Act} {w : World} {Q : Exit → Act → World → Prop} (hgd : o.guard = none) (s x : Operand) (ho : o.op = .call { callee := .builtin .append, args := #[s, x], argTypes := #[22, 22] })
    (B : Nat) (v : Value) (xs : List UInt8) (hs : a.eval s = v) (hown : w.ownsRow B 5 1 v xs.length (bcs xs)) (xv : Value) (hx : a.eval x = xv) (l : List UInt8) (hl : sliceAt w xv l) (hb : xs.length + l.length ≤ 1024) (hB : B ≤ w.heap.size)
    (h : ∀ v' w', w'.ownsRow B 5 1 v' (xs ++ l).length (bcs (xs ++ l)) → Below B w w' → wpList Tryd.prog ops Q rest (a.put o.dst v') w') : wpList Tryd.prog ops Q (o :: rest) a w := by
  obtain ⟨i0, hi0, hz0, hz1, hz2⟩ := info_parts info_byte
  by_cases hl0 : l = []
  · subst hl0
    have hxv : ∃ ad c, xv = .slice ad 0 c := by
      rcases hl with ⟨ad, c, h1, _⟩ | ⟨g, o', c, h1, _⟩
      · exact ⟨ad, c, h1⟩
      · exact ⟨_, c, h1⟩
    obtain ⟨ad, c, rfl⟩ := hxv
    refine wpList_plain hgd fun K hK => ?_
    have hrun := appendNo B i0 hi0 o.type v xs.length (bcs xs) hown ad c
    unfold Oper.wp
    simp [execOp, ho, resolve, invoke, builtin, hs, hx, hrun, Result.andThen]
    exact hK _ _ (h v w (by simpa using hown) (Below.refl _ _))
  · rcases hl with ⟨ad, c, _, h2⟩ | ⟨g, o', c, h1, h2, h3, h4⟩
    · exact absurd h2 hl0
    · have hlen : 0 < l.length := by cases l with | nil => exact absurd rfl hl0 | cons _ _ => simp
      refine wpList_append_lies _ hgd s x _ ho B 5 i0 _ 1 1 Tryd.underlying22 hi0 hz0 hz1 hz2 rfl (by omega) v xs.length (bcs xs) hs hown ⟨g, o', none⟩ l.length c (bcs l) (hx.trans h1) (by simp [bcs]) (fun j u hj => ?_) (fun u hu => ?_) hlen (by unfold maxLen; omega) (by omega) hB w.heap.size rfl ?_
      · simp only [bcs, List.getElem?_map, Option.map_eq_some_iff] at hj
        obtain ⟨cc, hc1, hc2⟩ := hj
        rw [← hc2, show (⟨g, o', none⟩ : Addr).add j = ⟨g, o' + j, none⟩ by unfold Addr.add; split <;> simp_all]
        exact h4 j cc hc1
      · simp only [bcs, List.mem_map] at hu
        obtain ⟨cc, _, rfl⟩ := hu
        rfl
      · intro g' cap w' hown' hgrow _ _
        refine h _ w' ?_ ((Below.refl B w).grown hgrow hB (fun k hk => (hown.lt k hk).1))
        rw [List.length_append, ← bcs_append]; exact hown'
theorem own_empty {w : World} {B g : Nat} (hg : w.heap[g]? = some (.cells #[] 5 (0, 0))) (hB : B ≤ g) : w.ownsRow B 5 1 (.slice (some ⟨g, 0, none⟩) 0 0) ([] : List UInt8).length (bcs []) :=
  ⟨rfl, Or.inr ⟨g, 0, #[], rfl, hB, hg, Nat.le_refl _, Nat.zero_le _, rfl, rfl⟩⟩
theorem step_appE {ops : Array Oper} {o : Oper} {a : Act} {w : World} {K : Act → World → Prop} {Q : Exit → Act → World → Prop} {E : Prop} (hgd : o.guard = none) (s x : Operand)
    (ho : o.op = .call { callee := .builtin .append, args := #[s, x], argTypes := #[22, 22] }) (B g : Nat) (hs : a.eval s = .slice (some ⟨g, 0, none⟩) 0 0) (xv : Value) (hx : a.eval x = xv)
    (l : List UInt8) (hg : w.heap[g]? = some (.cells #[] 5 (0, 0))) (hB : B ≤ g) (hl : sliceAt w xv l) (hb : l.length ≤ 140737488355328) (hBw : B ≤ w.heap.size)
    (h : ∀ v' w', w'.ownsRow B 5 1 v' l.length (bcs l) → w.grownBy w' (some g) → (∀ k, v'.ownBlock = some k → k = g ∨ k = w.heap.size) → K (a.put o.dst v') w') :
    if Region.wanted o (yielded ops a.tmps) = true then Oper.wp Tryd.prog o a w K Q else E := by
  obtain ⟨i0, hi0, hz0, hz1, hz2⟩ := info_parts info_byte
  have hown := own_empty hg hB
  by_cases hl0 : l = []
  · subst hl0
    have hxv : ∃ ad c, xv = .slice ad 0 c := by
      rcases hl with ⟨ad, c, h1, _⟩ | ⟨g, o', c, h1, _⟩
      · exact ⟨ad, c, h1⟩
      · exact ⟨_, c, h1⟩
    obtain ⟨ad, c, rfl⟩ := hxv
    rw [if_pos (by simp [Region.wanted, hgd])]
    have hrun := appendNo B i0 hi0 o.type _ ([] : List UInt8).length (bcs []) hown ad c
    unfold Oper.wp
    simp [execOp, ho, resolve, invoke, builtin, hs, hx, hrun, Result.andThen]
    exact h _ w hown ⟨rfl, rfl, rfl, Nat.le_refl _, fun k _ _ => rfl⟩ (fun k hk => Or.inl (Option.some.inj hk).symm)
  · rcases hl with ⟨ad, c, _, h2⟩ | ⟨g1, o', c, h1, h2, h3, h4⟩
    · exact absurd h2 hl0
    · have hlen : 0 < l.length := by cases l with | nil => exact absurd rfl hl0 | cons _ _ => simp
      refine step_append_lies _ hgd s x _ ho B 5 i0 _ 1 1 Tryd.underlying22 hi0 hz0 hz1 hz2 rfl (by omega) _ ([] : List UInt8).length (bcs []) hs hown ⟨g1, o', none⟩ l.length c (bcs l) (hx.trans h1) (by simp [bcs]) (fun j u hj => ?_) (fun u hu => ?_) hlen (by simp [maxLen]; omega) (by simp; omega) hBw w.heap.size rfl ?_
      · simp only [bcs, List.getElem?_map, Option.map_eq_some_iff] at hj
        obtain ⟨cc, hc1, hc2⟩ := hj
        rw [← hc2, show (⟨g1, o', none⟩ : Addr).add j = ⟨g1, o' + j, none⟩ by unfold Addr.add; split <;> simp_all]
        exact h4 j cc hc1
      · simp only [bcs, List.mem_map] at hu
        obtain ⟨cc, _, rfl⟩ := hu
        rfl
      · intro g' cap w' hown' hgrow hor _
        refine h _ w' ?_ hgrow (fun k hk => ?_)
        · simpa [bcs] using hown'
        · obtain rfl : g' = k := Option.some.inj hk
          rcases hor with e | e
          · exact Or.inl (Option.some.inj e).symm
          · exact Or.inr e
theorem ow_new (W : World) (o : Obj) (b : Nat) (h : b = W.heap.size) : (W.alloc o).heap[b]? = some o := by subst h; exact heap_alloc_new W o
theorem ow_old (W : World) (o o' : Obj) (b : Nat) (h : b = W.heap.size) : ((W.alloc o).alloc o').heap[b]? = some o := (heap_alloc_old _ _ (by subst h; simp)).trans (ow_new W o b h)
theorem ow_keep {w X Y : World} {a1 a2 : Option Addr} {n1 n2 k1 k2 g : Nat} (h : X.cell? ⟨w.heap.size, 0, none⟩ = some (.slice a1 n1 k1) ∧ X.cell? ⟨w.heap.size, 1, none⟩ = some (.slice a2 n2 k2) ∧ (X.cell? ⟨w.heap.size + 1, 0, none⟩).isSome = true ∧ (X.cell? ⟨w.heap.size + 1, 1, none⟩).isSome = true ∧ X.frozen? ⟨w.heap.size + 1, 0, none⟩ = false ∧ X.frozen? ⟨w.heap.size + 1, 1, none⟩ = false) (hg : X.grownBy Y (some g)) (hne : w.heap.size + 1 < g) :
    Y.cell? ⟨w.heap.size, 0, none⟩ = some (.slice a1 n1 k1) ∧ Y.cell? ⟨w.heap.size, 1, none⟩ = some (.slice a2 n2 k2) ∧ (Y.cell? ⟨w.heap.size + 1, 0, none⟩).isSome = true ∧ (Y.cell? ⟨w.heap.size + 1, 1, none⟩).isSome = true ∧ Y.frozen? ⟨w.heap.size + 1, 0, none⟩ = false ∧ Y.frozen? ⟨w.heap.size + 1, 1, none⟩ = false := by
  obtain ⟨h1, h2, h3, h4, h5, h6⟩ := h
  obtain ⟨u3, q3⟩ := Option.isSome_iff_exists.1 h3
  have z := World.block_lt_of_cell? X _ q3
  have z0 := World.block_lt_of_cell? X _ h1
  have e0 : Y.heap[w.heap.size]? = X.heap[w.heap.size]? := hg.block _ z0 (by intro e; have := Option.some.inj e; omega)
  have e1 : Y.heap[w.heap.size + 1]? = X.heap[w.heap.size + 1]? := hg.block _ z (by intro e; have := Option.some.inj e; omega)
  have c0 : ∀ j, Y.cell? ⟨w.heap.size, j, none⟩ = X.cell? ⟨w.heap.size, j, none⟩ := fun j => by unfold World.cell?; rw [e0]
  have c1 : ∀ j, Y.cell? ⟨w.heap.size + 1, j, none⟩ = X.cell? ⟨w.heap.size + 1, j, none⟩ := fun j => by unfold World.cell?; rw [e1]
  have f1 : ∀ j, Y.frozen? ⟨w.heap.size + 1, j, none⟩ = X.frozen? ⟨w.heap.size + 1, j, none⟩ := fun j => by unfold World.frozen?; rw [e1]
  exact ⟨(c0 0).trans h1, (c0 1).trans h2, by rw [c1 0]; exact h3, by rw [c1 1]; exact h4, (f1 0).trans h5, (f1 1).trans h6⟩
theorem ow_alloc {w X : World} {a1 a2 : Option Addr} {n1 n2 k1 k2 : Nat} (h : X.cell? ⟨w.heap.size, 0, none⟩ = some (.slice a1 n1 k1) ∧ X.cell? ⟨w.heap.size, 1, none⟩ = some (.slice a2 n2 k2) ∧ (X.cell? ⟨w.heap.size + 1, 0, none⟩).isSome = true ∧ (X.cell? ⟨w.heap.size + 1, 1, none⟩).isSome = true ∧ X.frozen? ⟨w.heap.size + 1, 0, none⟩ = false ∧ X.frozen? ⟨w.heap.size + 1, 1, none⟩ = false) (o : Obj) : (X.alloc o).cell? ⟨w.heap.size, 0, none⟩ = some (.slice a1 n1 k1) ∧ (X.alloc o).cell? ⟨w.heap.size, 1, none⟩ = some (.slice a2 n2 k2) ∧ ((X.alloc o).cell? ⟨w.heap.size + 1, 0, none⟩).isSome = true ∧ ((X.alloc o).cell? ⟨w.heap.size + 1, 1, none⟩).isSome = true ∧ (X.alloc o).frozen? ⟨w.heap.size + 1, 0, none⟩ = false ∧ (X.alloc o).frozen? ⟨w.heap.size + 1, 1, none⟩ = false :=
  ow_keep (g := X.heap.size + w.heap.size + 2) h ⟨rfl, rfl, rfl, by simp, fun k hk _ => heap_alloc_old X o hk⟩ (by omega)
theorem ow_allocD {w X : World} {a1 a2 : Option Addr} {n1 n2 k1 k2 : Nat} (h : X.drew.cell? ⟨w.heap.size, 0, none⟩ = some (.slice a1 n1 k1) ∧ X.drew.cell? ⟨w.heap.size, 1, none⟩ = some (.slice a2 n2 k2) ∧ (X.drew.cell? ⟨w.heap.size + 1, 0, none⟩).isSome = true ∧ (X.drew.cell? ⟨w.heap.size + 1, 1, none⟩).isSome = true ∧ X.drew.frozen? ⟨w.heap.size + 1, 0, none⟩ = false ∧ X.drew.frozen? ⟨w.heap.size + 1, 1, none⟩ = false) (o : Obj) : (X.alloc o).drew.cell? ⟨w.heap.size, 0, none⟩ = some (.slice a1 n1 k1) ∧ (X.alloc o).drew.cell? ⟨w.heap.size, 1, none⟩ = some (.slice a2 n2 k2) ∧ ((X.alloc o).drew.cell? ⟨w.heap.size + 1, 0, none⟩).isSome = true ∧ ((X.alloc o).drew.cell? ⟨w.heap.size + 1, 1, none⟩).isSome = true ∧ (X.alloc o).drew.frozen? ⟨w.heap.size + 1, 0, none⟩ = false ∧ (X.alloc o).drew.frozen? ⟨w.heap.size + 1, 1, none⟩ = false := ow_alloc (X := X) h o
theorem ow_below {w X Y : World} {g : Nat} (h : Below w.heap.size w X) (hg : X.grownBy Y (some g)) (hne : w.heap.size ≤ g) : Below w.heap.size w Y := h.grown hg h.size (fun k hk => by obtain rfl := Option.some.inj hk; exact hne)
theorem ow_size {w X : World} {a1 a2 : Option Addr} {n1 n2 k1 k2 : Nat} (h : X.cell? ⟨w.heap.size, 0, none⟩ = some (.slice a1 n1 k1) ∧ X.cell? ⟨w.heap.size, 1, none⟩ = some (.slice a2 n2 k2) ∧ (X.cell? ⟨w.heap.size + 1, 0, none⟩).isSome = true ∧ (X.cell? ⟨w.heap.size + 1, 1, none⟩).isSome = true ∧ X.frozen? ⟨w.heap.size + 1, 0, none⟩ = false ∧ X.frozen? ⟨w.heap.size + 1, 1, none⟩ = false) : w.heap.size + 1 < X.heap.size := by
  obtain ⟨u3, q3⟩ := Option.isSome_iff_exists.1 h.2.2.1
  exact World.block_lt_of_cell? X _ q3
theorem ow_set {w X : World} {a1 a2 : Option Addr} {n1 n2 k1 k2 : Nat} (h : X.cell? ⟨w.heap.size, 0, none⟩ = some (.slice a1 n1 k1) ∧ X.cell? ⟨w.heap.size, 1, none⟩ = some (.slice a2 n2 k2) ∧ (X.cell? ⟨w.heap.size + 1, 0, none⟩).isSome = true ∧ (X.cell? ⟨w.heap.size + 1, 1, none⟩).isSome = true ∧ X.frozen? ⟨w.heap.size + 1, 0, none⟩ = false ∧ X.frozen? ⟨w.heap.size + 1, 1, none⟩ = false) (u v : Value) : ((X.setCell ⟨w.heap.size + 1, 0, none⟩ u).setCell ⟨w.heap.size + 1, 1, none⟩ v).cell? ⟨w.heap.size, 0, none⟩ = some (.slice a1 n1 k1) ∧ ((X.setCell ⟨w.heap.size + 1, 0, none⟩ u).setCell ⟨w.heap.size + 1, 1, none⟩ v).cell? ⟨w.heap.size, 1, none⟩ = some (.slice a2 n2 k2) ∧ (((X.setCell ⟨w.heap.size + 1, 0, none⟩ u).setCell ⟨w.heap.size + 1, 1, none⟩ v).cell? ⟨w.heap.size + 1, 0, none⟩).isSome = true ∧ (((X.setCell ⟨w.heap.size + 1, 0, none⟩ u).setCell ⟨w.heap.size + 1, 1, none⟩ v).cell? ⟨w.heap.size + 1, 1, none⟩).isSome = true ∧ ((X.setCell ⟨w.heap.size + 1, 0, none⟩ u).setCell ⟨w.heap.size + 1, 1, none⟩ v).frozen? ⟨w.heap.size + 1, 0, none⟩ = false ∧ ((X.setCell ⟨w.heap.size + 1, 0, none⟩ u).setCell ⟨w.heap.size + 1, 1, none⟩ v).frozen? ⟨w.heap.size + 1, 1, none⟩ = false := by
  have ht : X.there (w.heap.size + 1) 0 2 := fun j hj => by
    match j, hj with
    | 0, _ => exact ⟨h.2.2.1, h.2.2.2.2.1⟩
    | 1, _ => exact ⟨h.2.2.2.1, h.2.2.2.2.2⟩
  have hr := World.rangeAt_setCells_same X (w.heap.size + 1) 0 [u, v] ht
  simp only [World.setCells, Nat.zero_add] at hr
  have far : ∀ j, ((X.setCell ⟨w.heap.size + 1, 0, none⟩ u).setCell ⟨w.heap.size + 1, 1, none⟩ v).cell? ⟨w.heap.size, j, none⟩ = X.cell? ⟨w.heap.size, j, none⟩ := fun j => (World.cell?_setCell_far _ _ _ v (by simp)).trans (World.cell?_setCell_far _ _ _ u (by simp))
  refine ⟨(far 0).trans h.1, (far 1).trans h.2.1, ?_, ?_, ?_, ?_⟩
  · rw [show ((X.setCell ⟨w.heap.size + 1, 0, none⟩ u).setCell ⟨w.heap.size + 1, 1, none⟩ v).cell? ⟨w.heap.size + 1, 0, none⟩ = some u from hr 0 _ rfl]; rfl
  · rw [show ((X.setCell ⟨w.heap.size + 1, 0, none⟩ u).setCell ⟨w.heap.size + 1, 1, none⟩ v).cell? ⟨w.heap.size + 1, 1, none⟩ = some v from hr 1 _ rfl]; rfl
  · simpa using h.2.2.2.2.1
  · simpa using h.2.2.2.2.2
theorem ow_b2 {X Y : World} {g b : Nat} {o : Obj} (hg : X.grownBy Y (some g)) (h : X.heap[b]? = some o) (hne : b ≠ g) : Y.heap[b]? = some o :=
  (hg.block b (Array.getElem?_eq_some_iff.1 h).1 (fun e => hne (Option.some.inj e))).trans h
theorem ow_cop {w W : World} {rom ram : List UInt8} {vR vM u v : Value} (h : Cop (w.heap.size + 2) rom ram W vR vM) (hz : w.heap.size + 1 < W.heap.size) : Cop w.heap.size rom ram ((W.setCell ⟨w.heap.size + 1, 0, none⟩ u).setCell ⟨w.heap.size + 1, 1, none⟩ v) vR vM :=
  cop_mono (cop_set (cop_set h (by omega) _ _) (by omega) _ _) (by omega)
theorem ow_fin {wA X2 wB : World} {B g2 : Nat} {vA vB : Value} {rom ram : List UInt8} (oA : wA.ownsRow B 5 1 vA rom.length (bcs rom)) (hk : ∀ k, k < wA.heap.size → X2.heap[k]? = wA.heap[k]?) (hz : wA.heap.size ≤ X2.heap.size)
    (oB : wB.ownsRow B 5 1 vB ram.length (bcs ram)) (gB : X2.grownBy wB (some g2)) (dB : ∀ k, vB.ownBlock = some k → k = g2 ∨ k = X2.heap.size) (dA : ∀ k, vA.ownBlock = some k → k ≠ g2) : Cop B rom ram wB vA vB := by
  refine ⟨own_of_block oA (fun k h => ?_), oB, fun k h h' => ?_⟩
  · have hl := (oA.lt k h).2
    rw [gB.block k (by omega) (fun e => dA k h (Option.some.inj e)), hk k hl]
  · have hl := (oA.lt k h').2
    rcases dB k h with e | e
    · exact dA k h' e
    · omega
set_option maxRecDepth 100000 in
set_option maxHeartbeats 1600000 in
theorem own_any (v1 v2 : Value) (rom ram : List UInt8) (w : World) (h1 : sliceAt w v1 rom) (h2 : sliceAt w v2 ram) (hl1 : rom.length ≤ 140737488355328) (hl2 : ram.length ≤ 140737488355328) :
    Calls Tryd.prog 10 #[.agg #[v1, v2]] w fun e w' => ∃ vR vM, e = .returned (.agg #[vR, vM]) ∧ Cop w.heap.size rom ram w' vR vM ∧ Below w.heap.size w w' := by
  have H1 := hid h1
  have H2 := hid h2
  obtain ⟨a1, k1, x1⟩ := slice_len h1
  obtain ⟨a2, k2, x2⟩ := slice_len h2
  have HL1 := hid hl1
  have HL2 := hid hl2
  clear h1 h2 hl1 hl2
  subst x1 x2
  go_enter Tryd.func10, Tryd.ntmps10
  go_wp2
  go_region_held3 (fun w' => w'.cell? ⟨w.heap.size, 0, none⟩ = some (.slice a1 rom.length k1) ∧ w'.cell? ⟨w.heap.size, 1, none⟩ = some (.slice a2 ram.length k2) ∧ (w'.cell? ⟨w.heap.size + 1, 0, none⟩).isSome = true ∧ (w'.cell? ⟨w.heap.size + 1, 1, none⟩).isSome = true ∧ w'.frozen? ⟨w.heap.size + 1, 0, none⟩ = false ∧ w'.frozen? ⟨w.heap.size + 1, 1, none⟩ = false)
    (first
      | with_reducible assumption
      | with_reducible exact ow_allocD (by assumption) _
      | with_reducible exact ow_alloc (by assumption) _
      | with_reducible exact ow_set (by assumption) _ _
      | (go_keep; done))
    (first
      | (refine step_appE rfl (.tmp 3) (.tmp 5) rfl (w.heap.size + 2) _ rfl _ rfl rom ?_ ?_ ?_ HL1.out ?_ ?_; (first | (refine ow_new _ _ _ ?_; (focus (simp; done))) | (refine ow_old _ _ _ _ ?_; (focus (simp; done)))); omega; (first | exact H1.out.kept (stA (stA (stA (st0 w) _) _) _).drew | exact H1.out.kept (stA (stA (stA (stA (st0 w) _) _) _) _).drew); (first | (focus (simp; done)) | (simp; omega)); intro vA wA oA gA dA; have KA := ow_keep (by assumption) gA (by omega); have HA := hid oA; have sA : w.heap.size + 1 + 1 < wA.heap.size := Nat.lt_of_lt_of_le (by simp) gA.size; have GA := hid gA; have DA := hid dA; have HBA : Hid (Below w.heap.size w wA) := (by first | exact ow_below (stA (stA (stA (st0 w) _) _) _).drew gA (by omega) | exact ow_below (stA (stA (stA (stA (st0 w) _) _) _) _).drew gA (by omega)); obtain ⟨aa, ca, rfl⟩ := own_slice oA; clear oA gA dA)
      | (refine step_appE rfl (.tmp 7) (.tmp 9) rfl (w.heap.size + 2) _ rfl _ rfl ram ?_ ?_ ?_ HL2.out ?_ ?_; (first | exact ow_new _ _ _ rfl | (refine ow_b2 GA.out (ow_new _ _ _ ?_) ?_; (focus (simp; done)); omega) | (refine ow_b2 GA.out (ow_old _ _ _ _ ?_) ?_; (focus (simp; done)); omega)); omega; (first | exact H2.out.kept (stA HBA.out _) | exact H2.out.kept HBA.out); (first | omega | (focus (simp; done)) | (simp; omega)); intro vB wB oB gB dB; have KB := ow_keep (by assumption) gB (by omega); have HC : Hid (Cop (w.heap.size + 2) rom ram wB (.slice aa rom.length ca) vB) := (by first | exact ow_fin HA.out (fun k hk => heap_alloc_old wA _ hk) (by simp) oB gB dB (fun k hk => Nat.ne_of_lt (HA.out.lt k hk).2) | exact ow_fin HA.out (fun k hk => rfl) (Nat.le_refl _) oB gB dB (fun k hk => by rcases DA.out k hk with e | e <;> ((try simp at e); omega))); have HBB : Hid (Below w.heap.size w wB) := (by first | exact ow_below (stA HBA.out _) gB (by omega) | exact ow_below HBA.out gB (by omega)); have sB : w.heap.size + 1 < wB.heap.size := ow_size KB; obtain ⟨uu0, qq0⟩ := Option.isSome_iff_exists.1 KB.2.2.1; obtain ⟨uu1, qq1⟩ := Option.isSome_iff_exists.1 KB.2.2.2.1; obtain ⟨ab, cb, rfl⟩ := own_slice oB; clear oB gB dB))
  all_goals go_wp2
  all_goals
    refine bodyPost_ret (v := .agg #[.slice aa rom.length ca, .slice ab ram.length cb]) (by simp [results, Tryd.results10, go_sem, *]) rfl ⟨_, _, rfl, ?_, ?_⟩
    · exact ow_cop HC.out sB
    · exact (HBB.out.setCell (Nat.le_succ _) _).setCell (Nat.le_succ _) _
theorem bcs_set (l : List UInt8) (j : Nat) (x : UInt8) : (bcs l).set j (.int .u8 x.toNat) = bcs (l.set j x) := by unfold bcs; rw [List.map_set]
/-- The program with where it goes, and what returns. -/
def rom4 (l : List UInt8) : List UInt8 := (((l.set 2 0).set 3 10).set 10 208).set 11 0
theorem rom4_len (l : List UInt8) : (rom4 l).length = l.length := by simp [rom4]
theorem rom4_at (l : List UInt8) (h : 12 ≤ l.length) : (rom4 l).getD 2 0 = 0 ∧ (rom4 l).getD 3 0 = 10 ∧ (rom4 l).getD 10 0 = 208 ∧ (rom4 l).getD 11 0 = 0 := by
  have h2 : 2 < l.length := by omega
  have h3 : 3 < l.length := by omega
  have h10 : 10 < l.length := by omega
  have h11 : 11 < l.length := by omega
  simp [rom4, List.getD, h2, h3, h10, h11]
theorem fz_new (W : World) (cs : Array Value) (t : TypeId) (b : Nat) (hb : b = W.heap.size) (o : Nat) : (W.alloc (.cells cs t)).frozen? ⟨b, o, none⟩ = false := by subst hb; exact Lib.frozen_of_heap (heap_alloc_new W _) o
theorem fz_kept {W w1 : World} {b : Nat} (h : ∀ o, W.frozen? ⟨b, o, none⟩ = false) (hb : Below W.heap.size W w1) (hz : b < W.heap.size) : ∀ o, w1.frozen? ⟨b, o, none⟩ = false := fun o => (hb.frozen (p := ⟨b, o, none⟩) hz).trans (h o)
theorem own_set {W : World} {B g cap : Nat} {l : List UInt8} (h : W.ownsRow B 5 1 (.slice (some ⟨g, 0, none⟩) l.length cap) l.length (bcs l)) (j : Nat) (x : UInt8) :
    (W.setCell ⟨g, j, none⟩ (.int .u8 (x.toNat : Int))).ownsRow B 5 1 (.slice (some ⟨g, 0, none⟩) (l.set j x).length cap) (l.set j x).length (bcs (l.set j x)) := by
  have := (h.stored j (.int .u8 (x.toNat : Int))).1
  rw [bcs_set] at this
  rw [List.length_set]
  exact this
theorem own_far {W : World} {B : Nat} {v u : Value} {n : Nat} {xs : List Value} (h : W.ownsRow B 5 1 v n xs) {b o : Nat} (hne : v.ownBlock ≠ some b) : (W.setCell ⟨b, o, none⟩ u).ownsRow B 5 1 v n xs :=
  own_of_block h (fun k hk => Below.heap_setCell _ _ _ _ (fun e => hne (by rw [hk, e])))
theorem own_cell {W : World} {B g cap : Nat} {l : List UInt8} (h : W.ownsRow B 5 1 (.slice (some ⟨g, 0, none⟩) l.length cap) l.length (bcs l)) {i : Nat} (hi : i < l.length) : W.cell? ⟨g, i, none⟩ = some (.int .u8 (l.getD i 0).toNat) := by
  obtain ⟨g', c', e, _, _, hc⟩ := own_at h hi
  simp only [Value.slice.injEq, Option.some.injEq, Addr.mk.injEq, and_true, true_and] at e
  rw [e.1]
  exact hc
/-- What the law's blocks hold while it changes the program. -/
structure RetW (w : World) (B g cR N : Nat) (vM : Value) (c : C.Cpu) (l ram : List UInt8) (W : World) : Prop where
  low : Below w.heap.size w W
  len : l.length = N
  own : W.ownsRow B 5 1 (.slice (some ⟨g, 0, none⟩) N cR) N (bcs l)
  ownM : W.ownsRow B 5 1 vM ram.length (bcs ram)
  dj : vM.ownBlock ≠ some g
  hB : w.heap.size + 1 < B
  s0 : W.cell? ⟨w.heap.size + 1, 0, none⟩ = some (.slice (some ⟨g, 0, none⟩) N cR)
  s1 : W.cell? ⟨w.heap.size + 1, 1, none⟩ = some vM
  cat : Cat W w.heap.size c
  fc : ∀ o, W.frozen? ⟨w.heap.size, o, none⟩ = false
  zs : w.heap.size + 1 < W.heap.size
section
variable {w W : World} {B g cR N : Nat} {vM : Value} {c : C.Cpu} {l ram : List UInt8}
theorem RetW.gB (h : RetW w B g cR N vM c l ram W) : B ≤ g := (h.own.lt g rfl).1
theorem RetW.drew (h : RetW w B g cR N vM c l ram W) : RetW w B g cR N vM c l ram W.drew :=
  ⟨h.low.drew, h.len, h.own, h.ownM, h.dj, h.hB, h.s0, h.s1, ⟨h.cat.z, h.cat.q⟩, h.fc, h.zs⟩
theorem RetW.put (h : RetW w B g cR N vM c l ram W) (j : Nat) (x : UInt8) : RetW w B g cR N vM c (l.set j x) ram (W.setCell ⟨g, j, none⟩ (.int .u8 (x.toNat : Int))) := by
  have hg := h.gB
  have hB := h.hB
  have n1 : g ≠ w.heap.size + 1 := by omega
  have n0 : g ≠ w.heap.size := by omega
  obtain ⟨lo, ln, o1, o2, dj, _, s0, s1, ct, fc, zs⟩ := h
  subst ln
  refine ⟨lo.setCell (show w.heap.size ≤ g by omega) _, by simp, ?_, own_far o2 dj, dj, hB, (World.cell?_setCell_far _ _ _ _ n1).trans s0, (World.cell?_setCell_far _ _ _ _ n1).trans s1, ⟨by simpa using ct.z, fun k => (World.cell?_setCell_far _ _ _ _ n0).trans (ct.q k)⟩, fun o => by simpa using fc o, by simpa using zs⟩
  have := own_set o1 j x
  simpa using this
theorem RetW.slices (h : RetW w B g cR N vM c l ram W) : sliceAt W (.slice (some ⟨g, 0, none⟩) N cR) l ∧ sliceAt W vM ram := by
  obtain ⟨lo, rfl, o1, o2, dj, _, s0, s1, ct, fc, zs⟩ := h
  exact ⟨slice_of_own o1, slice_of_own o2⟩
theorem RetW.at (h : RetW w B g cR N vM c l ram W) {i : Nat} (hi : i < N) : ∃ v, W.cell? ⟨g, i, none⟩ = some v := by
  obtain ⟨lo, rfl, o1, o2, dj, _, s0, s1, ct, fc, zs⟩ := h
  exact ⟨_, own_cell o1 hi⟩
theorem RetW.fg (h : RetW w B g cR N vM c l ram W) (o : Nat) : W.frozen? ⟨g, o, none⟩ = false := h.own.frozenAt o
theorem RetW.gz (h : RetW w B g cR N vM c l ram W) : g < W.heap.size := (h.own.lt g rfl).2
theorem RetW.may (h : RetW w B g cR N vM c l ram W) : RetW w B g cR N vM { c with May := true } l ram (W.setCell ⟨w.heap.size, 13, none⟩ (.bool true)) := by
  have hg := h.gB
  obtain ⟨lo, ln, o1, o2, dj, hB, s0, s1, ct, fc, zs⟩ := h
  have m0 : (Value.slice (some ⟨g, 0, none⟩) N cR).ownBlock ≠ some w.heap.size := fun e => by have := (o1.lt _ e).1; omega
  have m1 : vM.ownBlock ≠ some w.heap.size := fun e => by have := (o2.lt _ e).1; omega
  refine ⟨lo.setCell (Nat.le_refl _) _, ln, own_far o1 m0, own_far o2 m1, dj, hB, (World.cell?_setCell_far _ _ _ _ (by simp)).trans s0, (World.cell?_setCell_far _ _ _ _ (by simp)).trans s1, ⟨by simpa using ct.z, fun k => ?_⟩, fun o => by simpa using fc o, by simpa using zs⟩
  by_cases hk : k = 13
  · subst hk
    exact World.cell?_setCell_same' _ _ _ (by rw [ct.q 13]; rfl)
  · rw [World.cell?_setCell_other _ _ _ _ (by intro e; exact hk (congrArg Addr.off e).symm), ct.q k]
    match k, hk with
    | 0, _ => rfl
    | 1, _ => rfl
    | 2, _ => rfl
    | 3, _ => rfl
    | 4, _ => rfl
    | 5, _ => rfl
    | 6, _ => rfl
    | 7, _ => rfl
    | 8, _ => rfl
    | 9, _ => rfl
    | 10, _ => rfl
    | 11, _ => rfl
    | 12, _ => rfl
    | 14, _ => rfl
    | k + 15, _ => rfl
theorem RetW.start {w2 : World} (hC : Cop w2.heap.size l ram W (.slice (some ⟨g, 0, none⟩) l.length cR) vM) (hL : Below w.heap.size w W) (hS : w.heap.size + 1 < w2.heap.size) (hs0 : (W.cell? ⟨w.heap.size + 1, 0, none⟩).isSome = true) (hs1 : (W.cell? ⟨w.heap.size + 1, 1, none⟩).isSome = true) (hf : ∀ o, W.frozen? ⟨w.heap.size + 1, o, none⟩ = false) (hc : Cat W w.heap.size c) (fc : ∀ o, W.frozen? ⟨w.heap.size, o, none⟩ = false) :
    RetW w w2.heap.size g cR l.length vM c l ram ((W.setCell ⟨w.heap.size + 1, 0, none⟩ (.slice (some ⟨g, 0, none⟩) l.length cR)).setCell ⟨w.heap.size + 1, 1, none⟩ vM) := by
  obtain ⟨o1, o2, dj⟩ := hC
  have n1 : ∀ k, (Value.slice (some ⟨g, 0, none⟩) l.length cR).ownBlock = some k → w2.heap.size ≤ k := fun k hk => (o1.lt k hk).1
  have n2 : ∀ k, vM.ownBlock = some k → w2.heap.size ≤ k := fun k hk => (o2.lt k hk).1
  have gB := n1 g rfl
  have m0 : (Value.slice (some ⟨g, 0, none⟩) l.length cR).ownBlock ≠ some (w.heap.size + 1) := fun e => by have := n1 _ e; omega
  have m1 : vM.ownBlock ≠ some (w.heap.size + 1) := fun e => by have := n2 _ e; omega
  have ht : W.there (w.heap.size + 1) 0 2 := fun j hj => by
    match j, hj with
    | 0, _ => exact ⟨hs0, hf _⟩
    | 1, _ => exact ⟨hs1, hf _⟩
  have hr := World.rangeAt_setCells_same W (w.heap.size + 1) 0 [.slice (some ⟨g, 0, none⟩) l.length cR, vM] ht
  simp only [World.setCells, Nat.zero_add] at hr
  have zs : w.heap.size + 1 < W.heap.size := by
    obtain ⟨u, q⟩ := Option.isSome_iff_exists.1 hs0
    exact World.block_lt_of_cell? W _ q
  refine ⟨(hL.setCell (Nat.le_succ _) _).setCell (Nat.le_succ _) _, rfl, own_far (own_far o1 m0) m0, own_far (own_far o2 m1) m1, fun e => dj g e rfl, hS, hr 0 _ rfl, hr 1 _ rfl, ⟨by simpa using hc.z, fun k => (World.cell?_setCell_far _ _ _ _ (by simp)).trans ((World.cell?_setCell_far _ _ _ _ (by simp)).trans (hc.q k))⟩, fun o => by simpa using fc o, by simpa using zs⟩
end
end Go.Proofs.YthfngejmihdafaaDoor
