/-
  Copies of spaces; the reference over a space; what the law CpuStep holds.
-/
import Derived.Test.YtombboeonffejaaGreatDoorFlMap
import Derived.Test.YtombboeonffejaaGreatDoorZsQ
import Derived.Test.YtombboeonffejaaGreatDoorZsV
import Derived.Laws.AppendOwnNone
import Derived.Deep.AppendLies
import Derived.Test.YtombboeonffejaaGreatDoorZsC
import Derived.Test.YtombboeonffejaaGreatDoorZsP
import Derived.Test.YtombboeonffejaaGreatDoorZsJ
import Derived.Test.YtombboeonffejaaGreatDoorZsL
import Derived.Test.YtombboeonffejaaGreatDoorZsM
import Derived.Test.YtombboeonffejaaGreatDoorZsN
import Derived.Test.YtombboeonffejaaGreatDoorCpuP
import Derived.Deep.DeepCutAuto
import Derived.SizedLaws
namespace Go.Proofs.YtombboeonffejaaGreatDoor
open Go.ChangeShapes Go.WideShapes Go.ChangeAt Go.RowKit
set_option linter.unusedVariables false

/-- Block b of w is a map that holds true alone, with this element. -/
def bmapAt (w : World) (b : Nat) (v : Value) : Prop := ∃ n c, w.heap[b]? = some (.map #[{ key := .bool true, val := v, born := n }] c)
theorem bmapAt.lt {w : World} {b : Nat} {v : Value} (h : bmapAt w b v) : b < w.heap.size := by
  obtain ⟨n, c, hb⟩ := h
  exact (Array.getElem?_eq_some_iff.1 hb).1
theorem binsert_run {P : Program} {t k e : TypeId} (ht : P.underlying t = some (.map k e)) (hk : P.underlying k = some .bool) {w : World} {b c : Nat} (hb : w.heap[b]? = some (.map #[] c)) (v : Value) :
    ∃ w', (Instr.mapUpdate t (.map (some b)) (.bool true) v).run P w = .ok () w' ∧ bmapAt w' b v ∧ Stored w w' b := by
  have hc : (Instr.checkKey false 10000 k (.bool true)).run P w = .ok () w := MapKept.run_checkKey (k := .bool true) hk (by simp [MapKept.IsKey]) false 9999
  have h1 : Instr.findNow .bool (.bool true) (#[] : Array MapEntry).toList 0 = some none := rfl
  refine ⟨{ w with heap := w.heap.setIfInBounds b (.map ((#[] : Array MapEntry).push { key := .bool true, val := v, born := c }) (c + 1)) }, ?_, ?_, stored_setBlock hb _ _⟩
  · simp [Instr.mapUpdate, run_underlying ht, MapKept.run_getObj_map hb, hc, MapKept.run_findKey hk h1, MapKept.run_setObj_map _ hb, Result.andThen]
  · exact ⟨_, _, (MapKept.heap_set hb).1⟩
theorem wpList_binsert {P : Program} (w : World) {ops : Array Oper} {rest : List Oper} {o : Oper} {a : Act} {Q : Exit → Act → World → Prop}
    (hg : o.guard = none) (m x v : Operand) (t : TypeId) (hop : o.op = Op.insert t m x v) (k e : TypeId) (ht : P.underlying t = some (.map k e)) (hk : P.underlying k = some .bool)
    (b c : Nat) (hm : a.eval m = .map (some b)) (hb : w.heap[b]? = some (.map #[] c)) (val : Value) (hx : a.eval x = .bool true) (hv : a.eval v = val)
    (hK : ∀ w', bmapAt w' b val → Stored w w' b → wpList P ops Q rest (a.put o.dst undef) w') : wpList P ops Q (o :: rest) a w := by
  refine wpList_plain hg fun K' hK' => ?_
  obtain ⟨w', hrun, r1, r2⟩ := binsert_run ht hk hb val
  unfold Oper.wp
  simp [execOp, hop, hm, hx, hv, hrun, Result.andThen]
  exact hK' _ _ (hK w' r1 r2)
/-- One of two values. -/
def bsel (x : Bool) (v z : Value) : Value := if x then v else z
theorem blookup_run {P : Program} {t k e : TypeId} (ht : P.underlying t = some (.map k e)) (hk : P.underlying k = some .bool) {w : World} {b : Nat} {v : Value} (h : bmapAt w b v) (x : Bool) (z : Value)
    (hz : (zeroValue e).run P w = .ok z w) : (Instr.lookup t (.map (some b)) (.bool x) false).run P w = .ok (bsel x v z) w := by
  obtain ⟨n, c, hb⟩ := h
  have hc : ∀ em, (Instr.checkKey em 10000 k (.bool x)).run P w = .ok () w := fun em => MapKept.run_checkKey (k := .bool x) hk (by simp [MapKept.IsKey]) em 9999
  cases x
  · have h1 : Instr.findNow .bool (.bool false) (#[{ key := .bool true, val := v, born := n }] : Array MapEntry).toList 0 = some none := rfl
    simp [Instr.lookup, run_underlying ht, MapKept.run_getObj_map hb, hc, MapKept.run_findKey hk h1, hz, Result.andThen, bsel]
  · have h1 : Instr.findNow .bool (.bool true) (#[{ key := .bool true, val := v, born := n }] : Array MapEntry).toList 0 = some (some (0, v)) := rfl
    simp [Instr.lookup, run_underlying ht, MapKept.run_getObj_map hb, hc, MapKept.run_findKey hk h1, Result.andThen, bsel]
theorem runTo_same {σ : Type} (m : C.Mem σ) (s : σ) (r r' : Nat → Bool) : ∀ n : Nat, (∀ j, j < n → r j = r' j) → runTo m s r n = runTo m s r' n
  | 0, _ => rfl
  | n + 1, h => by
    have ih := runTo_same m s r r' n (fun j hj => h j (by omega))
    simp only [runTo, ih, h n (by omega)]
theorem rg_nil (j : Nat) : rg [] j = false := by simp [rg]
theorem rg_one (n j : Nat) : rg [(n : Int)] j = (j == n) := by
  unfold rg
  by_cases h : j = n
  · subst h; simp
  · have h' : ¬ ((j : Int) = n) := by omega
    simp [h, h']
def onL (more : Bool) (n : Nat) : List Int := if more then [(n : Int)] else []
theorem on_fact (rom ram : List UInt8) (more : Bool) (n : Nat) :
    runTo (spc rom) ram (rg (onL more n)) (n + 1) = ((C.step (spc rom) (runTo (spc rom) ram (rg []) n).1 (runTo (spc rom) ram (rg []) n).2.1 more).c, (C.step (spc rom) (runTo (spc rom) ram (rg []) n).1 (runTo (spc rom) ram (rg []) n).2.1 more).s,
      (runTo (spc rom) ram (rg []) n).2.2 + (C.step (spc rom) (runTo (spc rom) ram (rg []) n).1 (runTo (spc rom) ram (rg []) n).2.1 more).n) := by
  cases more
  · show runTo (spc rom) ram (rg []) (n + 1) = _
    simp only [runTo, rg_nil]
  · show runTo (spc rom) ram (rg [(n : Int)]) (n + 1) = _
    have e := runTo_same (spc rom) ram (rg [(n : Int)]) (rg []) n (fun j hj => by rw [rg_one, rg_nil]; simp; omega)
    simp only [runTo, e, rg_one, beq_self_eq_true]
theorem zero_ints (w : World) : (zeroValue 46).run Tryz.prog w = .ok (.slice none 0 0) w := by kernel_rfl
theorem onL_at {w : World} {g : Nat} (n : Nat) (more : Bool) (hz : g < w.heap.size) (h : w.cell? ⟨g, 0, none⟩ = some (.int .i64 n)) : intsAt w (bsel more (.slice (some ⟨g, 0, none⟩) 1 1) (.slice none 0 0)) (onL more n) := by
  cases more
  · exact Or.inl ⟨none, 0, rfl, rfl⟩
  · refine Or.inr ⟨g, 0, 1, rfl, Nat.le_refl _, hz, fun j x hj => ?_⟩
    have hl := (List.getElem?_eq_some_iff.1 hj).1
    obtain rfl : j = 0 := by simp [onL] at hl; exact hl
    have e : (n : Int) = x := by simpa [onL] using hj
    rw [← e]
    exact h
set_option maxRecDepth 100000 in
theorem same_any (v1 v2 v3 v4 : Value) (a b : List UInt8) (w : World) (h1 : sliceAt w v1 a) (h2 : sliceAt w v2 b) (h3 : sliceAt w v3 a) (h4 : sliceAt w v4 b) :
    Calls Tryz.prog 12 #[.agg #[v1, v2], .agg #[v3, v4]] w fun e w' => e = .returned (.bool true) ∧ Below w.heap.size w w' := by
  have H1 := hid (h1.kept (stA (stA (st0 w) (.cells #[v1, v2] 28)) (.cells #[v3, v4] 28)))
  have H2 := hid (h2.kept (stA (stA (st0 w) (.cells #[v1, v2] 28)) (.cells #[v3, v4] 28)))
  have H3 := hid (h3.kept (stA (stA (st0 w) (.cells #[v1, v2] 28)) (.cells #[v3, v4] 28)))
  have H4 := hid (h4.kept (stA (stA (st0 w) (.cells #[v1, v2] 28)) (.cells #[v3, v4] 28)))
  obtain ⟨a1, k1, x1⟩ := slice_len h1
  obtain ⟨a2, k2, x2⟩ := slice_len h2
  obtain ⟨a3, k3, x3⟩ := slice_len h3
  obtain ⟨a4, k4, x4⟩ := slice_len h4
  subst x1 x2 x3 x4
  clear h1 h2 h3 h4
  go_enter Tryz.func12, Tryz.ntmps12
  go_wp2_with (first
    | (go_at_call_of 21 (Value.slice a1 a.length k1); refine (equal_any _ _ a a _ H1.out H3.out).mono ?_; rintro e w3 ⟨rfl, rfl⟩)
    | (go_at_call_of 21 (Value.slice a2 b.length k2); refine (equal_any _ _ b b _ H2.out H4.out).mono ?_; rintro e w3 ⟨rfl, rfl⟩))
  go_ret
  exact ⟨by simp, stA (stA (st0 _) _) _⟩
/-! ### boxes -/
/-- A space's box. -/
structure Sat (W : World) (b : Nat) (x y : Value) : Prop where
  z : b < W.heap.size
  c0 : W.cell? ⟨b, 0, none⟩ = some x
  c1 : W.cell? ⟨b, 1, none⟩ = some y
theorem Sat.kept {W w1 : World} {b : Nat} {x y : Value} (h : Sat W b x y) (hb : Below W.heap.size W w1) : Sat w1 b x y :=
  ⟨Nat.lt_of_lt_of_le h.z hb.size, (hb.cell (p := ⟨b, 0, none⟩) h.z).trans h.c0, (hb.cell (p := ⟨b, 1, none⟩) h.z).trans h.c1⟩
theorem Sat.over {W : World} {b : Nat} {x y : Value} (h : Sat W b x y) (o : Obj) : Sat (W.alloc o) b x y := h.kept (stA (st0 W) o)
theorem Sat.new (W : World) (x y : Value) (b : Nat) (hb : b = W.heap.size) : Sat (W.alloc (.cells #[x, y] 28)) b x y :=
  ⟨by subst hb; simp, cell_new _ _ _ _ hb, cell_new _ _ _ _ hb⟩
/-- A processor's box. -/
structure Cat (W : World) (b : Nat) (c : C.Cpu) : Prop where
  z : b < W.heap.size
  q : ∀ j, W.cell? ⟨b, j, none⟩ = (#[.int .u16 (c.r 0), .int .u16 (c.r 1), .int .u16 (c.r 2), .int .u16 (c.r 3), .int .u16 (c.r 4), .int .u16 (c.r 5), .int .u16 (c.r 6), .int .u16 (c.r 7), .int .u16 c.PC, .bool c.Z, .bool c.N, .bool c.C, .bool c.V, .bool c.May, .bool c.Waits] : Array Value)[j]?
theorem Cat.kept {W w1 : World} {b : Nat} {c : C.Cpu} (h : Cat W b c) (hb : Below W.heap.size W w1) : Cat w1 b c :=
  ⟨Nat.lt_of_lt_of_le h.z hb.size, fun j => (hb.cell (p := ⟨b, j, none⟩) h.z).trans (h.q j)⟩
theorem Cat.over {W : World} {b : Nat} {c : C.Cpu} (h : Cat W b c) (o : Obj) : Cat (W.alloc o) b c := h.kept (stA (st0 W) o)
theorem Cat.new (W : World) (c : C.Cpu) (b : Nat) (hb : b = W.heap.size) : Cat (W.alloc (.cells #[.int .u16 (c.r 0), .int .u16 (c.r 1), .int .u16 (c.r 2), .int .u16 (c.r 3), .int .u16 (c.r 4), .int .u16 (c.r 5), .int .u16 (c.r 6), .int .u16 (c.r 7), .int .u16 c.PC, .bool c.Z, .bool c.N, .bool c.C, .bool c.V, .bool c.May, .bool c.Waits] 25)) b c :=
  ⟨by subst hb; simp, fun j => cell_new _ _ _ _ hb⟩
theorem Cat.all {W : World} {b : Nat} {c : C.Cpu} (h : Cat W b c) : W.cell? ⟨b, 0, none⟩ = some (.int .u16 (c.r 0)) ∧ W.cell? ⟨b, 1, none⟩ = some (.int .u16 (c.r 1)) ∧ W.cell? ⟨b, 2, none⟩ = some (.int .u16 (c.r 2)) ∧ W.cell? ⟨b, 3, none⟩ = some (.int .u16 (c.r 3)) ∧ W.cell? ⟨b, 4, none⟩ = some (.int .u16 (c.r 4)) ∧ W.cell? ⟨b, 5, none⟩ = some (.int .u16 (c.r 5)) ∧ W.cell? ⟨b, 6, none⟩ = some (.int .u16 (c.r 6)) ∧ W.cell? ⟨b, 7, none⟩ = some (.int .u16 (c.r 7)) ∧ W.cell? ⟨b, 8, none⟩ = some (.int .u16 c.PC) ∧ W.cell? ⟨b, 9, none⟩ = some (.bool c.Z) ∧ W.cell? ⟨b, 10, none⟩ = some (.bool c.N) ∧ W.cell? ⟨b, 11, none⟩ = some (.bool c.C) ∧ W.cell? ⟨b, 12, none⟩ = some (.bool c.V) ∧ W.cell? ⟨b, 13, none⟩ = some (.bool c.May) ∧ W.cell? ⟨b, 14, none⟩ = some (.bool c.Waits) := ⟨h.q 0, h.q 1, h.q 2, h.q 3, h.q 4, h.q 5, h.q 6, h.q 7, h.q 8, h.q 9, h.q 10, h.q 11, h.q 12, h.q 13, h.q 14⟩
theorem info_byte : (Tryz.prog.info? 5).map (fun i => (i.zero, i.size, i.bytes)) = some (some (.int .u8 0), 1, 1) := by kernel_rfl
theorem bcs_append (a b : List UInt8) : bcs a ++ bcs b = bcs (a ++ b) := by simp [bcs]
theorem appendNo (B : Nat) (i : TypeInfo) (hi : Tryz.prog.info? 5 = some i) (ty : TypeId) (v : Value) (n : Nat) (xs : List Value) {w : World} (hown : w.ownsRow B 5 1 v n xs) (a : Option Addr) (c : Nat) :
    (Builtin.append_ #[26, 26] ty #[v, .slice a 0 c]).run Tryz.prog w = .ok v w := by
  have hu := run_underlying (P := Tryz.prog) Tryz.underlying26
  have hf : (Builtin.firstCells i.size 0 (.slice a 0 c)).run Tryz.prog w = .ok #[] w := by
    cases a with
    | none => exact run_firstCells_none w i.size 0 0 c
    | some a => exact run_firstCells_some w i.size 0 a 0 c [] (by simp) (fun j v hj => by simp at hj)
  rcases hown.2 with ⟨rfl, rfl⟩ | ⟨g, cap, cur, rfl, _, _, hnc, _⟩
  · simp [Builtin.append_, hu, sizeOf, typeInfo, hi, Builtin.lenOf, hf]
  · simp [Builtin.append_, hu, sizeOf, typeInfo, hi, Builtin.lenOf, hf, hnc, storeCells]
theorem wpList_appSlice {ops : Array Oper} {rest : List Oper} {o : Oper} {a : Act} {w : World} {Q : Exit → Act → World → Prop} (hgd : o.guard = none) (s x : Operand) (ho : o.op = .call { callee := .builtin .append, args := #[s, x], argTypes := #[26, 26] })
    (B : Nat) (v : Value) (xs : List UInt8) (hs : a.eval s = v) (hown : w.ownsRow B 5 1 v xs.length (bcs xs)) (xv : Value) (hx : a.eval x = xv) (l : List UInt8) (hl : sliceAt w xv l) (hb : xs.length + l.length ≤ 1024) (hB : B ≤ w.heap.size)
    (h : ∀ v' w', w'.ownsRow B 5 1 v' (xs ++ l).length (bcs (xs ++ l)) → Below B w w' → wpList Tryz.prog ops Q rest (a.put o.dst v') w') : wpList Tryz.prog ops Q (o :: rest) a w := by
  obtain ⟨i0, hi0, hz0, hz1, hz2⟩ := info_parts info_byte
  by_cases hl0 : l = []
  · subst hl0
    have hxv : ∃ ad c, xv = .slice ad 0 c := by
      rcases hl with ⟨ad, c, h1, _⟩ | ⟨g, o', c, h1, _⟩
      · exact ⟨ad, c, h1⟩
      · exact ⟨_, c, h1⟩
    obtain ⟨ad, c, rfl⟩ := hxv
    refine wpList_plain hgd fun K hK => ?_
    have hrun := appendNo B i0 hi0 o.type v xs.length (bcs xs) hown ad c
    unfold Oper.wp
    simp [execOp, ho, resolve, invoke, builtin, hs, hx, hrun, Result.andThen]
    exact hK _ _ (h v w (by simpa using hown) (Below.refl _ _))
  · rcases hl with ⟨ad, c, _, h2⟩ | ⟨g, o', c, h1, h2, h3, h4⟩
    · exact absurd h2 hl0
    · have hlen : 0 < l.length := by cases l with | nil => exact absurd rfl hl0 | cons _ _ => simp
      refine wpList_append_lies _ hgd s x _ ho B 5 i0 _ 1 1 Tryz.underlying26 hi0 hz0 hz1 hz2 rfl (by omega) v xs.length (bcs xs) hs hown ⟨g, o', none⟩ l.length c (bcs l) (hx.trans h1) (by simp [bcs]) (fun j u hj => ?_) (fun u hu => ?_) hlen (by unfold maxLen; omega) (by omega) hB w.heap.size rfl ?_
      · simp only [bcs, List.getElem?_map, Option.map_eq_some_iff] at hj
        obtain ⟨cc, hc1, hc2⟩ := hj
        rw [← hc2, show (⟨g, o', none⟩ : Addr).add j = ⟨g, o' + j, none⟩ by unfold Addr.add; split <;> simp_all]
        exact h4 j cc hc1
      · simp only [bcs, List.mem_map] at hu
        obtain ⟨cc, _, rfl⟩ := hu
        rfl
      · intro g' cap w' hown' hgrow _ _
        refine h _ w' ?_ ((Below.refl B w).grown hgrow hB (fun k hk => (hown.lt k hk).1))
        rw [List.length_append, ← bcs_append]; exact hown'
theorem own_empty {w : World} {B g : Nat} (hg : w.heap[g]? = some (.cells #[] 5 (0, 0))) (hB : B ≤ g) : w.ownsRow B 5 1 (.slice (some ⟨g, 0, none⟩) 0 0) ([] : List UInt8).length (bcs []) :=
  ⟨rfl, Or.inr ⟨g, 0, #[], rfl, hB, hg, Nat.le_refl _, Nat.zero_le _, rfl, rfl⟩⟩
theorem step_appE {ops : Array Oper} {o : Oper} {a : Act} {w : World} {K : Act → World → Prop} {Q : Exit → Act → World → Prop} {E : Prop} (hgd : o.guard = none) (s x : Operand)
    (ho : o.op = .call { callee := .builtin .append, args := #[s, x], argTypes := #[26, 26] }) (B g : Nat) (hs : a.eval s = .slice (some ⟨g, 0, none⟩) 0 0) (xv : Value) (hx : a.eval x = xv)
    (l : List UInt8) (hg : w.heap[g]? = some (.cells #[] 5 (0, 0))) (hB : B ≤ g) (hl : sliceAt w xv l) (hb : l.length ≤ 140737488355328) (hBw : B ≤ w.heap.size)
    (h : ∀ v' w', w'.ownsRow B 5 1 v' l.length (bcs l) → w.grownBy w' (some g) → (∀ k, v'.ownBlock = some k → k = g ∨ k = w.heap.size) → K (a.put o.dst v') w') :
    if Region.wanted o (yielded ops a.tmps) = true then Oper.wp Tryz.prog o a w K Q else E := by
  obtain ⟨i0, hi0, hz0, hz1, hz2⟩ := info_parts info_byte
  have hown := own_empty hg hB
  by_cases hl0 : l = []
  · subst hl0
    have hxv : ∃ ad c, xv = .slice ad 0 c := by
      rcases hl with ⟨ad, c, h1, _⟩ | ⟨g, o', c, h1, _⟩
      · exact ⟨ad, c, h1⟩
      · exact ⟨_, c, h1⟩
    obtain ⟨ad, c, rfl⟩ := hxv
    rw [if_pos (by simp [Region.wanted, hgd])]
    have hrun := appendNo B i0 hi0 o.type _ ([] : List UInt8).length (bcs []) hown ad c
    unfold Oper.wp
    simp [execOp, ho, resolve, invoke, builtin, hs, hx, hrun, Result.andThen]
    exact h _ w hown ⟨rfl, rfl, rfl, Nat.le_refl _, fun k _ _ => rfl⟩ (fun k hk => Or.inl (Option.some.inj hk).symm)
  · rcases hl with ⟨ad, c, _, h2⟩ | ⟨g1, o', c, h1, h2, h3, h4⟩
    · exact absurd h2 hl0
    · have hlen : 0 < l.length := by cases l with | nil => exact absurd rfl hl0 | cons _ _ => simp
      refine step_append_lies _ hgd s x _ ho B 5 i0 _ 1 1 Tryz.underlying26 hi0 hz0 hz1 hz2 rfl (by omega) _ ([] : List UInt8).length (bcs []) hs hown ⟨g1, o', none⟩ l.length c (bcs l) (hx.trans h1) (by simp [bcs]) (fun j u hj => ?_) (fun u hu => ?_) hlen (by simp [maxLen]; omega) (by simp; omega) hBw w.heap.size rfl ?_
      · simp only [bcs, List.getElem?_map, Option.map_eq_some_iff] at hj
        obtain ⟨cc, hc1, hc2⟩ := hj
        rw [← hc2, show (⟨g1, o', none⟩ : Addr).add j = ⟨g1, o' + j, none⟩ by unfold Addr.add; split <;> simp_all]
        exact h4 j cc hc1
      · simp only [bcs, List.mem_map] at hu
        obtain ⟨cc, _, rfl⟩ := hu
        rfl
      · intro g' cap w' hown' hgrow hor _
        refine h _ w' ?_ hgrow (fun k hk => ?_)
        · simpa [bcs] using hown'
        · obtain rfl : g' = k := Option.some.inj hk
          rcases hor with e | e
          · exact Or.inl (Option.some.inj e).symm
          · exact Or.inr e
theorem ow_new (W : World) (o : Obj) (b : Nat) (h : b = W.heap.size) : (W.alloc o).heap[b]? = some o := by subst h; exact heap_alloc_new W o
theorem ow_old (W : World) (o o' : Obj) (b : Nat) (h : b = W.heap.size) : ((W.alloc o).alloc o').heap[b]? = some o := (heap_alloc_old _ _ (by subst h; simp)).trans (ow_new W o b h)
theorem ow_keep {w X Y : World} {a1 a2 : Option Addr} {n1 n2 k1 k2 g : Nat} (h : X.cell? ⟨w.heap.size, 0, none⟩ = some (.slice a1 n1 k1) ∧ X.cell? ⟨w.heap.size, 1, none⟩ = some (.slice a2 n2 k2) ∧ (X.cell? ⟨w.heap.size + 1, 0, none⟩).isSome = true ∧ (X.cell? ⟨w.heap.size + 1, 1, none⟩).isSome = true ∧ X.frozen? ⟨w.heap.size + 1, 0, none⟩ = false ∧ X.frozen? ⟨w.heap.size + 1, 1, none⟩ = false) (hg : X.grownBy Y (some g)) (hne : w.heap.size + 1 < g) :
    Y.cell? ⟨w.heap.size, 0, none⟩ = some (.slice a1 n1 k1) ∧ Y.cell? ⟨w.heap.size, 1, none⟩ = some (.slice a2 n2 k2) ∧ (Y.cell? ⟨w.heap.size + 1, 0, none⟩).isSome = true ∧ (Y.cell? ⟨w.heap.size + 1, 1, none⟩).isSome = true ∧ Y.frozen? ⟨w.heap.size + 1, 0, none⟩ = false ∧ Y.frozen? ⟨w.heap.size + 1, 1, none⟩ = false := by
  obtain ⟨h1, h2, h3, h4, h5, h6⟩ := h
  obtain ⟨u3, q3⟩ := Option.isSome_iff_exists.1 h3
  have z := World.block_lt_of_cell? X _ q3
  have z0 := World.block_lt_of_cell? X _ h1
  have e0 : Y.heap[w.heap.size]? = X.heap[w.heap.size]? := hg.block _ z0 (by intro e; have := Option.some.inj e; omega)
  have e1 : Y.heap[w.heap.size + 1]? = X.heap[w.heap.size + 1]? := hg.block _ z (by intro e; have := Option.some.inj e; omega)
  have c0 : ∀ j, Y.cell? ⟨w.heap.size, j, none⟩ = X.cell? ⟨w.heap.size, j, none⟩ := fun j => by unfold World.cell?; rw [e0]
  have c1 : ∀ j, Y.cell? ⟨w.heap.size + 1, j, none⟩ = X.cell? ⟨w.heap.size + 1, j, none⟩ := fun j => by unfold World.cell?; rw [e1]
  have f1 : ∀ j, Y.frozen? ⟨w.heap.size + 1, j, none⟩ = X.frozen? ⟨w.heap.size + 1, j, none⟩ := fun j => by unfold World.frozen?; rw [e1]
  exact ⟨(c0 0).trans h1, (c0 1).trans h2, by rw [c1 0]; exact h3, by rw [c1 1]; exact h4, (f1 0).trans h5, (f1 1).trans h6⟩
theorem ow_alloc {w X : World} {a1 a2 : Option Addr} {n1 n2 k1 k2 : Nat} (h : X.cell? ⟨w.heap.size, 0, none⟩ = some (.slice a1 n1 k1) ∧ X.cell? ⟨w.heap.size, 1, none⟩ = some (.slice a2 n2 k2) ∧ (X.cell? ⟨w.heap.size + 1, 0, none⟩).isSome = true ∧ (X.cell? ⟨w.heap.size + 1, 1, none⟩).isSome = true ∧ X.frozen? ⟨w.heap.size + 1, 0, none⟩ = false ∧ X.frozen? ⟨w.heap.size + 1, 1, none⟩ = false) (o : Obj) : (X.alloc o).cell? ⟨w.heap.size, 0, none⟩ = some (.slice a1 n1 k1) ∧ (X.alloc o).cell? ⟨w.heap.size, 1, none⟩ = some (.slice a2 n2 k2) ∧ ((X.alloc o).cell? ⟨w.heap.size + 1, 0, none⟩).isSome = true ∧ ((X.alloc o).cell? ⟨w.heap.size + 1, 1, none⟩).isSome = true ∧ (X.alloc o).frozen? ⟨w.heap.size + 1, 0, none⟩ = false ∧ (X.alloc o).frozen? ⟨w.heap.size + 1, 1, none⟩ = false :=
  ow_keep (g := X.heap.size + w.heap.size + 2) h ⟨rfl, rfl, rfl, by simp, fun k hk _ => heap_alloc_old X o hk⟩ (by omega)
theorem ow_allocD {w X : World} {a1 a2 : Option Addr} {n1 n2 k1 k2 : Nat} (h : X.drew.cell? ⟨w.heap.size, 0, none⟩ = some (.slice a1 n1 k1) ∧ X.drew.cell? ⟨w.heap.size, 1, none⟩ = some (.slice a2 n2 k2) ∧ (X.drew.cell? ⟨w.heap.size + 1, 0, none⟩).isSome = true ∧ (X.drew.cell? ⟨w.heap.size + 1, 1, none⟩).isSome = true ∧ X.drew.frozen? ⟨w.heap.size + 1, 0, none⟩ = false ∧ X.drew.frozen? ⟨w.heap.size + 1, 1, none⟩ = false) (o : Obj) : (X.alloc o).drew.cell? ⟨w.heap.size, 0, none⟩ = some (.slice a1 n1 k1) ∧ (X.alloc o).drew.cell? ⟨w.heap.size, 1, none⟩ = some (.slice a2 n2 k2) ∧ ((X.alloc o).drew.cell? ⟨w.heap.size + 1, 0, none⟩).isSome = true ∧ ((X.alloc o).drew.cell? ⟨w.heap.size + 1, 1, none⟩).isSome = true ∧ (X.alloc o).drew.frozen? ⟨w.heap.size + 1, 0, none⟩ = false ∧ (X.alloc o).drew.frozen? ⟨w.heap.size + 1, 1, none⟩ = false := ow_alloc (X := X) h o
theorem ow_below {w X Y : World} {g : Nat} (h : Below w.heap.size w X) (hg : X.grownBy Y (some g)) (hne : w.heap.size ≤ g) : Below w.heap.size w Y := h.grown hg h.size (fun k hk => by obtain rfl := Option.some.inj hk; exact hne)
theorem ow_size {w X : World} {a1 a2 : Option Addr} {n1 n2 k1 k2 : Nat} (h : X.cell? ⟨w.heap.size, 0, none⟩ = some (.slice a1 n1 k1) ∧ X.cell? ⟨w.heap.size, 1, none⟩ = some (.slice a2 n2 k2) ∧ (X.cell? ⟨w.heap.size + 1, 0, none⟩).isSome = true ∧ (X.cell? ⟨w.heap.size + 1, 1, none⟩).isSome = true ∧ X.frozen? ⟨w.heap.size + 1, 0, none⟩ = false ∧ X.frozen? ⟨w.heap.size + 1, 1, none⟩ = false) : w.heap.size + 1 < X.heap.size := by
  obtain ⟨u3, q3⟩ := Option.isSome_iff_exists.1 h.2.2.1
  exact World.block_lt_of_cell? X _ q3
theorem ow_set {w X : World} {a1 a2 : Option Addr} {n1 n2 k1 k2 : Nat} (h : X.cell? ⟨w.heap.size, 0, none⟩ = some (.slice a1 n1 k1) ∧ X.cell? ⟨w.heap.size, 1, none⟩ = some (.slice a2 n2 k2) ∧ (X.cell? ⟨w.heap.size + 1, 0, none⟩).isSome = true ∧ (X.cell? ⟨w.heap.size + 1, 1, none⟩).isSome = true ∧ X.frozen? ⟨w.heap.size + 1, 0, none⟩ = false ∧ X.frozen? ⟨w.heap.size + 1, 1, none⟩ = false) (u v : Value) : ((X.setCell ⟨w.heap.size + 1, 0, none⟩ u).setCell ⟨w.heap.size + 1, 1, none⟩ v).cell? ⟨w.heap.size, 0, none⟩ = some (.slice a1 n1 k1) ∧ ((X.setCell ⟨w.heap.size + 1, 0, none⟩ u).setCell ⟨w.heap.size + 1, 1, none⟩ v).cell? ⟨w.heap.size, 1, none⟩ = some (.slice a2 n2 k2) ∧ (((X.setCell ⟨w.heap.size + 1, 0, none⟩ u).setCell ⟨w.heap.size + 1, 1, none⟩ v).cell? ⟨w.heap.size + 1, 0, none⟩).isSome = true ∧ (((X.setCell ⟨w.heap.size + 1, 0, none⟩ u).setCell ⟨w.heap.size + 1, 1, none⟩ v).cell? ⟨w.heap.size + 1, 1, none⟩).isSome = true ∧ ((X.setCell ⟨w.heap.size + 1, 0, none⟩ u).setCell ⟨w.heap.size + 1, 1, none⟩ v).frozen? ⟨w.heap.size + 1, 0, none⟩ = false ∧ ((X.setCell ⟨w.heap.size + 1, 0, none⟩ u).setCell ⟨w.heap.size + 1, 1, none⟩ v).frozen? ⟨w.heap.size + 1, 1, none⟩ = false := by
  have ht : X.there (w.heap.size + 1) 0 2 := fun j hj => by
    match j, hj with
    | 0, _ => exact ⟨h.2.2.1, h.2.2.2.2.1⟩
    | 1, _ => exact ⟨h.2.2.2.1, h.2.2.2.2.2⟩
  have hr := World.rangeAt_setCells_same X (w.heap.size + 1) 0 [u, v] ht
  simp only [World.setCells, Nat.zero_add] at hr
  have far : ∀ j, ((X.setCell ⟨w.heap.size + 1, 0, none⟩ u).setCell ⟨w.heap.size + 1, 1, none⟩ v).cell? ⟨w.heap.size, j, none⟩ = X.cell? ⟨w.heap.size, j, none⟩ := fun j => (World.cell?_setCell_far _ _ _ v (by simp)).trans (World.cell?_setCell_far _ _ _ u (by simp))
  refine ⟨(far 0).trans h.1, (far 1).trans h.2.1, ?_, ?_, ?_, ?_⟩
  · rw [show ((X.setCell ⟨w.heap.size + 1, 0, none⟩ u).setCell ⟨w.heap.size + 1, 1, none⟩ v).cell? ⟨w.heap.size + 1, 0, none⟩ = some u from hr 0 _ rfl]; rfl
  · rw [show ((X.setCell ⟨w.heap.size + 1, 0, none⟩ u).setCell ⟨w.heap.size + 1, 1, none⟩ v).cell? ⟨w.heap.size + 1, 1, none⟩ = some v from hr 1 _ rfl]; rfl
  · simpa using h.2.2.2.2.1
  · simpa using h.2.2.2.2.2
theorem ow_b2 {X Y : World} {g b : Nat} {o : Obj} (hg : X.grownBy Y (some g)) (h : X.heap[b]? = some o) (hne : b ≠ g) : Y.heap[b]? = some o :=
  (hg.block b (Array.getElem?_eq_some_iff.1 h).1 (fun e => hne (Option.some.inj e))).trans h
theorem ow_cop {w W : World} {rom ram : List UInt8} {vR vM u v : Value} (h : Cop (w.heap.size + 2) rom ram W vR vM) (hz : w.heap.size + 1 < W.heap.size) : Cop w.heap.size rom ram ((W.setCell ⟨w.heap.size + 1, 0, none⟩ u).setCell ⟨w.heap.size + 1, 1, none⟩ v) vR vM :=
  cop_mono (cop_set (cop_set h (by omega) _ _) (by omega) _ _) (by omega)
theorem ow_fin {wA X2 wB : World} {B g2 : Nat} {vA vB : Value} {rom ram : List UInt8} (oA : wA.ownsRow B 5 1 vA rom.length (bcs rom)) (hk : ∀ k, k < wA.heap.size → X2.heap[k]? = wA.heap[k]?) (hz : wA.heap.size ≤ X2.heap.size)
    (oB : wB.ownsRow B 5 1 vB ram.length (bcs ram)) (gB : X2.grownBy wB (some g2)) (dB : ∀ k, vB.ownBlock = some k → k = g2 ∨ k = X2.heap.size) (dA : ∀ k, vA.ownBlock = some k → k ≠ g2) : Cop B rom ram wB vA vB := by
  refine ⟨own_of_block oA (fun k h => ?_), oB, fun k h h' => ?_⟩
  · have hl := (oA.lt k h).2
    rw [gB.block k (by omega) (fun e => dA k h (Option.some.inj e)), hk k hl]
  · have hl := (oA.lt k h').2
    rcases dB k h with e | e
    · exact dA k h' e
    · omega
set_option maxRecDepth 100000 in
set_option maxHeartbeats 1600000 in
theorem own_any (v1 v2 : Value) (rom ram : List UInt8) (w : World) (h1 : sliceAt w v1 rom) (h2 : sliceAt w v2 ram) (hl1 : rom.length ≤ 140737488355328) (hl2 : ram.length ≤ 140737488355328) :
    Calls Tryz.prog 5 #[.agg #[v1, v2]] w fun e w' => ∃ vR vM, e = .returned (.agg #[vR, vM]) ∧ Cop w.heap.size rom ram w' vR vM ∧ Below w.heap.size w w' := by
  have H1 := hid h1
  have H2 := hid h2
  obtain ⟨a1, k1, x1⟩ := slice_len h1
  obtain ⟨a2, k2, x2⟩ := slice_len h2
  have HL1 := hid hl1
  have HL2 := hid hl2
  clear h1 h2 hl1 hl2
  subst x1 x2
  go_enter Tryz.func5, Tryz.ntmps5
  go_wp2
  go_region_held3 (fun w' => w'.cell? ⟨w.heap.size, 0, none⟩ = some (.slice a1 rom.length k1) ∧ w'.cell? ⟨w.heap.size, 1, none⟩ = some (.slice a2 ram.length k2) ∧ (w'.cell? ⟨w.heap.size + 1, 0, none⟩).isSome = true ∧ (w'.cell? ⟨w.heap.size + 1, 1, none⟩).isSome = true ∧ w'.frozen? ⟨w.heap.size + 1, 0, none⟩ = false ∧ w'.frozen? ⟨w.heap.size + 1, 1, none⟩ = false)
    (first
      | with_reducible assumption
      | with_reducible exact ow_allocD (by assumption) _
      | with_reducible exact ow_alloc (by assumption) _
      | with_reducible exact ow_set (by assumption) _ _
      | (go_keep; done))
    (first
      | (refine step_appE rfl (.tmp 3) (.tmp 5) rfl (w.heap.size + 2) _ rfl _ rfl rom ?_ ?_ ?_ HL1.out ?_ ?_; (first | (refine ow_new _ _ _ ?_; (focus (simp; done))) | (refine ow_old _ _ _ _ ?_; (focus (simp; done)))); omega; (first | exact H1.out.kept (stA (stA (stA (st0 w) _) _) _).drew | exact H1.out.kept (stA (stA (stA (stA (st0 w) _) _) _) _).drew); (first | (focus (simp; done)) | (simp; omega)); intro vA wA oA gA dA; have KA := ow_keep (by assumption) gA (by omega); have HA := hid oA; have sA : w.heap.size + 1 + 1 < wA.heap.size := Nat.lt_of_lt_of_le (by simp) gA.size; have GA := hid gA; have DA := hid dA; have HBA : Hid (Below w.heap.size w wA) := (by first | exact ow_below (stA (stA (stA (st0 w) _) _) _).drew gA (by omega) | exact ow_below (stA (stA (stA (stA (st0 w) _) _) _) _).drew gA (by omega)); obtain ⟨aa, ca, rfl⟩ := own_slice oA; clear oA gA dA)
      | (refine step_appE rfl (.tmp 7) (.tmp 9) rfl (w.heap.size + 2) _ rfl _ rfl ram ?_ ?_ ?_ HL2.out ?_ ?_; (first | exact ow_new _ _ _ rfl | (refine ow_b2 GA.out (ow_new _ _ _ ?_) ?_; (focus (simp; done)); omega) | (refine ow_b2 GA.out (ow_old _ _ _ _ ?_) ?_; (focus (simp; done)); omega)); omega; (first | exact H2.out.kept (stA HBA.out _) | exact H2.out.kept HBA.out); (first | omega | (focus (simp; done)) | (simp; omega)); intro vB wB oB gB dB; have KB := ow_keep (by assumption) gB (by omega); have HC : Hid (Cop (w.heap.size + 2) rom ram wB (.slice aa rom.length ca) vB) := (by first | exact ow_fin HA.out (fun k hk => heap_alloc_old wA _ hk) (by simp) oB gB dB (fun k hk => Nat.ne_of_lt (HA.out.lt k hk).2) | exact ow_fin HA.out (fun k hk => rfl) (Nat.le_refl _) oB gB dB (fun k hk => by rcases DA.out k hk with e | e <;> ((try simp at e); omega))); have HBB : Hid (Below w.heap.size w wB) := (by first | exact ow_below (stA HBA.out _) gB (by omega) | exact ow_below HBA.out gB (by omega)); have sB : w.heap.size + 1 < wB.heap.size := ow_size KB; obtain ⟨uu0, qq0⟩ := Option.isSome_iff_exists.1 KB.2.2.1; obtain ⟨uu1, qq1⟩ := Option.isSome_iff_exists.1 KB.2.2.2.1; obtain ⟨ab, cb, rfl⟩ := own_slice oB; clear oB gB dB))
  all_goals go_wp2
  all_goals
    refine bodyPost_ret (v := .agg #[.slice aa rom.length ca, .slice ab ram.length cb]) (by simp [results, Tryz.results5, go_sem, *]) rfl ⟨_, _, rfl, ?_, ?_⟩
    · exact ow_cop HC.out sB
    · exact (HBB.out.setCell (Nat.le_succ _) _).setCell (Nat.le_succ _) _
theorem st_drewN {w a : World} (h : Below w.heap.size w a) (k : Nat) : Below w.heap.size w (a.drewN k) := by
  induction k with
  | zero => exact h
  | succ k ih => exact ih.drew
/-- A space, and the box of a pointer to it. -/
structure SpP (B sb bs : Nat) (vR vM : Value) (rom : List UInt8) (w : World) (ram : List UInt8) : Prop where
  sp : SpI B sb vR vM rom w ram
  ptr : w.heap[bs]? = some (.cells #[.pointer (some ⟨sb, 0, none⟩)] 44 (0, 0))
  nb : ∀ k, vM.ownBlock = some k → k ≠ bs
theorem SpP.pcell {B sb bs : Nat} {vR vM : Value} {rom ram : List UInt8} {w : World} (h : SpP B sb bs vR vM rom w ram) : w.cell? ⟨bs, 0, none⟩ = some (.pointer (some ⟨sb, 0, none⟩)) ∧ bs < w.heap.size :=
  ⟨Lib.cell_of_heap h.ptr 0, (Array.getElem?_eq_some_iff.1 h.ptr).1⟩
theorem inRom_iff {n : Nat} {a : Int} (h : inRom n a = true) : a < 32768 ∧ a < n := by
  unfold inRom at h
  simpa using h
set_option maxRecDepth 100000 in
set_option maxHeartbeats 1600000 in
theorem get_rom (B sb bs : Nat) (vR vM : Value) (rom ram : List UInt8) (a : Int) (ha : 0 ≤ a) (ha' : a ≤ 65535) (hr : inRom rom.length a = true) (w : World) (h : SpP B sb bs vR vM rom w ram) :
    Calls Tryz.prog 34 #[.int .u16 a, .pointer (some ⟨bs, 0, none⟩)] w fun e w' => e = .returned (.int .u8 (rom.getD a.toNat 0).toNat) ∧ Below w.heap.size w w' := by
  obtain ⟨r1, r2⟩ := inRom_iff hr
  obtain ⟨i, rfl⟩ := Int.eq_ofNat_of_zero_le ha
  have hil : i < rom.length := by omega
  obtain ⟨aM, cM, rfl⟩ := own_slice h.sp.hram
  obtain ⟨g, cR, rfl, hg, _, hc⟩ := own_at h.sp.hrom hil
  obtain ⟨c0, c1, hb⟩ := h.sp.cells
  obtain ⟨p0, hp⟩ := h.pcell
  simp only [Int.toNat_natCast]
  generalize rom.getD i 0 = u at hc ⊢
  have g1 : decide ((i : Int) < 32768) = true := decide_eq_true r1
  clear h hr
  go_enter Tryz.func34, Tryz.ntmps34
  go_wp2
  go_ret
  exact ⟨rfl, st0 w⟩
set_option maxRecDepth 100000 in
set_option maxHeartbeats 1600000 in
theorem get_ram (B sb bs : Nat) (vR vM : Value) (rom ram : List UInt8) (a : Int) (ha : 0 ≤ a) (ha' : a ≤ 65535) (hm : inRam ram.length a = true) (w : World) (h : SpP B sb bs vR vM rom w ram) :
    Calls Tryz.prog 34 #[.int .u16 a, .pointer (some ⟨bs, 0, none⟩)] w fun e w' => e = .returned (.int .u8 (ram.getD ((a - 32768) % ram.length).toNat 0).toNat) ∧ Below w.heap.size w w' := by
  obtain ⟨m1, m2, m3⟩ := inRam_iff hm
  obtain ⟨i, hi⟩ := Int.eq_ofNat_of_zero_le (show 0 ≤ (a - 32768) % (ram.length : Int) from Int.emod_nonneg _ (by omega))
  have hil : i < ram.length := by have := Int.emod_lt_of_pos (a - 32768) (show (0 : Int) < ram.length by omega); omega
  have hfew := h.sp.few.2
  obtain ⟨aR, cR, rfl⟩ := own_slice h.sp.hrom
  obtain ⟨g, cM, rfl, hg, _, hc⟩ := own_at h.sp.hram hil
  obtain ⟨c0, c1, hb⟩ := h.sp.cells
  obtain ⟨p0, hp⟩ := h.pcell
  have et : (a - 32768).tmod (ram.length : Int) = i := by rw [Int.tmod_eq_emod_of_nonneg (by omega)]; exact hi
  have eq2 : a.tdiv 16384 = 2 := by rw [Int.tdiv_eq_ediv_of_nonneg ha]; omega
  have eq3 : a / 16384 = 2 := by omega
  have e3 : (a - 32768) % (ram.length : Int) = i := hi
  rw [hi]
  simp only [Int.toNat_natCast]
  generalize ram.getD i 0 = u at hc ⊢
  have g1 : decide (a < 32768) = false := decide_eq_false (by omega)
  have hi0 : (i : Int) < ram.length := by omega
  have hz : ((ram.length : Nat) : Int) ≠ 0 := by omega
  have hw1 : IntKind.i64.wrap (a - 32768) = a - 32768 := by simp [IntKind.wrap, IntKind.bits, IntKind.signed]; omega
  have hw2 : IntKind.i64.wrap (i : Int) = i := by simp [IntKind.wrap, IntKind.bits, IntKind.signed]; omega
  have hl0 : (0 : Int) < ram.length := by omega
  have g2 : decide ((0 : Int) < ram.length) = true := decide_eq_true hl0
  clear h hm hi
  go_enter Tryz.func34, Tryz.ntmps34
  go_wp2
  go_quiet (fail)
  go_wp2
  go_ret
  exact ⟨rfl, st_drewN (st0 w) _⟩
set_option maxRecDepth 100000 in
set_option maxHeartbeats 1600000 in
theorem get_none (B sb bs : Nat) (vR vM : Value) (rom ram : List UInt8) (a : Int) (ha : 0 ≤ a) (ha' : a ≤ 65535) (hr : inRom rom.length a = false) (hm : inRam ram.length a = false) (w : World) (h : SpP B sb bs vR vM rom w ram) :
    Calls Tryz.prog 34 #[.int .u16 a, .pointer (some ⟨bs, 0, none⟩)] w fun e w' => e = .returned (.int .u8 255) ∧ Below w.heap.size w w' := by
  obtain ⟨aR, cR, rfl⟩ := own_slice h.sp.hrom
  obtain ⟨aM, cM, rfl⟩ := own_slice h.sp.hram
  obtain ⟨c0, c1, hb⟩ := h.sp.cells
  obtain ⟨p0, hp⟩ := h.pcell
  have hfew := h.sp.few
  clear h
  unfold inRom at hr
  unfold inRam at hm
  have eq2 : a.tdiv 16384 = a / 16384 := Int.tdiv_eq_ediv_of_nonneg ha
  by_cases h1 : a < 32768
  · have h2 : decide (a < (rom.length : Int)) = false := by simpa [h1] using hr
    have g1 : decide (a < 32768) = true := decide_eq_true h1
    have q : (a / 16384 == 2) = false := by rw [beq_eq_false_iff_ne]; omega
    clear hr hm
    go_enter Tryz.func34, Tryz.ntmps34
    go_wp2
    go_ret
    exact ⟨rfl, st0 w⟩
  · have g1 : decide (a < 32768) = false := decide_eq_false h1
    by_cases h2 : a ≤ 49151
    · have q : (a / 16384 == 2) = true := by rw [beq_iff_eq]; omega
      have e0 : ram.length = 0 := by
        have : ¬ (0 < ram.length) := by simpa [h1, h2, show (32768 : Int) ≤ a by omega] using hm
        omega
      rw [e0] at c1
      clear hr hm e0 hfew
      go_enter Tryz.func34, Tryz.ntmps34
      go_wp2
      go_ret
      exact ⟨rfl, st0 w⟩
    · have q : (a / 16384 == 2) = false := by rw [beq_eq_false_iff_ne]; omega
      clear hr hm
      go_enter Tryz.func34, Tryz.ntmps34
      go_wp2
      go_ret
      exact ⟨rfl, st0 w⟩
set_option maxRecDepth 100000 in
set_option maxHeartbeats 1600000 in
theorem put_none (B sb bs : Nat) (vR vM : Value) (rom ram : List UInt8) (a b : Int) (ha : 0 ≤ a) (ha' : a ≤ 65535) (hm : inRam ram.length a = false) (w : World) (h : SpP B sb bs vR vM rom w ram) :
    Calls Tryz.prog 35 #[.int .u16 a, .int .u8 b, .pointer (some ⟨bs, 0, none⟩)] w fun e w' => e = .returned (.tuple #[]) ∧ Below w.heap.size w w' := by
  obtain ⟨aR, cR, rfl⟩ := own_slice h.sp.hrom
  obtain ⟨aM, cM, rfl⟩ := own_slice h.sp.hram
  obtain ⟨c0, c1, hb⟩ := h.sp.cells
  obtain ⟨p0, hp⟩ := h.pcell
  have hfew := h.sp.few
  clear h
  unfold inRam at hm
  have eq2 : a.tdiv 16384 = a / 16384 := Int.tdiv_eq_ediv_of_nonneg ha
  by_cases h1 : 32768 ≤ a ∧ a ≤ 49151
  · have q : (a / 16384 == 2) = true := by rw [beq_iff_eq]; omega
    have e0 : ram.length = 0 := by
      have : ¬ (0 < ram.length) := by simpa [h1.1, h1.2] using hm
      omega
    rw [e0] at c1
    clear hm e0 hfew
    go_enter Tryz.func35, Tryz.ntmps35
    go_wp2
    go_end0
    exact ⟨rfl, st0 w⟩
  · have q : (a / 16384 == 2) = false := by rw [beq_eq_false_iff_ne]; omega
    clear hm
    go_enter Tryz.func35, Tryz.ntmps35
    go_wp2
    go_end0
    exact ⟨rfl, st0 w⟩
set_option maxRecDepth 100000 in
set_option maxHeartbeats 1600000 in
theorem put_ram (B sb bs : Nat) (vR vM : Value) (rom ram : List UInt8) (a b : Int) (ha : 0 ≤ a) (ha' : a ≤ 65535) (hb0 : 0 ≤ b) (hb1 : b ≤ 255) (hm : inRam ram.length a = true) (w : World) (h : SpP B sb bs vR vM rom w ram) :
    Calls Tryz.prog 35 #[.int .u16 a, .int .u8 b, .pointer (some ⟨bs, 0, none⟩)] w fun e w' => e = .returned (.tuple #[]) ∧ SpI B sb vR vM rom w' (ram.set ((a - 32768) % ram.length).toNat (UInt8.ofNat b.toNat)) ∧ Mv B (spT sb vR vM ram) (spT sb vR vM ram) w w' ∧ ∀ k, vM.ownBlock ≠ some k → k < w.heap.size → w'.heap[k]? = w.heap[k]? := by
  obtain ⟨m1, m2, m3⟩ := inRam_iff hm
  obtain ⟨i, hi⟩ := Int.eq_ofNat_of_zero_le (show 0 ≤ (a - 32768) % (ram.length : Int) from Int.emod_nonneg _ (by omega))
  have hil : i < ram.length := by have := Int.emod_lt_of_pos (a - 32768) (show (0 : Int) < ram.length by omega); omega
  have hfew := h.sp.few.2
  obtain ⟨aR, cR, rfl⟩ := own_slice h.sp.hrom
  obtain ⟨g, cM, rfl, hg, hfz, hc⟩ := own_at h.sp.hram hil
  obtain ⟨c0, c1, hb⟩ := h.sp.cells
  obtain ⟨p0, hp⟩ := h.pcell
  have et : (a - 32768).tmod (ram.length : Int) = i := by rw [Int.tmod_eq_emod_of_nonneg (by omega)]; exact hi
  have eq2 : a.tdiv 16384 = 2 := by rw [Int.tdiv_eq_ediv_of_nonneg ha]; omega
  have eq3 : a / 16384 = 2 := by omega
  have e3 : (a - 32768) % (ram.length : Int) = i := hi
  rw [hi]
  simp only [Int.toNat_natCast]
  have hi0 : (i : Int) < ram.length := by omega
  have hz : ((ram.length : Nat) : Int) ≠ 0 := by omega
  have hw1 : IntKind.i64.wrap (a - 32768) = a - 32768 := by simp [IntKind.wrap, IntKind.bits, IntKind.signed]; omega
  have hw2 : IntKind.i64.wrap (i : Int) = i := by simp [IntKind.wrap, IntKind.bits, IntKind.signed]; omega
  have hl0 : (0 : Int) < ram.length := by omega
  have g2 : decide ((0 : Int) < ram.length) = true := decide_eq_true hl0
  have HS := hid h
  have hgs : g ≠ sb := (h.sp.ne g rfl).2.1
  have hgb : g ≠ bs := h.nb g rfl
  generalize ram.getD i 0 = u at hc
  clear h hm hi
  obtain ⟨L, hL⟩ : ∃ L, L = ram.length := ⟨_, rfl⟩
  rw [← hL] at HS c1 et e3 hi0 hz hl0 g2 m3 hil hfew ⊢
  have HLL := hid hL
  clear hL
  have hz2 : ¬ L = 0 := by omega
  have hz3 : ((L : Int) == 0) = false := by rw [beq_eq_false_iff_ne]; omega
  have hz4 : ((L : Int) = 0) = False := by simp; omega
  go_enter Tryz.func35, Tryz.ntmps35
  go_wp2
  have HK : Hid (∀ (W : World) (x : Value), (W.cell? ⟨bs, 0, none⟩ = some (.pointer (some ⟨sb, 0, none⟩)) ∧ W.cell? ⟨sb, 1, none⟩ = some (.slice (some ⟨g, 0, none⟩) L cM)) → ((W.setCell ⟨g, i, none⟩ x).cell? ⟨bs, 0, none⟩ = some (.pointer (some ⟨sb, 0, none⟩)) ∧ (W.setCell ⟨g, i, none⟩ x).cell? ⟨sb, 1, none⟩ = some (.slice (some ⟨g, 0, none⟩) L cM))) := fun W x hW => ⟨(World.cell?_setCell_far W _ _ x hgb).trans hW.1, (World.cell?_setCell_far W _ _ x hgs).trans hW.2⟩
  go_region_held3 (fun w' => w'.cell? ⟨bs, 0, none⟩ = some (.pointer (some ⟨sb, 0, none⟩)) ∧ w'.cell? ⟨sb, 1, none⟩ = some (.slice (some ⟨g, 0, none⟩) L cM))
    (first | (go_keep; done) | exact HK.out _ _ (by assumption) | exact HK.out w _ ⟨p0, c1⟩)
    (fail)
  go_wp2
  go_end0
  have hLL := HLL.out
  subst hLL
  obtain ⟨h3, hB⟩ := HS.out.sp.put rfl hil b ⟨hb0, hb1⟩
  refine ⟨rfl, h3.keep (Nat.le_refl _) (fun k hk => rfl), ?_, fun k hk hlt => Below.heap_setCell _ _ _ _ (fun e => hk (by have e' : k = g := e; rw [e']; rfl))⟩
  exact ((Mv.of_below HS.out.sp.big (st0 w)).setCell hB (Or.inl (Or.inr (Or.inr (Or.inr rfl)))) _).drew
section
variable {σ : Type} {m : C.Mem σ} {B bs : Nat} {I : World → σ → Prop} {T : σ → Nat → Prop}
theorem rest_any (R : QS m B bs I T) (w : World) (s : σ) (hB : B ≤ w.heap.size) (k : Nat) (h32 : k < 32) (h30 : k ≠ 30) (d e1 : Nat) (n v : Int) (hd : d < 8) (he : e1 < 8) (hn : -16 ≤ n ∧ n ≤ 15) (hv : 0 ≤ v ∧ v ≤ 65535) (hn0 : k = 12 ∨ k = 13 → 0 ≤ n) (x : C.St σ) :
    Rest B bs I T w s k d e1 n v x (C.act m ⟨x.c, x.s, K.cyc k⟩ k d e1 n v) := by
  have hk : k = 0 ∨ k = 1 ∨ k = 2 ∨ k = 3 ∨ k = 4 ∨ k = 5 ∨ k = 6 ∨ k = 7 ∨ k = 8 ∨ k = 9 ∨ k = 10 ∨ k = 11 ∨ k = 12 ∨ k = 13 ∨ k = 14 ∨ k = 15 ∨ k = 16 ∨ k = 17 ∨ k = 18 ∨ k = 19 ∨ k = 20 ∨ k = 21 ∨ k = 22 ∨ k = 23 ∨ k = 24 ∨ k = 25 ∨ k = 26 ∨ k = 27 ∨ k = 28 ∨ k = 29 ∨ k = 31 := by omega
  rcases hk with rfl | rfl | rfl | rfl | rfl | rfl | rfl | rfl | rfl | rfl | rfl | rfl | rfl | rfl | rfl | rfl | rfl | rfl | rfl | rfl | rfl | rfl | rfl | rfl | rfl | rfl | rfl | rfl | rfl | rfl | rfl
  · exact rmid R w s 0 d e1 n v hd he hn (by omega) (by kernel_rfl) rfl rfl rfl rfl rfl rfl rfl rfl x _ (rsw_0 R w s hB d e1 n v hd he hn hv x)
  · exact rmid R w s 1 d e1 n v hd he hn (by omega) (by kernel_rfl) rfl rfl rfl rfl rfl rfl rfl rfl x _ (rsw_1 R w s hB d e1 n v hd he hn hv x)
  · exact rmid R w s 2 d e1 n v hd he hn (by omega) (by kernel_rfl) rfl rfl rfl rfl rfl rfl rfl rfl x _ (rsw_2 R w s hB d e1 n v hd he hn hv x)
  · exact rmid R w s 3 d e1 n v hd he hn (by omega) (by kernel_rfl) rfl rfl rfl rfl rfl rfl rfl rfl x _ (rsw_3 R w s hB d e1 n v hd he hn hv x)
  · exact rmid R w s 4 d e1 n v hd he hn (by omega) (by kernel_rfl) rfl rfl rfl rfl rfl rfl rfl rfl x _ (rsw_4 R w s hB d e1 n v hd he hn hv x)
  · exact rmid R w s 5 d e1 n v hd he hn (by omega) (by kernel_rfl) rfl rfl rfl rfl rfl rfl rfl rfl x _ (rsw_5 R w s hB d e1 n v hd he hn hv x)
  · exact rmid R w s 6 d e1 n v hd he hn (by omega) (by kernel_rfl) rfl rfl rfl rfl rfl rfl rfl rfl x _ (rsw_6 R w s hB d e1 n v hd he hn hv x)
  · exact rrk_7 R w s hB d e1 n v hd he hn x
  · exact rrk_8 R w s hB d e1 n v hd he hn x
  · exact rrk_9 R w s hB d e1 n v hd he hn x
  · exact rrk_10 R w s hB d e1 n v hd he hn x
  · exact rrk_11 R w s hB d e1 n v hd he hn x
  · exact rmid R w s 12 d e1 n v hd he hn (by omega) (by kernel_rfl) rfl rfl rfl rfl rfl rfl rfl rfl x _ (rsw_12 R w s hB d e1 n v hd he hn (hn0 (by omega)) hv x)
  · exact rmid R w s 13 d e1 n v hd he hn (by omega) (by kernel_rfl) rfl rfl rfl rfl rfl rfl rfl rfl x _ (rsw_13 R w s hB d e1 n v hd he hn (hn0 (by omega)) hv x)
  · exact rrk_14 R w s hB d e1 n v hd he hn x
  · exact rrk_15 R w s hB d e1 n v hd he hn x
  · exact rmid R w s 16 d e1 n v hd he hn (by omega) (by kernel_rfl) rfl rfl rfl rfl rfl rfl rfl rfl x _ (rsw_16 R w s hB d e1 n v hd he hn hv x)
  · exact rmid R w s 17 d e1 n v hd he hn (by omega) (by kernel_rfl) rfl rfl rfl rfl rfl rfl rfl rfl x _ (rsw_17 R w s hB d e1 n v hd he hn hv x)
  · exact rmid R w s 18 d e1 n v hd he hn (by omega) (by kernel_rfl) rfl rfl rfl rfl rfl rfl rfl rfl x _ (rsw_18 R w s hB d e1 n v hd he hn hv x)
  · exact rmid R w s 19 d e1 n v hd he hn (by omega) (by kernel_rfl) rfl rfl rfl rfl rfl rfl rfl rfl x _ (rsw_19 R w s hB d e1 n v hd he hn hv x)
  · exact rmid R w s 20 d e1 n v hd he hn (by omega) (by kernel_rfl) rfl rfl rfl rfl rfl rfl rfl rfl x _ (rsw_20 R w s hB d e1 n v hd he hn hv x)
  · exact rmid R w s 21 d e1 n v hd he hn (by omega) (by kernel_rfl) rfl rfl rfl rfl rfl rfl rfl rfl x _ (rsw_21 R w s hB d e1 n v hd he hn hv x)
  · exact rmid R w s 22 d e1 n v hd he hn (by omega) (by kernel_rfl) rfl rfl rfl rfl rfl rfl rfl rfl x _ (rsw_22 R w s hB d e1 n v hd he hn hv x)
  · exact rmid R w s 23 d e1 n v hd he hn (by omega) (by kernel_rfl) rfl rfl rfl rfl rfl rfl rfl rfl x _ (rsw_23 R w s hB d e1 n v hd he hn hv x)
  · exact rmid R w s 24 d e1 n v hd he hn (by omega) (by kernel_rfl) rfl rfl rfl rfl rfl rfl rfl rfl x _ (rsw_24 R w s hB d e1 n v hd he hn hv x)
  · exact rmid R w s 25 d e1 n v hd he hn (by omega) (by kernel_rfl) rfl rfl rfl rfl rfl rfl rfl rfl x _ (rsw_25 R w s hB d e1 n v hd he hn hv x)
  · exact rmid R w s 26 d e1 n v hd he hn (by omega) (by kernel_rfl) rfl rfl rfl rfl rfl rfl rfl rfl x _ (rsw_26 R w s hB d e1 n v hd he hn hv x)
  · exact rmid R w s 27 d e1 n v hd he hn (by omega) (by kernel_rfl) rfl rfl rfl rfl rfl rfl rfl rfl x _ (rsw_27 R w s hB d e1 n v hd he hn hv x)
  · exact rrk_28 R w s hB d e1 n v hd he hn x
  · exact rmid R w s 29 d e1 n v hd he hn (by omega) (by kernel_rfl) rfl rfl rfl rfl rfl rfl rfl rfl x _ (rsw_29 R w s hB d e1 n v hd he hn hv x)
  · exact rmid R w s 31 d e1 n v hd he hn (by omega) (by kernel_rfl) rfl rfl rfl rfl rfl rfl rfl rfl x _ (rsw_31 R w s hB d e1 n v hd he hn hv x)
theorem rW_0 (a : Int) : O.rW a 0 = 0 := by unfold O.rW; split <;> rfl
theorem rL_cases (a : Int) : (O.rLen a = 1 ∧ ∀ b, O.rW a b = 0) ∨ (O.rLen a = 2 ∧ ∀ b, O.rW a b = b) := by
  unfold O.rLen O.rW
  cases O.hasC (O.rk a) 119
  · exact Or.inl ⟨rfl, fun b => rfl⟩
  · exact Or.inr ⟨rfl, fun b => rfl⟩
theorem rstep_order (R : QS m B bs I T) (c : C.Cpu) (hc : c.ok) (w : World) (s : σ) (hI : I w s) (r : Bool) (hw : c.Waits = false) (hr : r = true → c.May = false) :
    Calls Tryz.prog 13 #[cpuV c, .agg #[gv bs, pv bs], .bool r] w (RP B I T w s (C.order m c s)) := by
  have hB := R.big hI
  have hpc := hc.2.2
  have ha := R.word s c.PC
  have h1 := fun W hW => rword_any R c.PC hpc.1 hpc.2 W s hW
  have hb2 := R.word (m.rdw s c.PC).2 ((c.PC + 2) % 65536)
  have h3 := fun W hW => rword_any R ((c.PC + 2) % 65536) (by omega) (by omega) W (m.rdw s c.PC).2 hW
  have eo : C.order m c s = C.act m ⟨(C.behind m c s).c, (C.behind m c s).s, K.cyc (O.rk (C.word1 m c s))⟩ (O.rk (C.word1 m c s)) (O.rD (C.word1 m c s)) (O.rS (C.word1 m c s)) (O.rN (C.word1 m c s)) (O.rW (C.word1 m c s) (C.word2 m c s)) := rfl
  unfold C.behind C.word2 at eo
  have ew : C.word1 m c s = (m.rdw s c.PC).1 := rfl
  rw [ew] at eo
  generalize (m.rdw s c.PC).1 = a at *
  generalize (m.rdw s c.PC).2 = s1 at *
  have h2 := fun W hW => orderOf_any a 0 ha (by omega) W hW
  obtain ⟨h32, h30, hop⟩ := rk_bd a ha
  have hd := rD_bd a
  have hs := rS_bd a
  have hn := rN_bd a
  have hn0 := rN_0 a
  rw [hop, rW_0] at h2
  obtain ⟨d, ed⟩ := Int.eq_ofNat_of_zero_le hd.1
  obtain ⟨e1, es⟩ := Int.eq_ofNat_of_zero_le hs.1
  rw [ed, es] at h2 eo
  rw [ed] at hd
  rw [es] at hs
  rcases rL_cases a with ⟨hl, hW⟩ | ⟨hl, hW⟩
  · rw [hl] at h2 eo
    rw [hW] at eo
    have ez : C.order m c s = C.act m ⟨{ c with PC := (c.PC + 2) % 65536 }, s1, K.cyc (O.rk a)⟩ (O.rk a) d e1 (O.rN a) 0 := by rw [eo]; rfl
    rw [ez]
    have hZ := rest_any R w s hB (O.rk a) h32 h30 d e1 (O.rN a) 0 (by omega) (by omega) hn (by omega) hn0 ⟨{ c with PC := (c.PC + 2) % 65536 }, s1, 0⟩
    cases r
    · exact rpre1_false R c hc w s s1 a hI hw h1 (O.rk a) d e1 (O.rN a) h32 h2 _ hZ
    · exact rpre1_true R c hc w s s1 a hI hw (hr rfl) h1 (O.rk a) d e1 (O.rN a) h32 h2 _ hZ
  · rw [hl] at h2 eo
    rw [hW] at eo
    have ez : C.order m c s = C.act m ⟨{ c with PC := (c.PC + 4) % 65536 }, (m.rdw s1 ((c.PC + 2) % 65536)).2, K.cyc (O.rk a)⟩ (O.rk a) d e1 (O.rN a) (m.rdw s1 ((c.PC + 2) % 65536)).1 := by rw [eo]; rfl
    rw [ez]
    have hZ := rest_any R w s hB (O.rk a) h32 h30 d e1 (O.rN a) (m.rdw s1 ((c.PC + 2) % 65536)).1 (by omega) (by omega) hn hb2 hn0 ⟨{ c with PC := (c.PC + 4) % 65536 }, (m.rdw s1 ((c.PC + 2) % 65536)).2, 0⟩
    cases r
    · exact rpre2_false R c hc w s s1 _ a _ hI hw h1 (O.rk a) d e1 (O.rN a) h32 h2 h3 hb2 _ hZ
    · exact rpre2_true R c hc w s s1 _ a _ hI hw (hr rfl) h1 (O.rk a) d e1 (O.rN a) h32 h2 h3 hb2 _ hZ
/-- The reference's step is a step. -/
theorem rstep_any (R : QS m B bs I T) (c : C.Cpu) (hc : c.ok) (w : World) (s : σ) (hI : I w s) (r : Bool) :
    Calls Tryz.prog 13 #[cpuV c, .agg #[gv bs, pv bs], .bool r] w (RP B I T w s (C.step m c s r)) := by
  cases r
  · cases hw : c.Waits
    · have e : C.step m c s false = C.order m c s := by unfold C.step; rw [hw]; rfl
      rw [e]
      exact rstep_order R c hc w s hI false hw (fun h => by cases h)
    · have e : C.step m c s false = ⟨c, s, 1⟩ := by unfold C.step; rw [hw]; rfl
      rw [e]
      exact rstep_waits0 R c hc w s hI hw
  · cases hm : c.May
    · cases hw : c.Waits
      · have e : C.step m c s true = C.order m c s := by unfold C.step; rw [hw, hm]; rfl
        rw [e]
        exact rstep_order R c hc w s hI true hw (fun _ => hm)
      · have e : C.step m c s true = ⟨c, s, 1⟩ := by unfold C.step; rw [hw, hm]; rfl
        rw [e]
        exact rstep_waits1 R c hc w s hI hm hw
    · have e : C.step m c s true = { C.leave m ⟨c, s, 0⟩ 2 with n := 6 } := by unfold C.step; rw [hm]; rfl
      rw [e]
      exact rstep_rung R c hc w s hI hm
end
theorem Facts.of_blocks {w w' : World} (h : Facts w) (e1 : w'.heap[0]? = w.heap[0]?) (e2 : w'.heap[5]? = w.heap[5]?) (e3 : w'.heap[2]? = w.heap[2]?) : Facts w' := by
  obtain ⟨t, ⟨m, hm⟩, s⟩ := h
  refine ⟨?_, ⟨m, (World.cell?_of_block (w := w) e2).trans hm⟩, s.of_block e3⟩
  unfold Lib.TabIs World.var? at t ⊢
  rw [g_space] at t ⊢
  simp only [Option.bind_some] at t ⊢
  rw [e1]
  exact t
structure SpQ (B sb bs : Nat) (vR vM : Value) (rom : List UInt8) (w : World) (ram : List UInt8) : Prop where
  p : SpP B sb bs vR vM rom w ram
  fx : Facts w
  ng : ∀ k, vM.ownBlock = some k → k ≠ 0 ∧ k ≠ 5
  la : 0 < w.heap.size
  lm : 5 < w.heap.size
def spU (sb bs : Nat) (vR vM : Value) (ram : List UInt8) (k : Nat) : Prop := spT sb vR vM ram k ∨ k = bs ∨ k = 0 ∨ k = 5
section
variable {B sb bs : Nat} {vR vM : Value} {rom ram : List UInt8} {w w' : World}
theorem SpQ.lt (h : SpQ B sb bs vR vM rom w ram) (k : Nat) (hk : spU sb bs vR vM ram k) : k < w.heap.size := by
  rcases hk with hk | rfl | rfl | rfl
  · exact h.p.sp.lt k hk
  · exact h.p.pcell.2
  · exact h.la
  · exact h.lm
theorem SpQ.keep (h : SpQ B sb bs vR vM rom w ram) (hs : w.heap.size ≤ w'.heap.size) (e : ∀ k, spU sb bs vR vM ram k → w'.heap[k]? = w.heap[k]?) : SpQ B sb bs vR vM rom w' ram :=
  ⟨⟨h.p.sp.keep hs (fun k hk => e k (Or.inl hk)), (e _ (Or.inr (Or.inl rfl))).trans h.p.ptr, h.p.nb⟩, h.fx.of_blocks (e _ (Or.inr (Or.inr (Or.inl rfl)))) (e _ (Or.inr (Or.inr (Or.inr rfl)))) (e _ (Or.inl (Or.inl rfl))), h.ng, Nat.lt_of_lt_of_le h.la hs, Nat.lt_of_lt_of_le h.lm hs⟩
theorem SpQ.kept (h : SpQ B sb bs vR vM rom w ram) (hb : Below w.heap.size w w') : SpQ B sb bs vR vM rom w' ram := h.keep hb.size (fun k hk => hb.block k (h.lt k hk))
end
theorem get_sp (B sb bs : Nat) (vR vM : Value) (rom ram : List UInt8) (a : Int) (ha : 0 ≤ a) (ha' : a ≤ 65535) (w : World) (h : SpQ B sb bs vR vM rom w ram) :
    Calls Tryz.prog 34 #[.int .u16 a, .pointer (some ⟨bs, 0, none⟩)] w fun e w' => e = .returned (.int .u8 ((spc rom).rd ram a).1) ∧ SpQ B sb bs vR vM rom w' ram ∧ Mv B (spU sb bs vR vM ram) (spU sb bs vR vM ram) w w' := by
  have fin : ∀ {e : Ending} {w' : World} {x : Int}, (e = .returned (.int .u8 x) ∧ Below w.heap.size w w') → e = .returned (.int .u8 x) ∧ SpQ B sb bs vR vM rom w' ram ∧ Mv B (spU sb bs vR vM ram) (spU sb bs vR vM ram) w w' := fun hh => ⟨hh.1, h.kept hh.2, Mv.of_below h.p.sp.big hh.2⟩
  unfold spc
  simp only
  cases hr : inRom rom.length a
  · rw [if_neg (by simp)]
    cases hm : inRam ram.length a
    · rw [if_neg (by simp)]
      exact (get_none B sb bs vR vM rom ram a ha ha' hr hm w h.p).mono fun e w' hh => fin hh
    · rw [if_pos rfl]
      exact (get_ram B sb bs vR vM rom ram a ha ha' hm w h.p).mono fun e w' hh => fin hh
  · rw [if_pos rfl]
    exact (get_rom B sb bs vR vM rom ram a ha ha' hr w h.p).mono fun e w' hh => fin hh
theorem put_sp (B sb bs : Nat) (vR vM : Value) (rom ram : List UInt8) (a b : Int) (ha : 0 ≤ a) (ha' : a ≤ 65535) (hb0 : 0 ≤ b) (hb1 : b ≤ 255) (w : World) (h : SpQ B sb bs vR vM rom w ram) :
    Calls Tryz.prog 35 #[.int .u16 a, .int .u8 b, .pointer (some ⟨bs, 0, none⟩)] w fun e w' => e = .returned (.tuple #[]) ∧ SpQ B sb bs vR vM rom w' ((spc rom).wr ram a b) ∧ Mv B (spU sb bs vR vM ram) (spU sb bs vR vM ((spc rom).wr ram a b)) w w' := by
  unfold spc
  simp only
  cases hm : inRam ram.length a
  · rw [if_neg (by simp)]
    exact (put_none B sb bs vR vM rom ram a b ha ha' hm w h.p).mono fun e w' hh => ⟨hh.1, h.kept hh.2, Mv.of_below h.p.sp.big hh.2⟩
  · rw [if_pos rfl]
    refine (put_ram B sb bs vR vM rom ram a b ha ha' hb0 hb1 hm w h.p).mono fun e w' hh => ?_
    obtain ⟨he, hsp, hmv, hbl⟩ := hh
    have nb : vM.ownBlock ≠ some bs := fun e => h.p.nb bs e rfl
    have na : vM.ownBlock ≠ some 0 := fun e => (h.ng _ e).1 rfl
    have nm : vM.ownBlock ≠ some 5 := fun e => (h.ng _ e).2 rfl
    have ns : vM.ownBlock ≠ some 2 := fun e => (h.p.sp.ne _ e).2.2 rfl
    refine ⟨he, ⟨⟨hsp, (hbl bs nb h.p.pcell.2).trans h.p.ptr, h.p.nb⟩, h.fx.of_blocks (hbl _ na h.la) (hbl _ nm h.lm) (hbl _ ns h.p.sp.shapes.lt), h.ng, Nat.lt_of_lt_of_le h.la hmv.size, Nat.lt_of_lt_of_le h.lm hmv.size⟩, ?_⟩
    exact ⟨hmv.below, fun k hk ht => hmv.block k hk (fun x => ht (Or.inl x)), fun k hk => Or.inl hk⟩
theorem space_qs (B sb bs : Nat) (vR vM : Value) (rom : List UInt8) : QS (spc rom) B bs (SpQ B sb bs vR vM rom) (spU sb bs vR vM) where
  lt := fun h k hk => h.lt k hk
  keep := fun h hs e => h.keep hs e
  facts := fun h => h.fx
  byte := fun s a => spc_byte rom s a
  big := fun h => h.p.sp.big
  get := fun w s a ha ha' h => get_sp B sb bs vR vM rom s a ha ha' w h
  put := fun w s a b ha ha' hb hb' h => put_sp B sb bs vR vM rom s a b ha ha' hb hb' w h
set_option maxRecDepth 100000 in
theorem spaceMem_any (sb : Nat) (w : World) : Calls Tryz.prog 14 #[.pointer (some ⟨sb, 0, none⟩)] w fun e w' => e = .returned (.agg #[gv w.heap.size, pv w.heap.size]) ∧ w'.heap[w.heap.size]? = some (.cells #[.pointer (some ⟨sb, 0, none⟩)] 44 (0, 0)) ∧ Below w.heap.size w w' := by
  go_enter Tryz.func14, Tryz.ntmps14
  go_wp2
  refine bodyPost_ret (v := .agg #[gv w.heap.size, pv w.heap.size]) (by simp [results, Tryz.results14, go_sem]) rfl ⟨rfl, ?_, stA (stA (st0 w) _) _⟩
  exact (heap_alloc_old _ _ (by simp)).trans (heap_alloc_new w _)
set_option maxRecDepth 100000 in
theorem checkSp_any (a1 a2 : Option Addr) (n1 n2 k1 k2 : Nat) (w : World) : Calls Tryz.prog 9 #[.agg #[.slice a1 n1 k1, .slice a2 n2 k2]] w fun e w' => e = .returned (.int .i64 (if 1024 < n1 ∨ 256 < n2 then 2 else 0)) ∧ Below w.heap.size w w' := by
  by_cases h1 : 1024 < n1
  · have h1' : (1024 : Int) < n1 := by omega
    rw [if_pos (Or.inl h1)]
    go_enter Tryz.func9, Tryz.ntmps9
    go_wp2
    go_ret
    exact ⟨rfl, stA (st0 w) _⟩
  · have h1' : ¬ (1024 : Int) < n1 := by omega
    by_cases h2 : 256 < n2
    · have h2' : (256 : Int) < n2 := by omega
      rw [if_pos (Or.inr h2)]
      go_enter Tryz.func9, Tryz.ntmps9
      go_wp2
      go_ret
      exact ⟨rfl, stA (st0 w) _⟩
    · have h2' : ¬ (256 : Int) < n2 := by omega
      rw [if_neg (fun h => h.elim h1 h2)]
      go_enter Tryz.func9, Tryz.ntmps9
      go_wp2
      go_ret
      exact ⟨rfl, stA (st0 w) _⟩
/-- The law's boxes: the processor, the space and its copy. -/
structure Cs1 (w : World) (bo : Nat) (c : C.Cpu) (v1 v2 o1 o2 : Value) (rom ram : List UInt8) (W : World) : Prop where
  low : Below w.heap.size w W
  cc : Cat W w.heap.size c
  ss : Sat W (w.heap.size + 1) v1 v2
  oo : Sat W bo o1 o2
  r1 : sliceAt W v1 rom
  r2 : sliceAt W v2 ram
  q1 : sliceAt W o1 rom
  q2 : sliceAt W o2 ram
  fx : Facts W
theorem Cs1.kept {w W w1 : World} {bo : Nat} {c : C.Cpu} {v1 v2 o1 o2 : Value} {rom ram : List UInt8} (h : Cs1 w bo c v1 v2 o1 o2 rom ram W) (hb : Below W.heap.size W w1) : Cs1 w bo c v1 v2 o1 o2 rom ram w1 :=
  ⟨stp h.low hb, h.cc.kept hb, h.ss.kept hb, h.oo.kept hb, h.r1.kept hb, h.r2.kept hb, h.q1.kept hb, h.q2.kept hb, h.fx.kept hb⟩
/-- And what came of the step. -/
structure Cs2 (w : World) (bo bd bu : Nat) (c : C.Cpu) (v1 v2 o1 o2 : Value) (rom ram : List UInt8) (y : C.Cpu) (x1 x2 : Value) (l1 l2 : List UInt8) (W : World) : Prop extends Cs1 w bo c v1 v2 o1 o2 rom ram W where
  dd : Cat W bd y
  uu : Sat W bu x1 x2
  u1 : sliceAt W x1 l1
  u2 : sliceAt W x2 l2
theorem Cs2.kept {w W w1 : World} {bo bd bu : Nat} {c y : C.Cpu} {v1 v2 o1 o2 x1 x2 : Value} {rom ram l1 l2 : List UInt8} (h : Cs2 w bo bd bu c v1 v2 o1 o2 rom ram y x1 x2 l1 l2 W) (hb : Below W.heap.size W w1) : Cs2 w bo bd bu c v1 v2 o1 o2 rom ram y x1 x2 l1 l2 w1 :=
  ⟨h.toCs1.kept hb, h.dd.kept hb, h.uu.kept hb, h.u1.kept hb, h.u2.kept hb⟩
theorem cs2all {w W : World} {bo bd bu : Nat} {c y : C.Cpu} {v1 v2 o1 o2 x1 x2 : Value} {rom ram l1 l2 : List UInt8} (h : Cs2 w bo bd bu c v1 v2 o1 o2 rom ram y x1 x2 l1 l2 W) : W.cell? ⟨w.heap.size, 0, none⟩ = some (.int .u16 (c.r 0)) ∧ W.cell? ⟨w.heap.size, 1, none⟩ = some (.int .u16 (c.r 1)) ∧ W.cell? ⟨w.heap.size, 2, none⟩ = some (.int .u16 (c.r 2)) ∧ W.cell? ⟨w.heap.size, 3, none⟩ = some (.int .u16 (c.r 3)) ∧ W.cell? ⟨w.heap.size, 4, none⟩ = some (.int .u16 (c.r 4)) ∧ W.cell? ⟨w.heap.size, 5, none⟩ = some (.int .u16 (c.r 5)) ∧ W.cell? ⟨w.heap.size, 6, none⟩ = some (.int .u16 (c.r 6)) ∧ W.cell? ⟨w.heap.size, 7, none⟩ = some (.int .u16 (c.r 7)) ∧ W.cell? ⟨w.heap.size, 8, none⟩ = some (.int .u16 c.PC) ∧ W.cell? ⟨w.heap.size, 9, none⟩ = some (.bool c.Z) ∧ W.cell? ⟨w.heap.size, 10, none⟩ = some (.bool c.N) ∧ W.cell? ⟨w.heap.size, 11, none⟩ = some (.bool c.C) ∧ W.cell? ⟨w.heap.size, 12, none⟩ = some (.bool c.V) ∧ W.cell? ⟨w.heap.size, 13, none⟩ = some (.bool c.May) ∧ W.cell? ⟨w.heap.size, 14, none⟩ = some (.bool c.Waits) ∧ W.cell? ⟨w.heap.size + 1, 0, none⟩ = some v1 ∧ W.cell? ⟨w.heap.size + 1, 1, none⟩ = some v2 ∧ W.cell? ⟨bo, 0, none⟩ = some o1 ∧ W.cell? ⟨bo, 1, none⟩ = some o2 ∧ Cs2 w bo bd bu c v1 v2 o1 o2 rom ram y x1 x2 l1 l2 W := by
  obtain ⟨q0, q1, q2, q3, q4, q5, q6, q7, q8, q9, q10, q11, q12, q13, q14⟩ := h.cc.all
  exact ⟨q0, q1, q2, q3, q4, q5, q6, q7, q8, q9, q10, q11, q12, q13, q14, h.ss.c0, h.ss.c1, h.oo.c0, h.oo.c1, h⟩
theorem cs2keep {w W w1 : World} {bo bd bu : Nat} {c y : C.Cpu} {v1 v2 o1 o2 x1 x2 : Value} {rom ram l1 l2 : List UInt8} (h : W.cell? ⟨w.heap.size, 0, none⟩ = some (.int .u16 (c.r 0)) ∧ W.cell? ⟨w.heap.size, 1, none⟩ = some (.int .u16 (c.r 1)) ∧ W.cell? ⟨w.heap.size, 2, none⟩ = some (.int .u16 (c.r 2)) ∧ W.cell? ⟨w.heap.size, 3, none⟩ = some (.int .u16 (c.r 3)) ∧ W.cell? ⟨w.heap.size, 4, none⟩ = some (.int .u16 (c.r 4)) ∧ W.cell? ⟨w.heap.size, 5, none⟩ = some (.int .u16 (c.r 5)) ∧ W.cell? ⟨w.heap.size, 6, none⟩ = some (.int .u16 (c.r 6)) ∧ W.cell? ⟨w.heap.size, 7, none⟩ = some (.int .u16 (c.r 7)) ∧ W.cell? ⟨w.heap.size, 8, none⟩ = some (.int .u16 c.PC) ∧ W.cell? ⟨w.heap.size, 9, none⟩ = some (.bool c.Z) ∧ W.cell? ⟨w.heap.size, 10, none⟩ = some (.bool c.N) ∧ W.cell? ⟨w.heap.size, 11, none⟩ = some (.bool c.C) ∧ W.cell? ⟨w.heap.size, 12, none⟩ = some (.bool c.V) ∧ W.cell? ⟨w.heap.size, 13, none⟩ = some (.bool c.May) ∧ W.cell? ⟨w.heap.size, 14, none⟩ = some (.bool c.Waits) ∧ W.cell? ⟨w.heap.size + 1, 0, none⟩ = some v1 ∧ W.cell? ⟨w.heap.size + 1, 1, none⟩ = some v2 ∧ W.cell? ⟨bo, 0, none⟩ = some o1 ∧ W.cell? ⟨bo, 1, none⟩ = some o2 ∧ Cs2 w bo bd bu c v1 v2 o1 o2 rom ram y x1 x2 l1 l2 W) (hb : Below W.heap.size W w1) : w1.cell? ⟨w.heap.size, 0, none⟩ = some (.int .u16 (c.r 0)) ∧ w1.cell? ⟨w.heap.size, 1, none⟩ = some (.int .u16 (c.r 1)) ∧ w1.cell? ⟨w.heap.size, 2, none⟩ = some (.int .u16 (c.r 2)) ∧ w1.cell? ⟨w.heap.size, 3, none⟩ = some (.int .u16 (c.r 3)) ∧ w1.cell? ⟨w.heap.size, 4, none⟩ = some (.int .u16 (c.r 4)) ∧ w1.cell? ⟨w.heap.size, 5, none⟩ = some (.int .u16 (c.r 5)) ∧ w1.cell? ⟨w.heap.size, 6, none⟩ = some (.int .u16 (c.r 6)) ∧ w1.cell? ⟨w.heap.size, 7, none⟩ = some (.int .u16 (c.r 7)) ∧ w1.cell? ⟨w.heap.size, 8, none⟩ = some (.int .u16 c.PC) ∧ w1.cell? ⟨w.heap.size, 9, none⟩ = some (.bool c.Z) ∧ w1.cell? ⟨w.heap.size, 10, none⟩ = some (.bool c.N) ∧ w1.cell? ⟨w.heap.size, 11, none⟩ = some (.bool c.C) ∧ w1.cell? ⟨w.heap.size, 12, none⟩ = some (.bool c.V) ∧ w1.cell? ⟨w.heap.size, 13, none⟩ = some (.bool c.May) ∧ w1.cell? ⟨w.heap.size, 14, none⟩ = some (.bool c.Waits) ∧ w1.cell? ⟨w.heap.size + 1, 0, none⟩ = some v1 ∧ w1.cell? ⟨w.heap.size + 1, 1, none⟩ = some v2 ∧ w1.cell? ⟨bo, 0, none⟩ = some o1 ∧ w1.cell? ⟨bo, 1, none⟩ = some o2 ∧ Cs2 w bo bd bu c v1 v2 o1 o2 rom ram y x1 x2 l1 l2 w1 := by
  obtain ⟨_, _, _, _, _, _, _, _, _, _, _, _, _, _, _, _, _, _, _, h⟩ := h
  exact cs2all (h.kept hb)
theorem Cs2.drew {w W : World} {bo bd bu : Nat} {c y : C.Cpu} {v1 v2 o1 o2 x1 x2 : Value} {rom ram l1 l2 : List UInt8} (h : Cs2 w bo bd bu c v1 v2 o1 o2 rom ram y x1 x2 l1 l2 W) : Cs2 w bo bd bu c v1 v2 o1 o2 rom ram y x1 x2 l1 l2 W.drew := h.kept (st0 W).drew
theorem facts_lt {w : World} (h : Facts w) : 0 < w.heap.size ∧ 5 < w.heap.size ∧ 2 < w.heap.size := by
  obtain ⟨t, ⟨m, hm⟩, s⟩ := h
  refine ⟨?_, World.block_lt_of_cell? w _ hm, World.block_lt_of_cell? w _ (s 0 (by decide)).1⟩
  unfold Lib.TabIs World.var? at t
  rw [g_space] at t
  simp only [Option.bind_some] at t
  by_cases hlt : 0 < w.heap.size
  · exact hlt
  · rw [Array.getElem?_eq_none (Nat.le_of_not_lt hlt)] at t
    cases t
theorem boxN {w : World} {b : Nat} {cs : Array Value} {t : TypeId} (h : w.heap[b]? = some (.cells cs t (0, 0))) : (∀ i, w.cell? ⟨b, i, none⟩ = cs[i]?) ∧ (∀ i, w.frozen? ⟨b, i, none⟩ = false) ∧ b < w.heap.size :=
  ⟨fun i => Lib.cell_of_heap h i, fun i => Lib.frozen_of_heap h i, (Array.getElem?_eq_some_iff.1 h).1⟩
/-- Its copy, behind whatever there was at W4. -/
structure X8 (W4 : World) (bx : Nat) (vR vM : Value) (rom ram : List UInt8) (W : World) : Prop where
  lo : Below W4.heap.size W4 W
  box : W.heap[bx]? = some (.cells #[vR, vM] 28 (0, 0))
  rows : Cop W4.heap.size rom ram W vR vM
  bxB : W4.heap.size ≤ bx
  ne : ∀ k, vM.ownBlock = some k → k ≠ bx
section
variable {W4 W8 W W' w1 : World} {bx bs : Nat} {vR vM : Value} {rom ram : List UInt8}
theorem X8.z (h : X8 W4 bx vR vM rom ram W) : bx < W.heap.size := (Array.getElem?_eq_some_iff.1 h.box).1
theorem X8.kept (h : X8 W4 bx vR vM rom ram W) (hb : Below W.heap.size W w1) : X8 W4 bx vR vM rom ram w1 :=
  ⟨stp h.lo hb, (hb.block bx h.z).trans h.box, ⟨own_kept h.rows.1 hb, own_kept h.rows.2.1 hb, h.rows.2.2⟩, h.bxB, h.ne⟩
/-- Behind SpaceMem. -/
theorem X8.sp (h : X8 W4 bx vR vM rom ram W) (hf : Facts W4) (hfew : rom.length ≤ 1024 ∧ ram.length ≤ 256) (hptr : w1.heap[W.heap.size]? = some (.cells #[.pointer (some ⟨bx, 0, none⟩)] 44 (0, 0))) (hb : Below W.heap.size W w1) : SpQ W4.heap.size bx W.heap.size vR vM rom w1 ram := by
  have h1 := h.kept hb
  obtain ⟨la, lm, ls⟩ := facts_lt hf
  have hs := h.lo.size
  have hs1 := h1.lo.size
  have hk : ∀ k, vM.ownBlock = some k → W4.heap.size ≤ k ∧ k < W.heap.size := fun k hk => h.rows.2.1.lt k hk
  refine ⟨⟨⟨(hf.kept h1.lo).shapes, hs1, h1.box, h1.rows.1, h1.rows.2.1, fun k hk' => ⟨h1.rows.2.2 k hk', h1.ne k hk', ?_⟩, hfew⟩, hptr, fun k hk' => ?_⟩, hf.kept h1.lo, fun k hk' => ⟨?_, ?_⟩, ?_, ?_⟩
  · have := hk k hk'; omega
  · have := hk k hk'; omega
  · have := hk k hk'; omega
  · have := hk k hk'; omega
  · omega
  · omega
theorem X8.free (h : X8 W4 bx vR vM rom ram W) (hf : Facts W4) {l : List UInt8} {b : Nat} (hb : W.heap.size ≤ b) (hn : b ≠ bs) : ¬ spU bx bs vR vM l b := by
  obtain ⟨la, lm, ls⟩ := facts_lt hf
  have hs := h.lo.size
  rintro (hk | rfl | rfl | rfl)
  · rcases hk with rfl | rfl | hk | hk
    · omega
    · have := h.z; omega
    · have := (h.rows.1.lt b hk).2; omega
    · have := (h.rows.2.1.lt b hk).2; omega
  · exact hn rfl
  · omega
  · omega
/-- What StepOf leaves as it was. -/
theorem X8.out (h : X8 W4 bx vR vM rom ram W) (hf : Facts W4) {T' : Nat → Prop} {B : Nat} {w2 : World} (hm : Mv B (spU bx bs vR vM ram) T' w1 w2) {b : Nat} (hb : W.heap.size ≤ b) (hn : b ≠ bs) (hlt : b < w1.heap.size) : w2.heap[b]? = w1.heap[b]? :=
  hm.block b hlt (h.free hf hb hn)
end
theorem bl_sets {n b : Nat} {a : World} (hb : n ≤ b) : ∀ (vs : List Value) (o : Nat) {w : World}, Below n a w → Below n a (w.setCells b o vs)
  | [], o, w, h => h
  | v :: vs, o, w, h => bl_sets hb vs (o + 1) (h.setCell hb v)
theorem sets_size (b : Nat) : ∀ (vs : List Value) (o : Nat) (w : World), (w.setCells b o vs).heap.size = w.heap.size
  | [], o, w => rfl
  | v :: vs, o, w => (sets_size b vs (o + 1) _).trans (by simp)
theorem sets_far (b k : Nat) (hk : k ≠ b) : ∀ (vs : List Value) (o : Nat) (w : World), (w.setCells b o vs).heap[k]? = w.heap[k]?
  | [], o, w => rfl
  | v :: vs, o, w => (sets_far b k hk vs (o + 1) _).trans (Below.heap_setCell w ⟨b, o, none⟩ v k hk)
theorem SpQ.sets {B sb bs : Nat} {vR vM : Value} {rom ram : List UInt8} {w : World} (h : SpQ B sb bs vR vM rom w ram) {b : Nat} (hb : ¬ spU sb bs vR vM ram b) (o : Nat) (vs : List Value) : SpQ B sb bs vR vM rom (w.setCells b o vs) ram :=
  h.keep (Nat.le_of_eq (sets_size b vs o w).symm) (fun k hk => sets_far b k (fun e => hb (e ▸ hk)) vs o w)
/-- A processor's cells. -/
def c15 (c : C.Cpu) : List Value := [.int .u16 (c.r 0), .int .u16 (c.r 1), .int .u16 (c.r 2), .int .u16 (c.r 3), .int .u16 (c.r 4), .int .u16 (c.r 5), .int .u16 (c.r 6), .int .u16 (c.r 7), .int .u16 c.PC, .bool c.Z, .bool c.N, .bool c.C, .bool c.V, .bool c.May, .bool c.Waits]
theorem nest15 (W : World) (b : Nat) (c : C.Cpu) : (((((((((((((((W.setCell ⟨b, 0, none⟩ (.int .u16 (c.r 0))).setCell ⟨b, 1, none⟩ (.int .u16 (c.r 1))).setCell ⟨b, 2, none⟩ (.int .u16 (c.r 2))).setCell ⟨b, 3, none⟩ (.int .u16 (c.r 3))).setCell ⟨b, 4, none⟩ (.int .u16 (c.r 4))).setCell ⟨b, 5, none⟩ (.int .u16 (c.r 5))).setCell ⟨b, 6, none⟩ (.int .u16 (c.r 6))).setCell ⟨b, 7, none⟩ (.int .u16 (c.r 7))).setCell ⟨b, 8, none⟩ (.int .u16 c.PC)).setCell ⟨b, 9, none⟩ (.bool c.Z)).setCell ⟨b, 10, none⟩ (.bool c.N)).setCell ⟨b, 11, none⟩ (.bool c.C)).setCell ⟨b, 12, none⟩ (.bool c.V)).setCell ⟨b, 13, none⟩ (.bool c.May)).setCell ⟨b, 14, none⟩ (.bool c.Waits)) = W.setCells b 0 (c15 c) := rfl
theorem cat_set {W : World} {b : Nat} (c : C.Cpu) (h : W.heap[b]? = some (.cells #[.int .u16 0, .int .u16 0, .int .u16 0, .int .u16 0, .int .u16 0, .int .u16 0, .int .u16 0, .int .u16 0, .int .u16 0, .bool false, .bool false, .bool false, .bool false, .bool false, .bool false] 25 (0, 0))) : Cat (W.setCells b 0 (c15 c)) b c := by
  obtain ⟨n1, n2, n3⟩ := boxN h
  refine ⟨by rw [sets_size]; exact n3, fun j => ?_⟩
  by_cases hj : j < 15
  · have hr := World.rangeAt_setCells_same W b 0 (c15 c) (fun i hi => ⟨by rw [Nat.zero_add, n1 i, Array.getElem?_eq_getElem (by simpa [c15] using hi)]; rfl, n2 _⟩)
    have hx : (c15 c)[j]? = (#[.int .u16 (c.r 0), .int .u16 (c.r 1), .int .u16 (c.r 2), .int .u16 (c.r 3), .int .u16 (c.r 4), .int .u16 (c.r 5), .int .u16 (c.r 6), .int .u16 (c.r 7), .int .u16 c.PC, .bool c.Z, .bool c.N, .bool c.C, .bool c.V, .bool c.May, .bool c.Waits] : Array Value)[j]? := by unfold c15; simp
    have hs : ((#[.int .u16 (c.r 0), .int .u16 (c.r 1), .int .u16 (c.r 2), .int .u16 (c.r 3), .int .u16 (c.r 4), .int .u16 (c.r 5), .int .u16 (c.r 6), .int .u16 (c.r 7), .int .u16 c.PC, .bool c.Z, .bool c.N, .bool c.C, .bool c.V, .bool c.May, .bool c.Waits] : Array Value)[j]?).isSome := by rw [Array.getElem?_eq_getElem (by simpa using hj)]; rfl
    obtain ⟨v, hv⟩ := Option.isSome_iff_exists.1 hs
    rw [hv]
    have := hr j v (hx.trans hv)
    rwa [Nat.zero_add] at this
  · rw [Array.getElem?_eq_none (by simp; omega)]
    have ho : ∀ (vs : List Value) (o : Nat) (w : World), o + vs.length ≤ j → (w.setCells b o vs).cell? ⟨b, j, none⟩ = w.cell? ⟨b, j, none⟩ := by
      intro vs
      induction vs with
      | nil => intro o w _; rfl
      | cons v vs ih =>
        intro o w hl
        simp only [List.length_cons] at hl
        exact (ih (o + 1) _ (by omega)).trans (World.cell?_setCell_other _ _ _ _ (by intro x; have := congrArg Addr.off x; simp at this; omega))
    rw [ho _ 0 W (by simp [c15]; omega), n1, Array.getElem?_eq_none (by simp; omega)]
theorem info_cpu15 : (Tryz.prog.info? 25).map (·.size) = some 15 := by kernel_rfl
theorem Cat.rng {W : World} {b : Nat} {c : C.Cpu} (h : Cat W b c) : W.rangeAt b 0 (c15 c) := fun j v hj => by
  rw [Nat.zero_add, h.q j, ← hj]
  unfold c15
  simp
/-- A guarded load of a processor. -/
theorem ldGc {ops : Array Oper} {rest : List Oper} {op : Oper} {a : Act} {w : World} {Q : Exit → Act → World → Prop} (hw : Region.wanted op (yielded ops a.tmps) = true) (x : Operand) (ho : op.op = .load 25 x)
    (b : Nat) (c : C.Cpu) (hx : a.eval x = .pointer (some ⟨b, 0, none⟩)) (hb : Cat w b c)
    (h : wpList Tryz.prog ops Q rest (a.put op.dst (cpuV c)) w) : wpList Tryz.prog ops Q (op :: rest) a w :=
  wpList_step fun K hK => by rw [if_pos hw]; exact wp_load_mid 25 x ho b 0 hx (c15 c) _ hb.rng Tryz.underlying25 rfl info_cpu15 (hK _ _ h)
theorem lits_len (k : IntKind) (zs : List Int) {H : Type} : (lits (H := H) k zs).length = zs.length := by simp [lits]
theorem bytes_len {H : Type} {enc : TypeId × Value → H} {W : World} {v : Value} {x : DataW H × List MemPlace} {fuel : Nat} (hf : DataW.trod enc Tryz.prog W 0 (fun _ => true) true fuel 26 [v] = some x) (hw : ∀ n ∈ x.1.weights Tryz.prog 26, n ≤ reachBytes) : ∃ l, sliceAt W v l ∧ l.length ≤ reachBytes := by
  have c1 : Tryz.prog.cellsOf 5 = 1 := by kernel_rfl
  have b1 : Tryz.prog.bytesOf 5 = 1 := by kernel_rfl
  obtain ⟨l, hl, _⟩ := bytes_of Tryz.underlying26 hf
  refine ⟨l, hl, ?_⟩
  rcases open_ints Tryz.underlying26 Tryz.underlying5 c1 hf with ⟨hc, _⟩ | ⟨ad, len', cap', zs, hc, _, hle, hm, hz, hx, hcell, hwf⟩
  · simp only [List.cons.injEq, and_true] at hc
    obtain ⟨a, c, hv⟩ := slice_len hl
    rw [hc] at hv
    simp only [Value.slice.injEq] at hv
    rw [← hv.2.1]; exact Nat.zero_le _
  · simp only [List.cons.injEq, and_true] at hc
    obtain ⟨a, c, hv⟩ := slice_len hl
    rw [hc] at hv
    simp only [Value.slice.injEq] at hv
    rw [← hv.2.1]
    simp only [if_true] at hz
    have := hw (((lits (H := H) .u8 (zs.take len')).length + (lits (H := H) .u8 (zs.drop len')).length) * Tryz.prog.bytesOf 5) (by rw [hx]; simp [DataW.weights, Tryz.underlying26])
    rw [lits_len, lits_len, b1, List.length_take, List.length_drop] at this
    omega
set_option maxRecDepth 100000 in
theorem open_spaceW {H : Type} {enc : TypeId × Value → H} {w : World} {r : Reach} {bb : Nat} {v : Value} {d : DataW H} {p : List MemPlace}
    (hv : Value.okWide Tryz.prog w r bb 28 v) (h : DataW.Trod enc Tryz.prog w 0 (fun _ => true) true 28 v d p) (hw : ∀ n ∈ d.weights Tryz.prog 28, n ≤ reachBytes) : ∃ v1 v2 rom ram, v = .agg #[v1, v2] ∧ sliceAt w v1 rom ∧ sliceAt w v2 ram ∧ rom.length ≤ 140737488355328 ∧ ram.length ≤ 140737488355328 := by
  have hC : Tryz.prog.cellsOf 28 = 2 := by kernel_rfl
  have hU : Tryz.prog.cellsOf 26 = 1 := by kernel_rfl
  obtain ⟨cs, rfl, hsz⟩ := okWide_struct Tryz.underlying28 hv
  obtain ⟨c0, c1, rfl⟩ := cells2 (hsz.trans hC)
  obtain ⟨fuel, hf⟩ := h
  obtain ⟨xs, n, _, hx, _, hlen, hfs⟩ := DataW.trod_struct Tryz.underlying28 hf
  match xs, hlen with
  | [y0, y1], _ =>
    simp only [Prod.mk.injEq] at hx
    have g0 : DataW.trod enc Tryz.prog w 0 (fun _ => true) true n 26 [c0] = some y0 := by
      have := hfs 0 _ rfl
      simpa [Value.cells, hU] using this
    have g1 : DataW.trod enc Tryz.prog w 0 (fun _ => true) true n 26 [c1] = some y1 := by
      have := hfs 1 _ rfl
      simpa [Value.cells, hU] using this
    have hwe : d.weights Tryz.prog 28 = y0.1.weights Tryz.prog 26 ++ (y1.1.weights Tryz.prog 26 ++ []) := by
      rw [hx.1]
      simp [DataW.weights, Tryz.underlying28, DataW.weightsEach]
    obtain ⟨rom, hr, hr'⟩ := bytes_len g0 (fun k hk => hw k (by rw [hwe]; exact List.mem_append_left _ hk))
    obtain ⟨ram, hm, hm'⟩ := bytes_len g1 (fun k hk => hw k (by rw [hwe]; exact List.mem_append_right _ (List.mem_append_left _ hk)))
    have hR := reachBytes_lt
    exact ⟨c0, c1, rom, ram, rfl, hr, hm, by omega, by omega⟩
end Go.Proofs.YtombboeonffejaaGreatDoor
