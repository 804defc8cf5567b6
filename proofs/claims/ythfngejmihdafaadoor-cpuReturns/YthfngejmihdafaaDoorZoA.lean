/-
  A map keyed by bool; a run goes on as its last processor steps, as plain data; boxes; Run's errors (the texts BMap, CpuOnA, ZqR in one).
-/
import Derived.Test.YthfngejmihdafaaDoorFlMap
import Derived.Test.YthfngejmihdafaaDoorZqB
import Derived.Test.YthfngejmihdafaaDoorZqA
namespace Go.Proofs.YthfngejmihdafaaDoor
open Go.ChangeShapes Go.WideShapes Go.ChangeAt Go.RowKit
set_option linter.unusedVariables false

/-- Block b of w is a map that holds true alone, with this element. -/
def bmapAt (w : World) (b : Nat) (v : Value) : Prop := ∃ n c, w.heap[b]? = some (.map #[{ key := .bool true, val := v, born := n }] c)
theorem bmapAt.lt {w : World} {b : Nat} {v : Value} (h : bmapAt w b v) : b < w.heap.size := by
  obtain ⟨n, c, hb⟩ := h
  exact (Array.getElem?_eq_some_iff.1 hb).1
theorem binsert_run {P : Program} {t k e : TypeId} (ht : P.underlying t = some (.map k e)) (hk : P.underlying k = some .bool) {w : World} {b c : Nat} (hb : w.heap[b]? = some (.map #[] c)) (v : Value) :
    ∃ w', (Instr.mapUpdate t (.map (some b)) (.bool true) v).run P w = .ok () w' ∧ bmapAt w' b v ∧ Stored w w' b := by
  have hc : (Instr.checkKey false 10000 k (.bool true)).run P w = .ok () w := MapKept.run_checkKey (k := .bool true) hk (by simp [MapKept.IsKey]) false 9999
  have h1 : Instr.findNow .bool (.bool true) (#[] : Array MapEntry).toList 0 = some none := rfl
  refine ⟨{ w with heap := w.heap.setIfInBounds b (.map ((#[] : Array MapEntry).push { key := .bool true, val := v, born := c }) (c + 1)) }, ?_, ?_, stored_setBlock hb _ _⟩
  · simp [Instr.mapUpdate, run_underlying ht, MapKept.run_getObj_map hb, hc, MapKept.run_findKey hk h1, MapKept.run_setObj_map _ hb, Result.andThen]
  · exact ⟨_, _, (MapKept.heap_set hb).1⟩
theorem wpList_binsert {P : Program} (w : World) {ops : Array Oper} {rest : List Oper} {o : Oper} {a : Act} {Q : Exit → Act → World → Prop}
    (hg : o.guard = none) (m x v : Operand) (t : TypeId) (hop : o.op = Op.insert t m x v) (k e : TypeId) (ht : P.underlying t = some (.map k e)) (hk : P.underlying k = some .bool)
    (b c : Nat) (hm : a.eval m = .map (some b)) (hb : w.heap[b]? = some (.map #[] c)) (val : Value) (hx : a.eval x = .bool true) (hv : a.eval v = val)
    (hK : ∀ w', bmapAt w' b val → Stored w w' b → wpList P ops Q rest (a.put o.dst undef) w') : wpList P ops Q (o :: rest) a w := by
  refine wpList_plain hg fun K' hK' => ?_
  obtain ⟨w', hrun, r1, r2⟩ := binsert_run ht hk hb val
  unfold Oper.wp
  simp [execOp, hop, hm, hx, hv, hrun, Result.andThen]
  exact hK' _ _ (hK w' r1 r2)
/-- One of two values. -/
def bsel (x : Bool) (v z : Value) : Value := if x then v else z
theorem blookup_run {P : Program} {t k e : TypeId} (ht : P.underlying t = some (.map k e)) (hk : P.underlying k = some .bool) {w : World} {b : Nat} {v : Value} (h : bmapAt w b v) (x : Bool) (z : Value)
    (hz : (zeroValue e).run P w = .ok z w) : (Instr.lookup t (.map (some b)) (.bool x) false).run P w = .ok (bsel x v z) w := by
  obtain ⟨n, c, hb⟩ := h
  have hc : ∀ em, (Instr.checkKey em 10000 k (.bool x)).run P w = .ok () w := fun em => MapKept.run_checkKey (k := .bool x) hk (by simp [MapKept.IsKey]) em 9999
  cases x
  · have h1 : Instr.findNow .bool (.bool false) (#[{ key := .bool true, val := v, born := n }] : Array MapEntry).toList 0 = some none := rfl
    simp [Instr.lookup, run_underlying ht, MapKept.run_getObj_map hb, hc, MapKept.run_findKey hk h1, hz, Result.andThen, bsel]
  · have h1 : Instr.findNow .bool (.bool true) (#[{ key := .bool true, val := v, born := n }] : Array MapEntry).toList 0 = some (some (0, v)) := rfl
    simp [Instr.lookup, run_underlying ht, MapKept.run_getObj_map hb, hc, MapKept.run_findKey hk h1, Result.andThen, bsel]
theorem runTo_same {σ : Type} (m : C.Mem σ) (s : σ) (r r' : Nat → Bool) : ∀ n : Nat, (∀ j, j < n → r j = r' j) → runTo m s r n = runTo m s r' n
  | 0, _ => rfl
  | n + 1, h => by
    have ih := runTo_same m s r r' n (fun j hj => h j (by omega))
    simp only [runTo, ih, h n (by omega)]
theorem rg_nil (j : Nat) : rg [] j = false := by simp [rg]
theorem rg_one (n j : Nat) : rg [(n : Int)] j = (j == n) := by
  unfold rg
  by_cases h : j = n
  · subst h; simp
  · have h' : ¬ ((j : Int) = n) := by omega
    simp [h, h']
def onL (more : Bool) (n : Nat) : List Int := if more then [(n : Int)] else []
theorem on_fact (rom ram : List UInt8) (more : Bool) (n : Nat) :
    runTo (spc rom) ram (rg (onL more n)) (n + 1) = ((C.step (spc rom) (runTo (spc rom) ram (rg []) n).1 (runTo (spc rom) ram (rg []) n).2.1 more).c, (C.step (spc rom) (runTo (spc rom) ram (rg []) n).1 (runTo (spc rom) ram (rg []) n).2.1 more).s,
      (runTo (spc rom) ram (rg []) n).2.2 + (C.step (spc rom) (runTo (spc rom) ram (rg []) n).1 (runTo (spc rom) ram (rg []) n).2.1 more).n) := by
  cases more
  · show runTo (spc rom) ram (rg []) (n + 1) = _
    simp only [runTo, rg_nil]
  · show runTo (spc rom) ram (rg [(n : Int)]) (n + 1) = _
    have e := runTo_same (spc rom) ram (rg [(n : Int)]) (rg []) n (fun j hj => by rw [rg_one, rg_nil]; simp; omega)
    simp only [runTo, e, rg_one, beq_self_eq_true]
theorem under_bmap : Tryd.prog.underlying 33 = some (.map 4 32) := by kernel_rfl
theorem zero_ints (w : World) : (zeroValue 32).run Tryd.prog w = .ok (.slice none 0 0) w := by kernel_rfl
theorem onL_at {w : World} {g : Nat} (n : Nat) (more : Bool) (hz : g < w.heap.size) (h : w.cell? ⟨g, 0, none⟩ = some (.int .i64 n)) : intsAt w (bsel more (.slice (some ⟨g, 0, none⟩) 1 1) (.slice none 0 0)) (onL more n) := by
  cases more
  · exact Or.inl ⟨none, 0, rfl, rfl⟩
  · refine Or.inr ⟨g, 0, 1, rfl, Nat.le_refl _, hz, fun j x hj => ?_⟩
    have hl := (List.getElem?_eq_some_iff.1 hj).1
    obtain rfl : j = 0 := by simp [onL] at hl; exact hl
    have e : (n : Int) = x := by simpa [onL] using hj
    rw [← e]
    exact h
set_option maxRecDepth 100000 in
theorem same_any (v1 v2 v3 v4 : Value) (a b : List UInt8) (w : World) (h1 : sliceAt w v1 a) (h2 : sliceAt w v2 b) (h3 : sliceAt w v3 a) (h4 : sliceAt w v4 b) :
    Calls Tryd.prog 8 #[.agg #[v1, v2], .agg #[v3, v4]] w fun e w' => e = .returned (.bool true) ∧ Below w.heap.size w w' := by
  have H1 := hid (h1.kept (stA (stA (st0 w) (.cells #[v1, v2] 24)) (.cells #[v3, v4] 24)))
  have H2 := hid (h2.kept (stA (stA (st0 w) (.cells #[v1, v2] 24)) (.cells #[v3, v4] 24)))
  have H3 := hid (h3.kept (stA (stA (st0 w) (.cells #[v1, v2] 24)) (.cells #[v3, v4] 24)))
  have H4 := hid (h4.kept (stA (stA (st0 w) (.cells #[v1, v2] 24)) (.cells #[v3, v4] 24)))
  obtain ⟨a1, k1, x1⟩ := slice_len h1
  obtain ⟨a2, k2, x2⟩ := slice_len h2
  obtain ⟨a3, k3, x3⟩ := slice_len h3
  obtain ⟨a4, k4, x4⟩ := slice_len h4
  subst x1 x2 x3 x4
  clear h1 h2 h3 h4
  go_enter Tryd.func8, Tryd.ntmps8
  go_wp2_with (first
    | (go_at_call_of 16 (Value.slice a1 a.length k1); refine (equal_any _ _ a a _ H1.out H3.out).mono ?_; rintro e w3 ⟨rfl, rfl⟩)
    | (go_at_call_of 16 (Value.slice a2 b.length k2); refine (equal_any _ _ b b _ H2.out H4.out).mono ?_; rintro e w3 ⟨rfl, rfl⟩))
  go_ret
  exact ⟨by simp, stA (stA (st0 _) _) _⟩
/-! ### boxes -/
/-- A space's box. -/
structure Sat (W : World) (b : Nat) (x y : Value) : Prop where
  z : b < W.heap.size
  c0 : W.cell? ⟨b, 0, none⟩ = some x
  c1 : W.cell? ⟨b, 1, none⟩ = some y
theorem Sat.kept {W w1 : World} {b : Nat} {x y : Value} (h : Sat W b x y) (hb : Below W.heap.size W w1) : Sat w1 b x y :=
  ⟨Nat.lt_of_lt_of_le h.z hb.size, (hb.cell (p := ⟨b, 0, none⟩) h.z).trans h.c0, (hb.cell (p := ⟨b, 1, none⟩) h.z).trans h.c1⟩
theorem Sat.over {W : World} {b : Nat} {x y : Value} (h : Sat W b x y) (o : Obj) : Sat (W.alloc o) b x y := h.kept (stA (st0 W) o)
theorem Sat.new (W : World) (x y : Value) (b : Nat) (hb : b = W.heap.size) : Sat (W.alloc (.cells #[x, y] 24)) b x y :=
  ⟨by subst hb; simp, cell_new _ _ _ _ hb, cell_new _ _ _ _ hb⟩
/-- A processor's box. -/
structure Cat (W : World) (b : Nat) (c : C.Cpu) : Prop where
  z : b < W.heap.size
  q : ∀ j, W.cell? ⟨b, j, none⟩ = (#[.int .u16 (c.r 0), .int .u16 (c.r 1), .int .u16 (c.r 2), .int .u16 (c.r 3), .int .u16 (c.r 4), .int .u16 (c.r 5), .int .u16 (c.r 6), .int .u16 (c.r 7), .int .u16 c.PC, .bool c.Z, .bool c.N, .bool c.C, .bool c.V, .bool c.May, .bool c.Waits] : Array Value)[j]?
theorem Cat.kept {W w1 : World} {b : Nat} {c : C.Cpu} (h : Cat W b c) (hb : Below W.heap.size W w1) : Cat w1 b c :=
  ⟨Nat.lt_of_lt_of_le h.z hb.size, fun j => (hb.cell (p := ⟨b, j, none⟩) h.z).trans (h.q j)⟩
theorem Cat.over {W : World} {b : Nat} {c : C.Cpu} (h : Cat W b c) (o : Obj) : Cat (W.alloc o) b c := h.kept (stA (st0 W) o)
theorem Cat.new (W : World) (c : C.Cpu) (b : Nat) (hb : b = W.heap.size) : Cat (W.alloc (.cells #[.int .u16 (c.r 0), .int .u16 (c.r 1), .int .u16 (c.r 2), .int .u16 (c.r 3), .int .u16 (c.r 4), .int .u16 (c.r 5), .int .u16 (c.r 6), .int .u16 (c.r 7), .int .u16 c.PC, .bool c.Z, .bool c.N, .bool c.C, .bool c.V, .bool c.May, .bool c.Waits] 28)) b c :=
  ⟨by subst hb; simp, fun j => cell_new _ _ _ _ hb⟩
theorem Cat.all {W : World} {b : Nat} {c : C.Cpu} (h : Cat W b c) : W.cell? ⟨b, 0, none⟩ = some (.int .u16 (c.r 0)) ∧ W.cell? ⟨b, 1, none⟩ = some (.int .u16 (c.r 1)) ∧ W.cell? ⟨b, 2, none⟩ = some (.int .u16 (c.r 2)) ∧ W.cell? ⟨b, 3, none⟩ = some (.int .u16 (c.r 3)) ∧ W.cell? ⟨b, 4, none⟩ = some (.int .u16 (c.r 4)) ∧ W.cell? ⟨b, 5, none⟩ = some (.int .u16 (c.r 5)) ∧ W.cell? ⟨b, 6, none⟩ = some (.int .u16 (c.r 6)) ∧ W.cell? ⟨b, 7, none⟩ = some (.int .u16 (c.r 7)) ∧ W.cell? ⟨b, 8, none⟩ = some (.int .u16 c.PC) ∧ W.cell? ⟨b, 9, none⟩ = some (.bool c.Z) ∧ W.cell? ⟨b, 10, none⟩ = some (.bool c.N) ∧ W.cell? ⟨b, 11, none⟩ = some (.bool c.C) ∧ W.cell? ⟨b, 12, none⟩ = some (.bool c.V) ∧ W.cell? ⟨b, 13, none⟩ = some (.bool c.May) ∧ W.cell? ⟨b, 14, none⟩ = some (.bool c.Waits) := ⟨h.q 0, h.q 1, h.q 2, h.q 3, h.q 4, h.q 5, h.q 6, h.q 7, h.q 8, h.q 9, h.q 10, h.q 11, h.q 12, h.q 13, h.q 14⟩
theorem rerr_mid {w w1 : World} {o1 : Obj} {cs : Array Value} (L : List Value) (hb : Below (((w.alloc o1).alloc (.cells cs 28)).alloc (.cells #[.slice none 0 0, .slice none 0 0] 24)).heap.size (((w.alloc o1).alloc (.cells cs 28)).alloc (.cells #[.slice none 0 0, .slice none 0 0] 24)) w1) (hL : cs.size = L.length) :
    Below w.heap.size w (w1.setCells (w.heap.size + 1) 0 L) ∧ (w1.setCells (w.heap.size + 1) 0 L).rangeAt (w.heap.size + 1) 0 L ∧ (w1.setCells (w.heap.size + 1) 0 L).cell? ⟨w.heap.size + 1 + 1, 0, none⟩ = some (.slice none 0 0) ∧ (w1.setCells (w.heap.size + 1) 0 L).cell? ⟨w.heap.size + 1 + 1, 1, none⟩ = some (.slice none 0 0) ∧ (∀ o, (w1.setCells (w.heap.size + 1) 0 L).frozen? ⟨w.heap.size + 1 + 1, o, none⟩ = false) ∧ w.heap.size + 1 + 1 < (w1.setCells (w.heap.size + 1) 0 L).heap.size := by
  have hh := setCells_heap (w.heap.size + 1) L 0 w1
  have hs := setCells_size (w.heap.size + 1) L 0 w1
  have hz : w.heap.size + 1 + 1 < (((w.alloc o1).alloc (.cells cs 28)).alloc (.cells #[.slice none 0 0, .slice none 0 0] 24)).heap.size := by simp
  have hth0 : (((w.alloc o1).alloc (.cells cs 28)).alloc (.cells #[.slice none 0 0, .slice none 0 0] 24)).there (w.heap.size + 1) 0 L.length := by
    have := World.there_alloc (there_new (w.alloc o1) cs 28 L.length hL) (.cells #[.slice none 0 0, .slice none 0 0] 24)
    simpa using this
  have hth := there_stays hth0 hb (by omega)
  have hbl := below_setCells (n := w.heap.size) (a := w) (b := w.heap.size + 1) (by omega) L 0 w1 (stp (stA (stA (stA (st0 w) _) _) _) hb)
  have hr := World.rangeAt_setCells_same w1 (w.heap.size + 1) 0 L hth
  have hsz := hb.size
  have c : ∀ o, w1.cell? ⟨w.heap.size + 1 + 1, o, none⟩ = (#[.slice none 0 0, .slice none 0 0] : Array Value)[o]? := fun o => (hb.cell (p := ⟨w.heap.size + 1 + 1, o, none⟩) hz).trans (cell_new _ _ _ _ (by simp))
  have f : ∀ o, w1.frozen? ⟨w.heap.size + 1 + 1, o, none⟩ = false := fun o => (hb.frozen (p := ⟨w.heap.size + 1 + 1, o, none⟩) hz).trans (fnew1 _ _ _ _ (by simp))
  generalize w1.setCells (w.heap.size + 1) 0 L = X at *
  exact ⟨hbl, hr, (World.cell?_of_block (w := w1) (hh (w.heap.size + 1 + 1) (by omega))).trans (c 0), (World.cell?_of_block (w := w1) (hh (w.heap.size + 1 + 1) (by omega))).trans (c 1), fun o => (World.frozen?_of_block (w := w1) (hh (w.heap.size + 1 + 1) (by omega))).trans (f o), by omega⟩
theorem rerr_fin {w W : World} {L : List Value} (hb : Below w.heap.size w W) (hr : W.rangeAt (w.heap.size + 1) 0 L) (y0 : W.cell? ⟨w.heap.size + 1 + 1, 0, none⟩ = some (.slice none 0 0)) (y1 : W.cell? ⟨w.heap.size + 1 + 1, 1, none⟩ = some (.slice none 0 0)) :
    Below w.heap.size w ((W.setCell ⟨w.heap.size + 1 + 1, 0, none⟩ (.slice none 0 0)).setCell ⟨w.heap.size + 1 + 1, 1, none⟩ (.slice none 0 0)) ∧ ((W.setCell ⟨w.heap.size + 1 + 1, 0, none⟩ (.slice none 0 0)).setCell ⟨w.heap.size + 1 + 1, 1, none⟩ (.slice none 0 0)).rangeAt (w.heap.size + 1) 0 L ∧ ((W.setCell ⟨w.heap.size + 1 + 1, 0, none⟩ (.slice none 0 0)).setCell ⟨w.heap.size + 1 + 1, 1, none⟩ (.slice none 0 0)).rangeAt (w.heap.size + 1 + 1) 0 [.slice none 0 0, .slice none 0 0] := by
  refine ⟨(hb.setCell (by simp; omega) _).setCell (by simp; omega) _, fun j v hj => ?_, fun j v hj => ?_⟩
  · exact (World.cell?_setCell_far _ _ _ _ (by simp)).trans ((World.cell?_setCell_far _ _ _ _ (by simp)).trans (hr j v hj))
  · have e0 := World.cell?_setCell_same W _ (.slice none 0 0) y0
    have e1 : (W.setCell ⟨w.heap.size + 1 + 1, 0, none⟩ (.slice none 0 0)).cell? ⟨w.heap.size + 1 + 1, 1, none⟩ = some (.slice none 0 0) := (World.cell?_setCell_other _ _ _ _ (by simp)).trans y1
    match j, hj with
    | 0, hj => cases hj; exact (World.cell?_setCell_other _ _ _ _ (by simp)).trans e0
    | 1, hj => cases hj; exact World.cell?_setCell_same _ _ _ e1
theorem rerr_there (w : World) (o1 : Obj) : ((w.alloc o1).alloc (.cells #[.int .u16 0, .int .u16 0, .int .u16 0, .int .u16 0, .int .u16 0, .int .u16 0, .int .u16 0, .int .u16 0, .int .u16 0, .bool false, .bool false, .bool false, .bool false, .bool false, .bool false] 28)).there (w.heap.size + 1) 0 15 := by
  have := there_new (w.alloc o1) #[.int .u16 0, .int .u16 0, .int .u16 0, .int .u16 0, .int .u16 0, .int .u16 0, .int .u16 0, .int .u16 0, .int .u16 0, .bool false, .bool false, .bool false, .bool false, .bool false, .bool false] 28 15 rfl
  simpa using this
set_option maxRecDepth 100000 in
set_option maxHeartbeats 400000 in
theorem run_err (v1 v2 v3 : Value) (rom ram : List UInt8) (n : Int) (w : World) (h1 : sliceAt w v1 rom) (h2 : sliceAt w v2 ram) (hl : 1024 < rom.length ∨ 256 < ram.length) :
    Calls Tryd.prog 5 #[.agg #[v1, v2], .int .i64 n, v3] w fun e w' => e = .returned (.tuple #[cpuV C.Cpu.zero, .agg #[.slice none 0 0, .slice none 0 0], .int .i64 0, .int .i64 2]) ∧ Below w.heap.size w w' := by
  obtain ⟨a1, k1, x1⟩ := slice_len h1
  obtain ⟨a2, k2, x2⟩ := slice_len h2
  subst x1 x2
  have HCK := fun W : World => hid (chk_any a1 a2 rom.length ram.length k1 k2 W)
  rw [if_pos hl] at HCK
  clear h1 h2 hl
  go_enter Tryd.func5, Tryd.ntmps5
  go_wp2_with (first
    | (go_at_call 9; refine (HCK _).out.mono ?_; rintro e w1 ⟨rfl, hb1⟩; have hbA := hid (stp (stA (stA (stA (st0 w) _) _) _) hb1); obtain ⟨kk1, ff1⟩ := bcell hb1; have z1 : w.heap.size + 1 + 1 < w1.heap.size := Nat.lt_of_lt_of_le (by simp) hb1.size)
    | (refine wpList_store_mid rfl 28 (.tmp 6) (.tmp 19) rfl (w.heap.size + 1) 0 _ rfl rfl ?_ ?_ ?_ ?_
       · exact there_stays (World.there_alloc (rerr_there w _) _) hb1 (by simp)
       · exact info_cpu
       · exact cpuL_one C.Cpu.zero
       refine cutL (fun W => Below w.heap.size w W ∧ W.rangeAt (w.heap.size + 1) 0 (cpuL C.Cpu.zero) ∧ W.cell? ⟨w.heap.size + 1 + 1, 0, none⟩ = some (.slice none 0 0) ∧ W.cell? ⟨w.heap.size + 1 + 1, 1, none⟩ = some (.slice none 0 0) ∧ (∀ o, W.frozen? ⟨w.heap.size + 1 + 1, o, none⟩ = false) ∧ w.heap.size + 1 + 1 < W.heap.size) ?_ ?_
       · exact rerr_mid (cpuL C.Cpu.zero) hb1 rfl
       clear kk1 ff1
       rintro W ⟨hbW, hrW, y0, y1, yf, yz⟩))
  refine cutB (fun Y => Below w.heap.size w Y ∧ Y.rangeAt (w.heap.size + 1) 0 (cpuL C.Cpu.zero) ∧ Y.rangeAt (w.heap.size + 1 + 1) 0 [.slice none 0 0, .slice none 0 0]) (rerr_fin hbW hrW y0 y1) ?_
  rintro Y ⟨hbY, hrA, hrB⟩
  have hl := load_cpu Y _ _ hrA
  have hl2 := run_loadVar_mid (P := Tryd.prog) Y _ 0 24 _ _ hrB Tryd.underlying24 rfl info_sp
  refine bodyPost_ret (v := .tuple #[cpuV C.Cpu.zero, .agg #[.slice none 0 0, .slice none 0 0], .int .i64 0, .int .i64 2]) ?_ rfl ⟨rfl, hbY⟩
  simp only [results, Tryd.results5]
  simp
  show (Result.andThen (Sem.run Tryd.prog (loadVar 28 ⟨w.heap.size + 1, 0, none⟩) Y) _) = _
  rw [hl]
  show (Result.andThen (Sem.run Tryd.prog (loadVar 24 ⟨w.heap.size + 1 + 1, 0, none⟩) Y) _) = _
  rw [hl2]
  rfl
set_option maxRecDepth 100000 in
set_option maxHeartbeats 400000 in
theorem run_neg (v1 v2 v3 : Value) (rom ram : List UInt8) (n : Int) (w : World) (h1 : sliceAt w v1 rom) (h2 : sliceAt w v2 ram) (hl : ¬ (1024 < rom.length ∨ 256 < ram.length)) (hn : n < 0) :
    Calls Tryd.prog 5 #[.agg #[v1, v2], .int .i64 n, v3] w fun e w' => e = .returned (.tuple #[cpuV C.Cpu.zero, .agg #[.slice none 0 0, .slice none 0 0], .int .i64 0, .int .i64 3]) ∧ Below w.heap.size w w' := by
  obtain ⟨a1, k1, x1⟩ := slice_len h1
  obtain ⟨a2, k2, x2⟩ := slice_len h2
  subst x1 x2
  have HCK := fun W : World => hid (chk_any a1 a2 rom.length ram.length k1 k2 W)
  rw [if_neg hl] at HCK
  clear h1 h2 hl
  go_enter Tryd.func5, Tryd.ntmps5
  go_wp2_with (first
    | (go_at_call 9; refine (HCK _).out.mono ?_; rintro e w1 ⟨rfl, hb1⟩; have hbA := hid (stp (stA (stA (stA (st0 w) _) _) _) hb1); obtain ⟨kk1, ff1⟩ := bcell hb1; have z1 : w.heap.size + 1 + 1 < w1.heap.size := Nat.lt_of_lt_of_le (by simp) hb1.size)
    | (refine wpList_store_mid rfl 28 (.tmp 6) (.tmp 28) rfl (w.heap.size + 1) 0 _ rfl rfl ?_ ?_ ?_ ?_
       · exact there_stays (World.there_alloc (rerr_there w _) _) hb1 (by simp)
       · exact info_cpu
       · exact cpuL_one C.Cpu.zero
       refine cutL (fun W => Below w.heap.size w W ∧ W.rangeAt (w.heap.size + 1) 0 (cpuL C.Cpu.zero) ∧ W.cell? ⟨w.heap.size + 1 + 1, 0, none⟩ = some (.slice none 0 0) ∧ W.cell? ⟨w.heap.size + 1 + 1, 1, none⟩ = some (.slice none 0 0) ∧ (∀ o, W.frozen? ⟨w.heap.size + 1 + 1, o, none⟩ = false) ∧ w.heap.size + 1 + 1 < W.heap.size) ?_ ?_
       · exact rerr_mid (cpuL C.Cpu.zero) hb1 rfl
       clear kk1 ff1
       rintro W ⟨hbW, hrW, y0, y1, yf, yz⟩))
  refine cutB (fun Y => Below w.heap.size w Y ∧ Y.rangeAt (w.heap.size + 1) 0 (cpuL C.Cpu.zero) ∧ Y.rangeAt (w.heap.size + 1 + 1) 0 [.slice none 0 0, .slice none 0 0]) (rerr_fin hbW hrW y0 y1) ?_
  rintro Y ⟨hbY, hrA, hrB⟩
  have hl := load_cpu Y _ _ hrA
  have hl2 := run_loadVar_mid (P := Tryd.prog) Y _ 0 24 _ _ hrB Tryd.underlying24 rfl info_sp
  refine bodyPost_ret (v := .tuple #[cpuV C.Cpu.zero, .agg #[.slice none 0 0, .slice none 0 0], .int .i64 0, .int .i64 3]) ?_ rfl ⟨rfl, hbY⟩
  simp only [results, Tryd.results5]
  simp
  show (Result.andThen (Sem.run Tryd.prog (loadVar 28 ⟨w.heap.size + 1, 0, none⟩) Y) _) = _
  rw [hl]
  show (Result.andThen (Sem.run Tryd.prog (loadVar 24 ⟨w.heap.size + 1 + 1, 0, none⟩) Y) _) = _
  rw [hl2]
  rfl
set_option maxRecDepth 100000 in
set_option maxHeartbeats 400000 in
theorem run_many (v1 v2 v3 : Value) (rom ram : List UInt8) (n : Int) (w : World) (h1 : sliceAt w v1 rom) (h2 : sliceAt w v2 ram) (hl : ¬ (1024 < rom.length ∨ 256 < ram.length)) (hn : 500 < n) :
    Calls Tryd.prog 5 #[.agg #[v1, v2], .int .i64 n, v3] w fun e w' => e = .returned (.tuple #[cpuV C.Cpu.zero, .agg #[.slice none 0 0, .slice none 0 0], .int .i64 0, .int .i64 3]) ∧ Below w.heap.size w w' := by
  obtain ⟨a1, k1, x1⟩ := slice_len h1
  obtain ⟨a2, k2, x2⟩ := slice_len h2
  subst x1 x2
  have HCK := fun W : World => hid (chk_any a1 a2 rom.length ram.length k1 k2 W)
  rw [if_neg hl] at HCK
  clear h1 h2 hl
  have hn0 : ¬ n < 0 := by omega
  go_enter Tryd.func5, Tryd.ntmps5
  go_wp2_with (first
    | (go_at_call 9; refine (HCK _).out.mono ?_; rintro e w1 ⟨rfl, hb1⟩; have hbA := hid (stp (stA (stA (stA (st0 w) _) _) _) hb1); obtain ⟨kk1, ff1⟩ := bcell hb1; have z1 : w.heap.size + 1 + 1 < w1.heap.size := Nat.lt_of_lt_of_le (by simp) hb1.size)
    | (refine wpList_store_mid rfl 28 (.tmp 6) (.tmp 28) rfl (w.heap.size + 1) 0 _ rfl rfl ?_ ?_ ?_ ?_
       · exact there_stays (World.there_alloc (rerr_there w _) _) hb1 (by simp)
       · exact info_cpu
       · exact cpuL_one C.Cpu.zero
       refine cutL (fun W => Below w.heap.size w W ∧ W.rangeAt (w.heap.size + 1) 0 (cpuL C.Cpu.zero) ∧ W.cell? ⟨w.heap.size + 1 + 1, 0, none⟩ = some (.slice none 0 0) ∧ W.cell? ⟨w.heap.size + 1 + 1, 1, none⟩ = some (.slice none 0 0) ∧ (∀ o, W.frozen? ⟨w.heap.size + 1 + 1, o, none⟩ = false) ∧ w.heap.size + 1 + 1 < W.heap.size) ?_ ?_
       · exact rerr_mid (cpuL C.Cpu.zero) hb1 rfl
       clear kk1 ff1
       rintro W ⟨hbW, hrW, y0, y1, yf, yz⟩))
  refine cutB (fun Y => Below w.heap.size w Y ∧ Y.rangeAt (w.heap.size + 1) 0 (cpuL C.Cpu.zero) ∧ Y.rangeAt (w.heap.size + 1 + 1) 0 [.slice none 0 0, .slice none 0 0]) (rerr_fin hbW hrW y0 y1) ?_
  rintro Y ⟨hbY, hrA, hrB⟩
  have hl := load_cpu Y _ _ hrA
  have hl2 := run_loadVar_mid (P := Tryd.prog) Y _ 0 24 _ _ hrB Tryd.underlying24 rfl info_sp
  refine bodyPost_ret (v := .tuple #[cpuV C.Cpu.zero, .agg #[.slice none 0 0, .slice none 0 0], .int .i64 0, .int .i64 3]) ?_ rfl ⟨rfl, hbY⟩
  simp only [results, Tryd.results5]
  simp
  show (Result.andThen (Sem.run Tryd.prog (loadVar 28 ⟨w.heap.size + 1, 0, none⟩) Y) _) = _
  rw [hl]
  show (Result.andThen (Sem.run Tryd.prog (loadVar 24 ⟨w.heap.size + 1 + 1, 0, none⟩) Y) _) = _
  rw [hl2]
  rfl
end Go.Proofs.YthfngejmihdafaaDoor
