/-
  Begin, rings, Run's plain facts, what came in, equality.
-/
import Derived.Test.YtombboeonffejaaGreatDoorZsV
import Derived.Laws.BytesArg
import Derived.OpenShut
import Derived.ChangeKeysEq
import Derived.Laws.StructEq
namespace Go.Proofs.YtombboeonffejaaGreatDoor
open Go.ChangeShapes Go.WideShapes Go.ChangeAt Go.RowKit
set_option linter.unusedVariables false

section
variable {σ : Type} {m : C.Mem σ} {B nr nw : Nat} {cr cw : Array Value} {I : World → σ → Prop} {T : σ → Nat → Prop}
theorem begin_there (R : RS m B nr nw cr cw I T) {w w1 : World} {s s' : σ} {cs ds : Array Value} {t u : TypeId} (hI : I w s) (hm : Mv B (T s) (T s') ((w.alloc (.cells cs t)).alloc (.cells ds u)) w1) (n : Nat) (hn : ds.size = n) : w1.there (w.heap.size + 1) 0 n := fun j hj => by
  have hlt : w.heap.size + 1 < ((w.alloc (.cells cs t)).alloc (.cells ds u)).heap.size := by simp
  have hT := R.out hI (k := w.heap.size + 1) (by omega)
  rw [hm.cell hlt hT, hm.froz hlt hT]
  have := there_new (w.alloc (.cells cs t)) ds u n hn j hj
  simpa using this
theorem begin_end (R : RS m B nr nw cr cw I T) {w w1 : World} {s s' : σ} {o1 o2 : Obj} (L : List Value) (hI : I w s) (hI1 : I w1 s') (hm : Mv B (T s) (T s') ((w.alloc o1).alloc o2) w1) (hth : w1.there (w.heap.size + 1) 0 L.length) :
    I (w1.setCells (w.heap.size + 1) 0 L) s' ∧ Mv B (T s) (T s') w (w1.setCells (w.heap.size + 1) 0 L) ∧ (w1.setCells (w.heap.size + 1) 0 L).rangeAt (w.heap.size + 1) 0 L := by
  have hB := R.big hI
  have h0 : Mv B (T s) (T s') w w1 := (hm.unbox (by have := hB; simp; omega)).unbox hB
  have hT : ¬ T s' (w.heap.size + 1) := fun ht => by
    rcases hm.fresh _ ht with x | x
    · exact R.out hI (k := w.heap.size + 1) (by omega) x
    · simp at x
      omega
  have hs := setCells_size (w.heap.size + 1) L 0 w1
  have hh := setCells_heap (w.heap.size + 1) L 0 w1
  have hb := below_setCells (n := B) (a := w) (b := w.heap.size + 1) (by omega) L 0 w1 h0.below
  have hr := World.rangeAt_setCells_same w1 (w.heap.size + 1) 0 L hth
  generalize w1.setCells (w.heap.size + 1) 0 L = X at *
  exact ⟨R.keep (w' := X) hI1 (Nat.le_of_eq hs.symm) (fun k hk => hh k (fun e => hT (e ▸ hk))), ⟨hb, fun k hk ht => (hh k (by omega)).trans (h0.block k hk ht), h0.fresh⟩, hr⟩
set_option maxRecDepth 100000 in
set_option maxHeartbeats 1600000 in
theorem begin_any (R : RS m B nr nw cr cw I T) (w : World) (s : σ) (hI : I w s) :
    Calls Tryz.prog 37 #[.agg #[fv nr cr, fv nw cw]] w fun e w' => e = .returned (cpuV (C.begin' m s).1) ∧ I w' (C.begin' m s).2 ∧ Mv B (T s) (T (C.begin' m s).2) w w' ∧ (C.begin' m s).1.ok := by
  have HR := hid R
  have HI := hid hI
  have hwd := R.word s 0
  have HW := hid (fun W (h : I W s) => wordAt_any R 0 (by omega) (by omega) W s h)
  unfold C.begin'
  generalize (m.rdw s 0).1 = n at HW hwd ⊢
  generalize (m.rdw s 0).2 = s' at HW ⊢
  clear hI R
  go_enter Tryz.func37, Tryz.ntmps37
  go_wp2_with (first
    | (go_at_call 54; refine (HW.out _ ?_).mono ?_; (exact HR.out.kept HI.out (stA (stA (st0 w) _) _)); rintro e w1 ⟨rfl, hI1, hm1⟩)
    | (refine wpList_store_mid rfl 25 (.tmp 2) (.tmp 5) rfl (w.heap.size + 1) 0 _ rfl rfl ?_ ?_ ?_ ?_
       · exact begin_there HR.out HI.out hm1 15 rfl
       · exact info_cpu
       · exact cpuL_one { C.Cpu.zero with PC := n }
       refine cutL (fun W => I W s' ∧ Mv B (T s) (T s') w W ∧ W.rangeAt (w.heap.size + 1) 0 (cpuL { C.Cpu.zero with PC := n })) ?_ ?_
       · exact begin_end HR.out (cpuL { C.Cpu.zero with PC := n }) HI.out hI1 hm1 (begin_there HR.out HI.out hm1 15 rfl)
       rintro W ⟨hIW, hmW, hrW⟩))
  have hl := load_cpu W _ _ hrW
  exact bodyPost_ret (v := cpuV { C.Cpu.zero with PC := n }) (by simp only [results, Tryz.results37]; simp; exact hl) rfl ⟨rfl, hIW, hmW, C.Cpu.ok_pc C.zero_ok n hwd.1 hwd.2⟩
end
/-! ### when it is rung -/
def rg (l : List Int) (i : Nat) : Bool := decide ((i : Int) ∈ l)
def rcl (l : List Int) : List Value := (List.range 500).map (fun i => Value.bool (rg l i))
theorem rcl_len (l : List Int) : (rcl l).length = 500 := by simp [rcl]
theorem rcl_at (l : List Int) (i : Nat) (hi : i < 500) : (rcl l)[i]? = some (.bool (rg l i)) := by simp [rcl, hi]
theorem rcl_set (l : List Int) (i : Nat) : (rcl l).set i (.bool true) = rcl (l ++ [(i : Int)]) := by
  apply List.ext_getElem?
  intro j
  by_cases hj : j < 500
  · rw [rcl_at _ j hj]
    by_cases e : i = j
    · subst e
      rw [List.getElem?_set_self (by rw [rcl_len]; exact hj)]
      simp [rg]
    · rw [List.getElem?_set_ne e, rcl_at _ j hj]
      have : (i : Int) ≠ (j : Int) := by omega
      simp [rg, Ne.symm this]
  · rw [List.getElem?_eq_none (by rw [List.length_set, rcl_len]; omega), List.getElem?_eq_none (by rw [rcl_len]; omega)]
theorem rcl_out (l : List Int) (x : Int) (h : ¬ (0 ≤ x ∧ x < 500)) : rcl (l ++ [x]) = rcl l := by
  apply List.ext_getElem?
  intro j
  by_cases hj : j < 500
  · rw [rcl_at _ j hj, rcl_at _ j hj]
    have : ¬ (j : Int) = x := by omega
    simp [rg, this]
  · rw [List.getElem?_eq_none (by rw [rcl_len]; omega), List.getElem?_eq_none (by rw [rcl_len]; omega)]
theorem zero500 : Tryz.zeroCells77 = (rcl []).toArray := by kernel_rfl
theorem info_500 : (Tryz.prog.info? 77).map (·.size) = some 500 := by kernel_rfl
theorem under_500 : Tryz.prog.underlying 77 = some (.array 500 4) := by kernel_rfl
/-- A slice of these numbers. -/
def intsAt (w : World) (v : Value) (l : List Int) : Prop := (∃ a cap, v = .slice a 0 cap ∧ l = []) ∨ ∃ g o cap, v = .slice (some ⟨g, o, none⟩) l.length cap ∧ l.length ≤ cap ∧ g < w.heap.size ∧ ∀ (j : Nat) (x : Int), l[j]? = some x → w.cell? ⟨g, o + j, none⟩ = some (.int .i64 x)
theorem ints_len {w : World} {v : Value} {l : List Int} (h : intsAt w v l) : ∃ a c, v = .slice a l.length c := by
  rcases h with ⟨a, c, h1, rfl⟩ | ⟨g, o, c, h1, _⟩
  · exact ⟨a, c, h1⟩
  · exact ⟨_, c, h1⟩
theorem rcl_one (l : List Int) : ∀ v ∈ rcl l, v.oneCell' = true := fun v hv => by
  simp only [rcl, List.mem_map] at hv
  obtain ⟨i, _, rfl⟩ := hv
  rfl
theorem take_snocX {l : List Int} {j : Nat} {x : Int} (h : l[j]? = some x) : l.take (j + 1) = l.take j ++ [x] := by
  rw [List.take_add_one, h]; rfl
theorem range_blk {w : World} {b : Nat} {cs : List Value} {t : TypeId} (h : w.heap[b]? = some (.cells cs.toArray t (0, 0))) : w.rangeAt b 0 cs := fun j v hj => by
  rw [Nat.zero_add, Lib.cell_of_heap h j]
  simpa using hj
theorem there_blk {w : World} {b n : Nat} {cs : Array Value} {t : TypeId} (h : w.heap[b]? = some (.cells cs t (0, 0))) (hn : cs.size = n) : w.there b 0 n := fun j hj => by
  refine ⟨?_, Lib.frozen_of_heap h _⟩
  rw [Lib.cell_of_heap h, Array.getElem?_eq_getElem (by omega)]
  rfl
theorem heap_new_at (W : World) (o : Obj) (b : Nat) (h : b = W.heap.size) : (W.alloc o).heap[b]? = some o := by subst h; exact heap_alloc_new W o
theorem zero_size : Tryz.zeroCells77.size = 500 := by rw [zero500]; simp [rcl]
set_option maxRecDepth 100000 in
set_option maxHeartbeats 1600000 in
theorem rungAt_any (v : Value) (l : List Int) (w : World) (h : intsAt w v l) (hl : l.length ≤ maxLen) :
    Calls Tryz.prog 36 #[v] w fun e w' => e = .returned (.agg (rcl l).toArray) ∧ Below w.heap.size w w' := by
  unfold maxLen at hl
  have H := hid h
  obtain ⟨a, c, hv⟩ := ints_len h
  subst hv
  clear h
  go_enter Tryz.func36, Tryz.ntmps36
  go_wp2
  go_loopw [8] (fun i wr => ∃ j : Nat, j ≤ l.length ∧ i = .int .i64 j ∧ wr.heap[w.heap.size + 1]? = some (.cells (rcl (l.take j)).toArray 77 (0, 0)) ∧ wr.heap[w.heap.size]? = some (.cells Tryz.zeroCells77 77 (0, 0)) ∧ Below w.heap.size w wr) (fun i _ => l.length - (intOf i).toNat)
  case atStart =>
    refine ⟨0, by omega, rfl, ?_, ?_, stA (stA (st0 w) _) _⟩
    · rw [zero500]; exact heap_new_at _ _ _ (by simp)
    · exact (heap_alloc_old _ _ (by simp)).trans (heap_alloc_new w _)
  case round =>
    obtain ⟨j, hj, rfl, hB, hA, hbl⟩ := hrel
    have hlt1 : w.heap.size + 1 < wr.heap.size := (Array.getElem?_eq_some_iff.1 hB).1
    have hlt0 : w.heap.size < wr.heap.size := by omega
    by_cases hlt : j < l.length
    · have hlt' : (j : Int) < l.length := by omega
      obtain ⟨x, hx⟩ : ∃ x, l[j]? = some x := ⟨_, List.getElem?_eq_getElem hlt⟩
      have hcell : ∃ g o, a = some ⟨g, o, none⟩ ∧ g < wr.heap.size ∧ wr.cell? ⟨g, o + j, none⟩ = some (.int .i64 x) := by
        rcases H.out with ⟨a', c', h1, h2⟩ | ⟨g, o, c', h1, h2, h3, h4⟩
        · rw [h2] at hlt; simp at hlt
        · simp only [Value.slice.injEq] at h1
          exact ⟨g, o, h1.1, Nat.lt_of_lt_of_le h3 hbl.size, (hbl.cell (p := ⟨g, o + j, none⟩) h3).trans (h4 j x hx)⟩
      obtain ⟨g, o, rfl, hg, hc⟩ := hcell
      have HX := hid hx
      clear hx
      by_cases hr : 0 ≤ x ∧ x < 500
      · obtain ⟨hr0, hr1⟩ := hr
        obtain ⟨k, rfl⟩ := Int.eq_ofNat_of_zero_le hr0
        have hck : wr.cell? ⟨w.heap.size + 1, k, none⟩ = some (.bool (rg (l.take j) k)) := by
          rw [Lib.cell_of_heap hB k]
          have := rcl_at (l.take j) k (by omega)
          simpa using this
        have hfk : wr.frozen? ⟨w.heap.size + 1, k, none⟩ = false := Lib.frozen_of_heap hB k
        have HB := hid hB
        have HA := hid hA
        clear hB hA
        go_wp2
        refine ⟨⟨j + 1, by omega, by go_num, ?_, ?_, hbl.setCell (by simp) _⟩, by simp [intOf]; omega⟩
        · rw [setCell_blk HB.out, take_snocX HX.out, ← rcl_set]; simp
        · exact (Below.heap_setCell _ _ _ _ (by simp)).trans HA.out
      · have HB := hid hB
        have HA := hid hA
        have HR := hid hr
        clear hB hA
        by_cases hr0 : 0 ≤ x
        · have hr1 : ¬ x < 500 := fun h => hr ⟨hr0, h⟩
          clear hr
          go_wp2
          refine ⟨⟨j + 1, by omega, by go_num, ?_, HA.out, hbl⟩, by simp [intOf]; omega⟩
          rw [take_snocX HX.out, rcl_out _ _ HR.out]; exact HB.out
        · clear hr
          go_wp2
          refine ⟨⟨j + 1, by omega, by go_num, ?_, HA.out, hbl⟩, by simp [intOf]; omega⟩
          rw [take_snocX HX.out, rcl_out _ _ HR.out]; exact HB.out
    · have hjn : j = l.length := by omega
      subst hjn
      rw [List.take_length] at hB
      have hrB := range_blk hB
      have hth := there_blk hA zero_size
      have HB := hid hrB
      have HT := hid hth
      clear hrB hth hB hA
      go_wp2_with (first
        | (refine wpList_load_mid rfl 77 (.tmp 3) rfl (w.heap.size + 1) 0 rfl (rcl l) (.array 500 4) HB.out under_500 rfl (by rw [rcl_len]; exact info_500) ?_)
        | (refine wpList_store_mid rfl 77 (.tmp 2) (.tmp 21) rfl w.heap.size 0 (rcl l).toArray rfl rfl ?_ ?_ ?_ ?_))
      · rw [show (rcl l).toArray.size = 500 from rcl_len l]; exact HT.out
      · rw [show (rcl l).toArray.size = 500 from rcl_len l]; exact info_500
      · exact all_oneCell_toArray (rcl_one l)
      refine cutB (fun W => Below w.heap.size w W ∧ W.rangeAt w.heap.size 0 (rcl l)) ⟨below_setCells (Nat.le_refl _) (rcl l) 0 wr hbl, World.rangeAt_setCells_same wr w.heap.size 0 (rcl l) (by rw [rcl_len]; exact HT.out)⟩ ?_
      rintro W ⟨hbW, hrW⟩
      have hl2 := run_loadVar_mid (P := Tryz.prog) W w.heap.size 0 77 (rcl l) _ hrW under_500 rfl (by rw [rcl_len]; exact info_500)
      exact bodyPost_ret (v := .agg (rcl l).toArray) (by simp only [results, Tryz.results36]; simp; exact hl2) rfl ⟨rfl, hbW⟩
theorem info_sp : (Tryz.prog.info? 28).map (·.size) = some 2 := by kernel_rfl
theorem there_stays {w w' : World} {b n : Nat} (h : w.there b 0 n) (hb : Below w.heap.size w w') (hlt : b < w.heap.size) : w'.there b 0 n := fun j hj => by
  have := h j hj
  rw [hb.cell (p := ⟨b, 0 + j, none⟩) hlt, hb.frozen (p := ⟨b, 0 + j, none⟩) hlt]
  exact this
theorem fnew1 (W : World) (b i : Nat) (cs : Array Value) {t : TypeId} (h : b = W.heap.size) : (W.alloc (.cells cs t)).frozen? ⟨b, i, none⟩ = false := by
  subst h
  exact Lib.frozen_of_heap (heap_alloc_new W _) i
theorem err_mid {w w1 : World} {o1 o2 : Obj} {cs : Array Value} (L : List Value) (hb : Below ((((w.alloc o1).alloc o2).alloc (.cells cs 25)).alloc (.cells #[.slice none 0 0, .slice none 0 0] 28)).heap.size ((((w.alloc o1).alloc o2).alloc (.cells cs 25)).alloc (.cells #[.slice none 0 0, .slice none 0 0] 28)) w1) (hL : cs.size = L.length) :
    Below w.heap.size w (w1.setCells (w.heap.size + 1 + 1) 0 L) ∧ (w1.setCells (w.heap.size + 1 + 1) 0 L).rangeAt (w.heap.size + 1 + 1) 0 L ∧ (w1.setCells (w.heap.size + 1 + 1) 0 L).cell? ⟨w.heap.size + 1 + 1 + 1, 0, none⟩ = some (.slice none 0 0) ∧ (w1.setCells (w.heap.size + 1 + 1) 0 L).cell? ⟨w.heap.size + 1 + 1 + 1, 1, none⟩ = some (.slice none 0 0) ∧ (∀ o, (w1.setCells (w.heap.size + 1 + 1) 0 L).frozen? ⟨w.heap.size + 1 + 1 + 1, o, none⟩ = false) ∧ w.heap.size + 1 + 1 + 1 < (w1.setCells (w.heap.size + 1 + 1) 0 L).heap.size := by
  have hh := setCells_heap (w.heap.size + 1 + 1) L 0 w1
  have hs := setCells_size (w.heap.size + 1 + 1) L 0 w1
  have hz : w.heap.size + 1 + 1 + 1 < ((((w.alloc o1).alloc o2).alloc (.cells cs 25)).alloc (.cells #[.slice none 0 0, .slice none 0 0] 28)).heap.size := by simp
  have hth0 : ((((w.alloc o1).alloc o2).alloc (.cells cs 25)).alloc (.cells #[.slice none 0 0, .slice none 0 0] 28)).there (w.heap.size + 1 + 1) 0 L.length := by
    have := World.there_alloc (there_new ((w.alloc o1).alloc o2) cs 25 L.length hL) (.cells #[.slice none 0 0, .slice none 0 0] 28)
    simpa using this
  have hth := there_stays hth0 hb (by omega)
  have hbl := below_setCells (n := w.heap.size) (a := w) (b := w.heap.size + 1 + 1) (by omega) L 0 w1 (stp (stA (stA (stA (stA (st0 w) _) _) _) _) hb)
  have hr := World.rangeAt_setCells_same w1 (w.heap.size + 1 + 1) 0 L hth
  have hsz := hb.size
  have c : ∀ o, w1.cell? ⟨w.heap.size + 1 + 1 + 1, o, none⟩ = (#[.slice none 0 0, .slice none 0 0] : Array Value)[o]? := fun o => (hb.cell (p := ⟨w.heap.size + 1 + 1 + 1, o, none⟩) hz).trans (cell_new _ _ _ _ (by simp))
  have f : ∀ o, w1.frozen? ⟨w.heap.size + 1 + 1 + 1, o, none⟩ = false := fun o => (hb.frozen (p := ⟨w.heap.size + 1 + 1 + 1, o, none⟩) hz).trans (fnew1 _ _ _ _ (by simp))
  generalize w1.setCells (w.heap.size + 1 + 1) 0 L = X at *
  exact ⟨hbl, hr, (World.cell?_of_block (w := w1) (hh (w.heap.size + 1 + 1 + 1) (by omega))).trans (c 0), (World.cell?_of_block (w := w1) (hh (w.heap.size + 1 + 1 + 1) (by omega))).trans (c 1), fun o => (World.frozen?_of_block (w := w1) (hh (w.heap.size + 1 + 1 + 1) (by omega))).trans (f o), by omega⟩
theorem err_fin {w W : World} {L : List Value} (hb : Below w.heap.size w W) (hr : W.rangeAt (w.heap.size + 1 + 1) 0 L) (y0 : W.cell? ⟨w.heap.size + 1 + 1 + 1, 0, none⟩ = some (.slice none 0 0)) (y1 : W.cell? ⟨w.heap.size + 1 + 1 + 1, 1, none⟩ = some (.slice none 0 0)) :
    Below w.heap.size w ((W.setCell ⟨w.heap.size + 1 + 1 + 1, 0, none⟩ (.slice none 0 0)).setCell ⟨w.heap.size + 1 + 1 + 1, 1, none⟩ (.slice none 0 0)) ∧ ((W.setCell ⟨w.heap.size + 1 + 1 + 1, 0, none⟩ (.slice none 0 0)).setCell ⟨w.heap.size + 1 + 1 + 1, 1, none⟩ (.slice none 0 0)).rangeAt (w.heap.size + 1 + 1) 0 L ∧ ((W.setCell ⟨w.heap.size + 1 + 1 + 1, 0, none⟩ (.slice none 0 0)).setCell ⟨w.heap.size + 1 + 1 + 1, 1, none⟩ (.slice none 0 0)).rangeAt (w.heap.size + 1 + 1 + 1) 0 [.slice none 0 0, .slice none 0 0] := by
  refine ⟨(hb.setCell (by simp; omega) _).setCell (by simp; omega) _, fun j v hj => ?_, fun j v hj => ?_⟩
  · exact (World.cell?_setCell_far _ _ _ _ (by simp)).trans ((World.cell?_setCell_far _ _ _ _ (by simp)).trans (hr j v hj))
  · have e0 := World.cell?_setCell_same W _ (.slice none 0 0) y0
    have e1 : (W.setCell ⟨w.heap.size + 1 + 1 + 1, 0, none⟩ (.slice none 0 0)).cell? ⟨w.heap.size + 1 + 1 + 1, 1, none⟩ = some (.slice none 0 0) := (World.cell?_setCell_other _ _ _ _ (by simp)).trans y1
    match j, hj with
    | 0, hj => cases hj; exact (World.cell?_setCell_other _ _ _ _ (by simp)).trans e0
    | 1, hj => cases hj; exact World.cell?_setCell_same _ _ _ e1
theorem err_there (w : World) (o1 o2 : Obj) : (((w.alloc o1).alloc o2).alloc (.cells #[.int .u16 0, .int .u16 0, .int .u16 0, .int .u16 0, .int .u16 0, .int .u16 0, .int .u16 0, .int .u16 0, .int .u16 0, .bool false, .bool false, .bool false, .bool false, .bool false, .bool false] 25)).there (w.heap.size + 1 + 1) 0 15 := by
  have := there_new ((w.alloc o1).alloc o2) #[.int .u16 0, .int .u16 0, .int .u16 0, .int .u16 0, .int .u16 0, .int .u16 0, .int .u16 0, .int .u16 0, .int .u16 0, .bool false, .bool false, .bool false, .bool false, .bool false, .bool false] 25 15 rfl
  simpa using this
set_option maxRecDepth 100000 in
set_option maxHeartbeats 400000 in
theorem step_err (c : C.Cpu) (v1 v2 : Value) (rom ram : List UInt8) (r : Bool) (w : World) (h1 : sliceAt w v1 rom) (h2 : sliceAt w v2 ram) (hl : 1024 < rom.length ∨ 256 < ram.length) :
    Calls Tryz.prog 6 #[cpuV c, .agg #[v1, v2], .bool r] w fun e w' => e = .returned (.tuple #[cpuV C.Cpu.zero, .agg #[.slice none 0 0, .slice none 0 0], .int .i64 0, .int .i64 2]) ∧ Below w.heap.size w w' := by
  obtain ⟨a1, k1, x1⟩ := slice_len h1
  obtain ⟨a2, k2, x2⟩ := slice_len h2
  subst x1 x2
  have HCK := fun W : World => hid (chk_any a1 a2 rom.length ram.length k1 k2 W)
  rw [if_pos hl] at HCK
  clear h1 h2 hl
  go_enter Tryz.func6, Tryz.ntmps6
  go_wp2_with (first
    | (go_at_call 8; refine (HCK _).out.mono ?_; rintro e w1 ⟨rfl, hb1⟩; have hbA := hid (stp (stA (stA (stA (stA (st0 w) _) _) _) _) hb1); obtain ⟨kk1, ff1⟩ := bcell hb1; have z1 : w.heap.size + 1 + 1 + 1 < w1.heap.size := Nat.lt_of_lt_of_le (by simp) hb1.size)
    | (refine wpList_store_mid rfl 25 (.tmp 6) (.tmp 17) rfl (w.heap.size + 1 + 1) 0 _ rfl rfl ?_ ?_ ?_ ?_
       · exact there_stays (World.there_alloc (err_there w _ _) _) hb1 (by simp)
       · exact info_cpu
       · exact cpuL_one C.Cpu.zero
       refine cutL (fun W => Below w.heap.size w W ∧ W.rangeAt (w.heap.size + 1 + 1) 0 (cpuL C.Cpu.zero) ∧ W.cell? ⟨w.heap.size + 1 + 1 + 1, 0, none⟩ = some (.slice none 0 0) ∧ W.cell? ⟨w.heap.size + 1 + 1 + 1, 1, none⟩ = some (.slice none 0 0) ∧ (∀ o, W.frozen? ⟨w.heap.size + 1 + 1 + 1, o, none⟩ = false) ∧ w.heap.size + 1 + 1 + 1 < W.heap.size) ?_ ?_
       · exact err_mid (cpuL C.Cpu.zero) hb1 rfl
       clear kk1 ff1
       rintro W ⟨hbW, hrW, y0, y1, yf, yz⟩))
  refine cutB (fun Y => Below w.heap.size w Y ∧ Y.rangeAt (w.heap.size + 1 + 1) 0 (cpuL C.Cpu.zero) ∧ Y.rangeAt (w.heap.size + 1 + 1 + 1) 0 [.slice none 0 0, .slice none 0 0]) (err_fin hbW hrW y0 y1) ?_
  rintro Y ⟨hbY, hrA, hrB⟩
  have hl := load_cpu Y _ _ hrA
  have hl2 := run_loadVar_mid (P := Tryz.prog) Y _ 0 28 _ _ hrB Tryz.underlying28 rfl info_sp
  refine bodyPost_ret (v := .tuple #[cpuV C.Cpu.zero, .agg #[.slice none 0 0, .slice none 0 0], .int .i64 0, .int .i64 2]) ?_ rfl ⟨rfl, hbY⟩
  simp only [results, Tryz.results6]
  simp
  show (Result.andThen (Sem.run Tryz.prog (loadVar 25 ⟨w.heap.size + 1 + 1, 0, none⟩) Y) _) = _
  rw [hl]
  show (Result.andThen (Sem.run Tryz.prog (loadVar 28 ⟨w.heap.size + 1 + 1 + 1, 0, none⟩) Y) _) = _
  rw [hl2]
  rfl
set_option linter.unusedVariables false

section
variable (rom : List UInt8)
theorem sp_rd2 (ram : List UInt8) (a : Int) : ((spc rom).rd ram a).2 = ram := rfl
theorem sp_rdw2 (ram : List UInt8) (a : Int) : ((spc rom).rdw ram a).2 = ram := rfl
theorem sp_wr_len (ram : List UInt8) (a b : Int) : ((spc rom).wr ram a b).length = ram.length := by
  unfold spc
  simp only
  split
  · simp
  · rfl
theorem sp_wrw_len (ram : List UInt8) (a n : Int) : ((spc rom).wrw ram a n).length = ram.length := by
  unfold C.Mem.wrw
  rw [sp_wr_len, sp_wr_len]
theorem sp_push_len (x : C.St (List UInt8)) (n : Int) : (C.push (spc rom) x n).s.length = x.s.length := sp_wrw_len rom _ _ _
theorem sp_pop_s (x : C.St (List UInt8)) : (C.pop (spc rom) x).s = x.s := rfl
theorem sp_leave_len (x : C.St (List UInt8)) (a : Int) : (C.leave (spc rom) x a).s.length = x.s.length := by
  show (C.push (spc rom) (C.push (spc rom) x x.c.PC) (C.sign (C.push (spc rom) x x.c.PC).c)).s.length = _
  rw [sp_push_len, sp_push_len]
theorem sp_act_len (x : C.St (List UInt8)) (k : Nat) (d s n v : Int) : (C.act (spc rom) x k d s n v).s.length = x.s.length := by
  unfold C.act
  split
  all_goals first
    | rfl
    | exact sp_wrw_len rom _ _ _
    | exact sp_wr_len rom _ _ _
    | exact sp_push_len rom _ _
    | exact sp_leave_len rom _ _
    | (split <;> rfl)
/-- The orders that write. -/
def writes (k : Nat) : Prop := k = 4 ∨ k = 6 ∨ k = 20 ∨ k = 22 ∨ k = 31
theorem sp_act_same (x : C.St (List UInt8)) (k : Nat) (d s n v : Int) (h : ¬ writes k) : (C.act (spc rom) x k d s n v).s = x.s := by
  unfold C.act
  split
  all_goals first
    | rfl
    | (split <;> rfl)
    | (exact absurd (by unfold writes; omega) h)
theorem sp_act_n (x : C.St (List UInt8)) (k : Nat) (d s n v : Int) : x.n ≤ (C.act (spc rom) x k d s n v).n ∧ (C.act (spc rom) x k d s n v).n ≤ x.n + 1 := by
  unfold C.act
  split
  all_goals first
    | exact ⟨Int.le_refl _, (by show x.n ≤ x.n + 1; omega)⟩
    | exact ⟨(by show x.n ≤ x.n + 1; omega), Int.le_refl _⟩
    | (split
       all_goals first
         | exact ⟨Int.le_refl _, (by show x.n ≤ x.n + 1; omega)⟩
         | exact ⟨(by show x.n ≤ x.n + 1; omega), Int.le_refl _⟩)
theorem cyc_bd : ∀ k, k < 32 → k ≠ 30 → 1 ≤ K.cyc k ∧ K.cyc k ≤ 6 := by decide +kernel
theorem sp_behind_s (c : C.Cpu) (ram : List UInt8) : (C.behind (spc rom) c ram).s = ram := by
  unfold C.behind
  simp only
  split <;> rfl
theorem sp_word1 (c : C.Cpu) (ram : List UInt8) : 0 ≤ C.word1 (spc rom) c ram ∧ C.word1 (spc rom) c ram ≤ 65535 := by
  have h1 := spc_byte rom ram c.PC
  have h2 := spc_byte rom ram ((c.PC + 1) % 65536)
  have e : C.word1 (spc rom) c ram = ((spc rom).rd ram c.PC).1 * 256 + ((spc rom).rd ram ((c.PC + 1) % 65536)).1 := rfl
  rw [e]
  omega
theorem sp_step_len (c : C.Cpu) (ram : List UInt8) (r : Bool) : (C.step (spc rom) c ram r).s.length = ram.length := by
  unfold C.step
  split
  · exact sp_leave_len rom _ _
  · split
    · rfl
    · unfold C.order
      rw [sp_act_len]
      show (C.behind (spc rom) c ram).s.length = _
      rw [sp_behind_s]
theorem sp_step_n (c : C.Cpu) (ram : List UInt8) (r : Bool) : 1 ≤ (C.step (spc rom) c ram r).n ∧ (C.step (spc rom) c ram r).n ≤ 7 := by
  unfold C.step
  split
  · exact ⟨by show (1 : Int) ≤ 6; omega, by show (6 : Int) ≤ 7; omega⟩
  · split
    · exact ⟨by show (1 : Int) ≤ 1; omega, by show (1 : Int) ≤ 7; omega⟩
    · unfold C.order
      obtain ⟨h32, h30, _⟩ := rk_bd _ (sp_word1 rom c ram)
      have h1 := cyc_bd _ h32 h30
      have h2 := sp_act_n rom { C.behind (spc rom) c ram with n := K.cyc (O.rk (C.word1 (spc rom) c ram)) } (O.rk (C.word1 (spc rom) c ram)) (O.rD (C.word1 (spc rom) c ram)) (O.rS (C.word1 (spc rom) c ram)) (O.rN (C.word1 (spc rom) c ram)) (O.rW (C.word1 (spc rom) c ram) (C.word2 (spc rom) c ram))
      have e : ({ C.behind (spc rom) c ram with n := K.cyc (O.rk (C.word1 (spc rom) c ram)) } : C.St (List UInt8)).n = K.cyc (O.rk (C.word1 (spc rom) c ram)) := rfl
      rw [e] at h2
      omega
theorem sp_step_rung (c : C.Cpu) (ram : List UInt8) (r : Bool) (h : (r && c.May) = true) : (C.step (spc rom) c ram r).n = 6 ∧ (C.step (spc rom) c ram r).c.May = false ∧ (C.step (spc rom) c ram r).c.Waits = false := by
  unfold C.step
  rw [if_pos h]
  exact ⟨rfl, rfl, rfl⟩
theorem sp_step_waits (c : C.Cpu) (ram : List UInt8) (r : Bool) (h : (r && c.May) = false) (hw : c.Waits = true) : C.step (spc rom) c ram r = ⟨c, ram, 1⟩ := by
  unfold C.step
  rw [if_neg (by simp [h]), if_pos hw]
theorem sp_step_quiet (c : C.Cpu) (ram : List UInt8) (r : Bool) (h : (r && c.May) = false) (hw : c.Waits = false) (hq : ¬ writes (O.rk (C.word1 (spc rom) c ram))) : (C.step (spc rom) c ram r).s = ram := by
  unfold C.step
  rw [if_neg (by simp [h]), if_neg (by simp [hw])]
  unfold C.order
  rw [sp_act_same _ _ _ _ _ _ _ hq]
  exact sp_behind_s rom c ram
end
/-- So many steps: the processor, the memory, all cycles. -/
def runTo {σ : Type} (m : C.Mem σ) (s : σ) (rung : Nat → Bool) : Nat → C.Cpu × σ × Int
  | 0 => ((C.begin' m s).1, (C.begin' m s).2, 0)
  | k + 1 => ((C.step m (runTo m s rung k).1 (runTo m s rung k).2.1 (rung k)).c, (C.step m (runTo m s rung k).1 (runTo m s rung k).2.1 (rung k)).s, (runTo m s rung k).2.2 + (C.step m (runTo m s rung k).1 (runTo m s rung k).2.1 (rung k)).n)
theorem runTo_n (rom ram : List UInt8) (rung : Nat → Bool) : ∀ k, 0 ≤ (runTo (spc rom) ram rung k).2.2 ∧ (runTo (spc rom) ram rung k).2.2 ≤ 7 * k
  | 0 => ⟨by simp [runTo], by simp [runTo]⟩
  | k + 1 => by
    have h1 := runTo_n rom ram rung k
    have h2 := sp_step_n rom (runTo (spc rom) ram rung k).1 (runTo (spc rom) ram rung k).2.1 (rung k)
    simp only [runTo]
    omega
theorem runTo_len (rom ram : List UInt8) (rung : Nat → Bool) : ∀ k, (runTo (spc rom) ram rung k).2.1.length = ram.length
  | 0 => rfl
  | k + 1 => by
    simp only [runTo]
    rw [sp_step_len]
    exact runTo_len rom ram rung k
/-- What Run's blocks hold between two steps: the result's processor at b6, its space at b7, the reach at br, the rings at bq. -/
structure RunW (w : World) (B b6 b7 sb br bq : Nat) (vR vM : Value) (rom : List UInt8) (l : List Int) (W : World) (c : C.Cpu) (ram : List UInt8) : Prop where
  sp : SpI B sb vR vM rom W ram
  low : Below w.heap.size w W
  hc : W.rangeAt b6 0 (cpuL c)
  cf : ∀ o, W.frozen? ⟨b6, o, none⟩ = false
  o0 : W.cell? ⟨b7, 0, none⟩ = some vR
  o1 : W.cell? ⟨b7, 1, none⟩ = some vM
  of : ∀ o, W.frozen? ⟨b7, o, none⟩ = false
  r0 : W.cell? ⟨br, 0, none⟩ = some (rdV sb)
  r1 : W.cell? ⟨br, 1, none⟩ = some (wrV sb)
  q : W.rangeAt bq 0 (rcl l)
  nT : ∀ k, k = b6 ∨ k = b7 ∨ k = br ∨ k = bq → ¬ spT sb vR vM ram k ∧ k < W.heap.size
  ne : b6 ≠ b7 ∧ b6 ≠ br ∧ b6 ≠ bq ∧ w.heap.size ≤ b6 ∧ w.heap.size ≤ B
  ok : c.ok
section
variable {w W W' : World} {B b6 b7 sb br bq : Nat} {vR vM : Value} {rom : List UInt8} {l : List Int} {c c' : C.Cpu} {ram ram' : List UInt8}
theorem spT_any {sb k : Nat} {vR vM : Value} {ram ram' : List UInt8} (h : ¬ spT sb vR vM ram k) : ¬ spT sb vR vM ram' k := h
/-- A step of the processor: only what it comes to has turned. -/
theorem RunW.moved (h : RunW w B b6 b7 sb br bq vR vM rom l W c ram) (hI : SpI B sb vR vM rom W' ram') (hm : Mv B (spT sb vR vM ram) (spT sb vR vM ram') W W') : RunW w B b6 b7 sb br bq vR vM rom l W' c ram' := by
  have cell : ∀ k, (k = b6 ∨ k = b7 ∨ k = br ∨ k = bq) → ∀ o, W'.cell? ⟨k, o, none⟩ = W.cell? ⟨k, o, none⟩ := fun k hk o => hm.cell (h.nT k hk).2 (h.nT k hk).1 o
  have froz : ∀ k, (k = b6 ∨ k = b7 ∨ k = br ∨ k = bq) → ∀ o, W'.frozen? ⟨k, o, none⟩ = W.frozen? ⟨k, o, none⟩ := fun k hk o => hm.froz (h.nT k hk).2 (h.nT k hk).1 o
  exact ⟨hI, h.low.trans (hm.below.mono h.ne.2.2.2.2), fun j v hj => (cell _ (Or.inl rfl) _).trans (h.hc j v hj), fun o => (froz _ (Or.inl rfl) o).trans (h.cf o), (cell _ (Or.inr (Or.inl rfl)) 0).trans h.o0, (cell _ (Or.inr (Or.inl rfl)) 1).trans h.o1, fun o => (froz _ (Or.inr (Or.inl rfl)) o).trans (h.of o),
    (cell _ (Or.inr (Or.inr (Or.inl rfl))) 0).trans h.r0, (cell _ (Or.inr (Or.inr (Or.inl rfl))) 1).trans h.r1, fun j v hj => (cell _ (Or.inr (Or.inr (Or.inr rfl))) _).trans (h.q j v hj), fun k hk => ⟨(h.nT k hk).1, Nat.lt_of_lt_of_le (h.nT k hk).2 hm.size⟩, h.ne, h.ok⟩
theorem RunW.cth (h : RunW w B b6 b7 sb br bq vR vM rom l W c ram) : W.there b6 0 15 := fun j hj => by
  refine ⟨?_, h.cf _⟩
  have hj' : j < (cpuL c).length := hj
  rw [h.hc j _ (List.getElem?_eq_getElem hj')]
  rfl
/-- The result's processor is written. -/
theorem RunW.put (h : RunW w B b6 b7 sb br bq vR vM rom l W c ram) (hc' : c'.ok) : RunW w B b6 b7 sb br bq vR vM rom l (W.setCells b6 0 (cpuL c')) c' ram := by
  have hth : W.there b6 0 (cpuL c').length := h.cth
  have hh := setCells_heap b6 (cpuL c') 0 W
  have hs := setCells_size b6 (cpuL c') 0 W
  have hr := World.rangeAt_setCells_same W b6 0 (cpuL c') hth
  have hb := below_setCells (n := w.heap.size) (a := w) (b := b6) h.ne.2.2.2.1 (cpuL c') 0 W h.low
  have hfz : ∀ o, (W.setCells b6 0 (cpuL c')).frozen? ⟨b6, o, none⟩ = W.frozen? ⟨b6, o, none⟩ := fun o => World.frozen?_setCells _ _ _ _ _
  generalize W.setCells b6 0 (cpuL c') = X at *
  have n := h.ne
  refine ⟨h.sp.keep (Nat.le_of_eq hs.symm) (fun k hk => hh k (fun e => (h.nT b6 (Or.inl rfl)).1 (e ▸ hk))), hb, hr, fun o => (hfz o).trans (h.cf o), ?_, ?_, ?_, ?_, ?_, fun j v hj => (World.cell?_of_block (w := W) (hh bq (Ne.symm n.2.2.1))).trans (h.q j v hj), fun k hk => ⟨(h.nT k hk).1, by rw [hs]; exact (h.nT k hk).2⟩, n, hc'⟩
  · exact (World.cell?_of_block (w := W) (hh b7 (Ne.symm n.1))).trans h.o0
  · exact (World.cell?_of_block (w := W) (hh b7 (Ne.symm n.1))).trans h.o1
  · exact fun o => (World.frozen?_of_block (w := W) (hh b7 (Ne.symm n.1))).trans (h.of o)
  · exact (World.cell?_of_block (w := W) (hh br (Ne.symm n.2.1))).trans h.r0
  · exact (World.cell?_of_block (w := W) (hh br (Ne.symm n.2.1))).trans h.r1
theorem RunW.same (h : RunW w B b6 b7 sb br bq vR vM rom l W c ram) : RunW w B b6 b7 sb br bq vR vM rom l W.drew c ram :=
  ⟨h.sp.keep (Nat.le_refl _) (fun _ _ => rfl), h.low.drew, h.hc, h.cf, h.o0, h.o1, h.of, h.r0, h.r1, h.q, h.nT, h.ne, h.ok⟩
/-- Where Run begins its steps. -/
theorem run_start {w w1 w2 w3 w4 : World} {o1 R : Obj} {aR aM : Option Addr} {cR cM : Nat} {rom ram : List UInt8} {l : List Int} (hs : shapesAt w) (hf : rom.length ≤ 1024 ∧ ram.length ≤ 256)
    (hb1 : Below (((w.alloc o1).alloc (.cells #[.int .u16 0, .int .u16 0, .int .u16 0, .int .u16 0, .int .u16 0, .int .u16 0, .int .u16 0, .int .u16 0, .int .u16 0, .bool false, .bool false, .bool false, .bool false, .bool false, .bool false] 25)).alloc (.cells #[.slice none 0 0, .slice none 0 0] 28)).heap.size (((w.alloc o1).alloc (.cells #[.int .u16 0, .int .u16 0, .int .u16 0, .int .u16 0, .int .u16 0, .int .u16 0, .int .u16 0, .int .u16 0, .int .u16 0, .bool false, .bool false, .bool false, .bool false, .bool false, .bool false] 25)).alloc (.cells #[.slice none 0 0, .slice none 0 0] 28)) w1)
    (hcop : Cop w1.heap.size rom ram w2 (.slice aR rom.length cR) (.slice aM ram.length cM)) (hb2 : Below w1.heap.size w1 w2)
    (hx3 : w3.heap[w2.heap.size]? = some (.cells #[.slice aR rom.length cR, .slice aM ram.length cM] 28 (0, 0)))
    (hb3 : Below w2.heap.size ((w2.setCell ⟨w.heap.size + 1 + 1, 0, none⟩ (.slice aR rom.length cR)).setCell ⟨w.heap.size + 1 + 1, 1, none⟩ (.slice aM ram.length cM)) w3)
    (hb4 : Below (w3.alloc (.cells #[rdV w2.heap.size, wrV w2.heap.size] 53)).heap.size (w3.alloc (.cells #[rdV w2.heap.size, wrV w2.heap.size] 53)) w4) :
    RunW w w1.heap.size (w.heap.size + 1) (w.heap.size + 1 + 1) w2.heap.size w3.heap.size w4.heap.size (.slice aR rom.length cR) (.slice aM ram.length cM) rom l ((w4.alloc (.cells Tryz.zeroCells77 77)).setCells w4.heap.size 0 (rcl l)) C.Cpu.zero ram := by
  have z1 : w.heap.size + 1 + 1 < w1.heap.size := Nat.lt_of_lt_of_le (by simp) hb1.size
  have z2 : w1.heap.size ≤ w2.heap.size := hb2.size
  have z3 : w2.heap.size < w3.heap.size := (Array.getElem?_eq_some_iff.1 hx3).1
  have z4 : w3.heap.size < w4.heap.size := Nat.lt_of_lt_of_le (by simp) hb4.size
  have hg := hs.lt
  have hA : Below w.heap.size w w1 := stp (stA (stA (stA (st0 w) _) _) _) hb1
  have hB : Below w.heap.size w w3 := ((stp hA hb2).setCell (by simp; omega) _ |>.setCell (by simp; omega) _).trans (hb3.mono (by omega))
  have hD : Below w.heap.size w w4 := stp (stA hB _) hb4
  have hth0 : (w4.alloc (.cells Tryz.zeroCells77 77)).there w4.heap.size 0 (rcl l).length := by rw [rcl_len]; exact there_new w4 _ _ 500 zero_size
  have hh := setCells_heap w4.heap.size (rcl l) 0 (w4.alloc (.cells Tryz.zeroCells77 77))
  have hz := setCells_size w4.heap.size (rcl l) 0 (w4.alloc (.cells Tryz.zeroCells77 77))
  have hr := World.rangeAt_setCells_same _ w4.heap.size 0 (rcl l) hth0
  have hbl := below_setCells (n := w.heap.size) (a := w) (b := w4.heap.size) (by omega) (rcl l) 0 _ (stA hD (.cells Tryz.zeroCells77 77))
  have hblk : ∀ k, k < w4.heap.size → ((w4.alloc (.cells Tryz.zeroCells77 77)).setCells w4.heap.size 0 (rcl l)).heap[k]? = w4.heap[k]? := fun k hk => (hh k (by omega)).trans (heap_alloc_old _ _ hk)
  generalize (w4.alloc (.cells Tryz.zeroCells77 77)).setCells w4.heap.size 0 (rcl l) = X at *
  have hszX : X.heap.size = w4.heap.size + 1 := by rw [hz]; simp
  have h43 : ∀ k, k < w3.heap.size → X.heap[k]? = w3.heap[k]? := fun k hk => (hblk k (by omega)).trans ((hb4.block k (by simp; omega)).trans (heap_alloc_old _ _ hk))
  have h32 : ∀ k, k < w2.heap.size → k ≠ w.heap.size + 1 + 1 → X.heap[k]? = w2.heap[k]? := fun k hk hn => (h43 k (by omega)).trans ((hb3.block k hk).trans ((Below.heap_setCell _ _ _ _ hn).trans (Below.heap_setCell _ _ _ _ hn)))
  have hc7 : ∀ o, X.cell? ⟨w.heap.size + 1 + 1, o, none⟩ = ((w2.setCell ⟨w.heap.size + 1 + 1, 0, none⟩ (.slice aR rom.length cR)).setCell ⟨w.heap.size + 1 + 1, 1, none⟩ (.slice aM ram.length cM)).cell? ⟨w.heap.size + 1 + 1, o, none⟩ := fun o => (World.cell?_of_block (w := w3) (h43 (w.heap.size + 1 + 1) (by omega))).trans (hb3.cell (p := ⟨w.heap.size + 1 + 1, o, none⟩) (show w.heap.size + 1 + 1 < w2.heap.size by omega))
  have h2c : ∀ o, w2.cell? ⟨w.heap.size + 1 + 1, o, none⟩ = (#[.slice none 0 0, .slice none 0 0] : Array Value)[o]? := fun o => (hb2.cell (p := ⟨w.heap.size + 1 + 1, o, none⟩) z1).trans ((hb1.cell (p := ⟨w.heap.size + 1 + 1, o, none⟩) (show w.heap.size + 1 + 1 < _ by simp)).trans (cell_new _ _ _ _ (by simp)))
  have e0 := World.cell?_setCell_same w2 ⟨w.heap.size + 1 + 1, 0, none⟩ (.slice aR rom.length cR) (h2c 0)
  have e1 : (w2.setCell ⟨w.heap.size + 1 + 1, 0, none⟩ (.slice aR rom.length cR)).cell? ⟨w.heap.size + 1 + 1, 1, none⟩ = some (.slice none 0 0) := (World.cell?_setCell_other _ _ _ _ (by simp)).trans (h2c 1)
  have hrows : ∀ k, (Value.slice aR rom.length cR).ownBlock = some k ∨ (Value.slice aM ram.length cM).ownBlock = some k → w1.heap.size ≤ k ∧ k < w2.heap.size := fun k hk => hk.elim (fun x => hcop.1.lt k x) (fun x => hcop.2.1.lt k x)
  refine ⟨cop_sp ⟨own_of_block hcop.1 (fun k hk => h32 k (hrows k (Or.inl hk)).2 (by have := (hrows k (Or.inl hk)).1; omega)), own_of_block hcop.2.1 (fun k hk => h32 k (hrows k (Or.inr hk)).2 (by have := (hrows k (Or.inr hk)).1; omega)), hcop.2.2⟩ (hs.kept hbl) (by omega) ((h43 _ z3).trans hx3) (by omega) hf, hbl, ?_, ?_, ?_, ?_, ?_, ?_, ?_, hr, ?_, ⟨by omega, by omega, by omega, by omega, by omega⟩, C.zero_ok⟩
  · intro j v hj
    refine (World.cell?_of_block (w := w2) (h32 (w.heap.size + 1) (by omega) (by omega))).trans ?_
    refine (hb2.cell (p := ⟨w.heap.size + 1, 0 + j, none⟩) (show w.heap.size + 1 < w1.heap.size by omega)).trans ((hb1.cell (p := ⟨w.heap.size + 1, 0 + j, none⟩) (show w.heap.size + 1 < _ by simp)).trans ?_)
    rw [Nat.zero_add]
    exact (qz _ _ _ _ _ (by simp)).trans (by simpa [cpuL, C.Cpu.r, C.Cpu.zero] using hj)
  · intro o
    refine (World.frozen?_of_block (w := w2) (h32 (w.heap.size + 1) (by omega) (by omega))).trans ?_
    exact (hb2.frozen (p := ⟨w.heap.size + 1, o, none⟩) (show w.heap.size + 1 < w1.heap.size by omega)).trans ((hb1.frozen (p := ⟨w.heap.size + 1, o, none⟩) (show w.heap.size + 1 < _ by simp)).trans (qzf _ _ _ _ _ (by simp)))
  · exact (hc7 0).trans ((World.cell?_setCell_other _ _ _ _ (by simp)).trans e0)
  · exact (hc7 1).trans (World.cell?_setCell_same _ _ _ e1)
  · intro o
    refine (World.frozen?_of_block (w := w3) (h43 (w.heap.size + 1 + 1) (by omega))).trans ((hb3.frozen (p := ⟨w.heap.size + 1 + 1, o, none⟩) (show w.heap.size + 1 + 1 < w2.heap.size by omega)).trans ?_)
    have f2 : w2.frozen? ⟨w.heap.size + 1 + 1, o, none⟩ = false := (hb2.frozen (p := ⟨w.heap.size + 1 + 1, o, none⟩) z1).trans ((hb1.frozen (p := ⟨w.heap.size + 1 + 1, o, none⟩) (show w.heap.size + 1 + 1 < _ by simp)).trans (fnew1 _ _ _ _ (by simp)))
    simpa using f2
  · exact (World.cell?_of_block (w := w4) (hblk w3.heap.size z4)).trans ((hb4.cell (p := ⟨w3.heap.size, 0, none⟩) (show w3.heap.size < _ by simp)).trans (cell_new _ _ _ _ rfl))
  · exact (World.cell?_of_block (w := w4) (hblk w3.heap.size z4)).trans ((hb4.cell (p := ⟨w3.heap.size, 1, none⟩) (show w3.heap.size < _ by simp)).trans (cell_new _ _ _ _ rfl))
  · intro k hk
    refine ⟨?_, by rcases hk with rfl | rfl | rfl | rfl <;> omega⟩
    rintro (x | x | x | x)
    · rcases hk with rfl | rfl | rfl | rfl <;> omega
    · rcases hk with rfl | rfl | rfl | rfl <;> omega
    · have := hrows k (Or.inl x); rcases hk with rfl | rfl | rfl | rfl <;> omega
    · have := hrows k (Or.inr x); rcases hk with rfl | rfl | rfl | rfl <;> omega
end
def romS : List UInt8 := [0, 6, 0, 8, 0, 0, 121, 31, 0, 0]
def ramS : List UInt8 := [0, 0, 0, 0, 0, 0, 0, 0]
def cpuS : C.Cpu := { R := [0, 0, 0, 0, 0, 0, 0, 32776], PC := 6, Z := false, N := false, C := false, V := false, May := true, Waits := false }
theorem cpuS_ok : cpuS.ok := ⟨rfl, by decide +kernel⟩
theorem runS : (runTo (spc romS) ramS (rg []) 1).1.r 1 = 65535 ∧ (runTo (spc romS) ramS (rg []) 1).1.N = true ∧ (runTo (spc romS) ramS (rg []) 1).1.PC = 8 ∧ (runTo (spc romS) ramS (rg []) 1).2.2 = 1 := by decide +kernel
theorem stepS : (C.step (spc romS) cpuS ramS true).n = 6 ∧ (C.step (spc romS) cpuS ramS true).c.PC = 8 ∧ (C.step (spc romS) cpuS ramS true).c.May = false ∧ (C.step (spc romS) cpuS ramS true).s = [0, 0, 0, 0, 0, 16, 0, 6] := by decide +kernel
theorem fld {H : Type} {enc : TypeId × Value → H} {P : Program} {w : World} {base : Nat} {spare : Nat → Bool} {held : Bool} {n i o : Nat} {ty : TypeId} {cs : List Value} {xs : List (DataW H × List MemPlace)}
    (h : DataW.trod enc P w base spare held n ty ((cs.drop o).take (P.cellsOf ty)) = xs[i]?) (hi : i < xs.length) (hc : P.cellsOf ty = 1) {v : Value} (hv : cs[o]? = some v) : ∃ y, DataW.trod enc P w base spare held n ty [v] = some y := by
  rw [hc, List.getElem?_eq_getElem hi] at h
  have e : (cs.drop o).take 1 = [v] := by
    rw [List.take_one, List.head?_drop, hv]
    rfl
  rw [e] at h
  exact ⟨_, h⟩
theorem fld_int {H : Type} {enc : TypeId × Value → H} {P : Program} {w : World} {base : Nat} {spare : Nat → Bool} {held : Bool} {n i o : Nat} {ty : TypeId} {cs : List Value} {xs : List (DataW H × List MemPlace)} {k : IntKind}
    (h : DataW.trod enc P w base spare held n ty ((cs.drop o).take (P.cellsOf ty)) = xs[i]?) (hi : i < xs.length) (hc : P.cellsOf ty = 1) (ht : P.underlying ty = some (.int k)) {v : Value} (hv : cs[o]? = some v) : ∃ a : Int, v = .int k a ∧ (Lit.int k a).wf = true := by
  obtain ⟨y, hy⟩ := fld h hi hc hv
  obtain ⟨a, e, _, hw⟩ := DataW.trod_int ht hy
  simp only [List.cons.injEq, and_true] at e
  exact ⟨a, e, hw⟩
theorem fld_bool {H : Type} {enc : TypeId × Value → H} {P : Program} {w : World} {base : Nat} {spare : Nat → Bool} {held : Bool} {n i o : Nat} {ty : TypeId} {cs : List Value} {xs : List (DataW H × List MemPlace)}
    (h : DataW.trod enc P w base spare held n ty ((cs.drop o).take (P.cellsOf ty)) = xs[i]?) (hi : i < xs.length) (hc : P.cellsOf ty = 1) (ht : P.underlying ty = some .bool) {v : Value} (hv : cs[o]? = some v) : ∃ a : Bool, v = .bool a := by
  obtain ⟨y, hy⟩ := fld h hi hc hv
  obtain ⟨a, e, _⟩ := DataW.trod_bool ht hy
  simp only [List.cons.injEq, and_true] at e
  exact ⟨a, e⟩
theorem cells15 {cs : Array Value} (h : cs.size = 15) : ∃ c0 c1 c2 c3 c4 c5 c6 c7 c8 c9 c10 c11 c12 c13 c14, cs = #[c0, c1, c2, c3, c4, c5, c6, c7, c8, c9, c10, c11, c12, c13, c14] := by
  obtain ⟨l⟩ := cs
  match l, h with
  | [c0, c1, c2, c3, c4, c5, c6, c7, c8, c9, c10, c11, c12, c13, c14], _ => exact ⟨c0, c1, c2, c3, c4, c5, c6, c7, c8, c9, c10, c11, c12, c13, c14, rfl⟩
set_option maxRecDepth 100000 in
/-- A processor that came in. -/
theorem open_cpu {H : Type} {enc : TypeId × Value → H} {w : World} {base : Nat} {spare : Nat → Bool} {held : Bool} {r : Reach} {bb : Nat} {v : Value} {d : DataW H} {p : List MemPlace}
    (hv : Value.okWide Tryz.prog w r bb 25 v) (h : DataW.Trod enc Tryz.prog w base spare held 25 v d p) : ∃ c : C.Cpu, v = cpuV c ∧ c.ok := by
  have hC : Tryz.prog.cellsOf 25 = 15 := by kernel_rfl
  have hU : Tryz.prog.cellsOf 22 = 1 := by kernel_rfl
  have hB : Tryz.prog.cellsOf 4 = 1 := by kernel_rfl
  have hR : Tryz.prog.cellsOf 23 = 8 := by kernel_rfl
  obtain ⟨cs, rfl, hsz⟩ := okWide_struct Tryz.underlying25 hv
  obtain ⟨c0, c1, c2, c3, c4, c5, c6, c7, c8, c9, c10, c11, c12, c13, c14, rfl⟩ := cells15 (hsz.trans hC)
  obtain ⟨fuel, hf⟩ := h
  obtain ⟨xs, n, _, _, _, hlen, hfs⟩ := DataW.trod_struct Tryz.underlying25 hf
  have hl8 : xs.length = 8 := hlen
  have g0 : DataW.trod enc Tryz.prog w base spare held n 23 (([c0, c1, c2, c3, c4, c5, c6, c7, c8, c9, c10, c11, c12, c13, c14].drop 0).take (Tryz.prog.cellsOf 23)) = xs[0]? := hfs 0 _ rfl
  rw [List.getElem?_eq_getElem (by omega)] at g0
  obtain ⟨ys, m, _, _, _, hyl, hys⟩ := DataW.trod_array Tryz.underlying23 g0
  obtain ⟨a0, rfl, w0⟩ := fld_int (o := 0 * Tryz.prog.cellsOf 22) (v := c0) (hys 0 (by omega)) (by omega) hU Tryz.underlying22 (by rw [hU, hR]; rfl)
  obtain ⟨a1, rfl, w1⟩ := fld_int (o := 1 * Tryz.prog.cellsOf 22) (v := c1) (hys 1 (by omega)) (by omega) hU Tryz.underlying22 (by rw [hU, hR]; rfl)
  obtain ⟨a2, rfl, w2⟩ := fld_int (o := 2 * Tryz.prog.cellsOf 22) (v := c2) (hys 2 (by omega)) (by omega) hU Tryz.underlying22 (by rw [hU, hR]; rfl)
  obtain ⟨a3, rfl, w3⟩ := fld_int (o := 3 * Tryz.prog.cellsOf 22) (v := c3) (hys 3 (by omega)) (by omega) hU Tryz.underlying22 (by rw [hU, hR]; rfl)
  obtain ⟨a4, rfl, w4⟩ := fld_int (o := 4 * Tryz.prog.cellsOf 22) (v := c4) (hys 4 (by omega)) (by omega) hU Tryz.underlying22 (by rw [hU, hR]; rfl)
  obtain ⟨a5, rfl, w5⟩ := fld_int (o := 5 * Tryz.prog.cellsOf 22) (v := c5) (hys 5 (by omega)) (by omega) hU Tryz.underlying22 (by rw [hU, hR]; rfl)
  obtain ⟨a6, rfl, w6⟩ := fld_int (o := 6 * Tryz.prog.cellsOf 22) (v := c6) (hys 6 (by omega)) (by omega) hU Tryz.underlying22 (by rw [hU, hR]; rfl)
  obtain ⟨a7, rfl, w7⟩ := fld_int (o := 7 * Tryz.prog.cellsOf 22) (v := c7) (hys 7 (by omega)) (by omega) hU Tryz.underlying22 (by rw [hU, hR]; rfl)
  obtain ⟨a8, rfl, w8⟩ := fld_int (ty := 22) (o := 8) (v := c8) (hfs 1 _ rfl) (by omega) hU Tryz.underlying22 rfl
  obtain ⟨b0, rfl⟩ := fld_bool (ty := 4) (o := 9) (v := c9) (hfs 2 _ rfl) (by omega) hB Tryz.underlying4 rfl
  obtain ⟨b1, rfl⟩ := fld_bool (ty := 4) (o := 10) (v := c10) (hfs 3 _ rfl) (by omega) hB Tryz.underlying4 rfl
  obtain ⟨b2, rfl⟩ := fld_bool (ty := 4) (o := 11) (v := c11) (hfs 4 _ rfl) (by omega) hB Tryz.underlying4 rfl
  obtain ⟨b3, rfl⟩ := fld_bool (ty := 4) (o := 12) (v := c12) (hfs 5 _ rfl) (by omega) hB Tryz.underlying4 rfl
  obtain ⟨b4, rfl⟩ := fld_bool (ty := 4) (o := 13) (v := c13) (hfs 6 _ rfl) (by omega) hB Tryz.underlying4 rfl
  obtain ⟨b5, rfl⟩ := fld_bool (ty := 4) (o := 14) (v := c14) (hfs 7 _ rfl) (by omega) hB Tryz.underlying4 rfl
  have k0 := bounds_u16 w0
  have k1 := bounds_u16 w1
  have k2 := bounds_u16 w2
  have k3 := bounds_u16 w3
  have k4 := bounds_u16 w4
  have k5 := bounds_u16 w5
  have k6 := bounds_u16 w6
  have k7 := bounds_u16 w7
  have k8 := bounds_u16 w8
  refine ⟨{ R := [a0, a1, a2, a3, a4, a5, a6, a7], PC := a8, Z := b0, N := b1, C := b2, V := b3, May := b4, Waits := b5 }, rfl, ?_⟩
  refine ⟨rfl, fun x hx => ?_, k8.1, k8.2⟩
  simp only [List.mem_cons, List.not_mem_nil, or_false] at hx
  rcases hx with rfl | rfl | rfl | rfl | rfl | rfl | rfl | rfl <;> assumption
theorem sp_none {w : World} {a : Addr} {v : Value} (h : w.cell? a = some v) : a.spot = none := by
  unfold World.cell? at h
  split at h
  · split at h
    · cases h
    · rename_i hs
      cases hh : a.spot with
      | none => rfl
      | some x => rw [hh] at hs; simp at hs
  · cases h
/-- Bytes that came in. -/
theorem bytes_of {H : Type} {enc : TypeId × Value → H} {W : World} {v : Value} {x : DataW H × List MemPlace} {fuel : Nat} {t : TypeId} (ht : Tryz.prog.underlying t = some (.slice 5)) (hf : DataW.trod enc Tryz.prog W 0 (fun _ => true) true fuel t [v] = some x) : ∃ l, sliceAt W v l ∧ l.length ≤ maxLen := by
  have c1 : Tryz.prog.cellsOf 5 = 1 := by kernel_rfl
  rcases open_ints ht Tryz.underlying5 c1 hf with ⟨hc, _⟩ | ⟨ad, len', cap', zs, hc, _, hl, hm, hz, _, hcell, hwf⟩
  · simp only [List.cons.injEq, and_true] at hc
    exact ⟨[], Or.inl ⟨none, 0, hc, rfl⟩, by simp⟩
  · simp only [List.cons.injEq, and_true] at hc
    subst hc
    simp only [if_true] at hz
    by_cases h0 : len' = 0
    · subst h0
      exact ⟨[], Or.inl ⟨some ad, cap', rfl, rfl⟩, by simp⟩
    · have hs := sp_none (by simpa [Addr.add] using hcell 0 (by omega))
      obtain ⟨g, o, sp⟩ := ad
      simp only at hs
      subst hs
      refine ⟨(zs.take len').map (fun z => UInt8.ofNat z.toNat), Or.inr ⟨g, o, cap', by rw [List.length_map, List.length_take, Nat.min_eq_left (by omega)], by rw [List.length_map, List.length_take]; omega, World.block_lt_of_cell? W _ (hcell 0 (by omega)), fun j c hj => ?_⟩, by rw [List.length_map, List.length_take]; omega⟩
      rw [List.getElem?_map] at hj
      obtain ⟨z, hz1, hz2⟩ := Option.map_eq_some_iff.1 hj
      have hjl : j < len' := by
        have := (List.getElem?_eq_some_iff.1 hz1).1
        rw [List.length_take] at this; omega
      rw [List.getElem?_take_of_lt hjl] at hz1
      have hzj : j < zs.length := (List.getElem?_eq_some_iff.1 hz1).1
      have hw := bounds_u8 (hwf z (List.mem_of_getElem? hz1))
      have := hcell j hzj
      rw [addr_add, show zs.getD j 0 = z by simp [List.getD, hz1]] at this
      rw [this, ← hz2]
      rw [show (UInt8.ofNat z.toNat).toNat = z.toNat by simp; omega, show ((z.toNat : Nat) : Int) = z by omega]
/-- Numbers that came in. -/
theorem ints_of {H : Type} {enc : TypeId × Value → H} {W : World} {v : Value} {x : DataW H × List MemPlace} {fuel : Nat} {t : TypeId} (ht : Tryz.prog.underlying t = some (.slice 3)) (hf : DataW.trod enc Tryz.prog W 0 (fun _ => true) true fuel t [v] = some x) : ∃ l, intsAt W v l ∧ l.length ≤ maxLen := by
  have c1 : Tryz.prog.cellsOf 3 = 1 := by kernel_rfl
  rcases open_ints ht Tryz.underlying3 c1 hf with ⟨hc, _⟩ | ⟨ad, len', cap', zs, hc, _, hl, hm, hz, _, hcell, hwf⟩
  · simp only [List.cons.injEq, and_true] at hc
    exact ⟨[], Or.inl ⟨none, 0, hc, rfl⟩, by simp⟩
  · simp only [List.cons.injEq, and_true] at hc
    subst hc
    simp only [if_true] at hz
    by_cases h0 : len' = 0
    · subst h0
      exact ⟨[], Or.inl ⟨some ad, cap', rfl, rfl⟩, by simp⟩
    · have hs := sp_none (by simpa [Addr.add] using hcell 0 (by omega))
      obtain ⟨g, o, sp⟩ := ad
      simp only at hs
      subst hs
      refine ⟨zs.take len', Or.inr ⟨g, o, cap', by rw [List.length_take, Nat.min_eq_left (by omega)], by rw [List.length_take]; omega, World.block_lt_of_cell? W _ (hcell 0 (by omega)), fun j c hj => ?_⟩, by rw [List.length_take]; omega⟩
      have hjl : j < len' := by
        have := (List.getElem?_eq_some_iff.1 hj).1
        rw [List.length_take] at this; omega
      rw [List.getElem?_take_of_lt hjl] at hj
      have hzj : j < zs.length := (List.getElem?_eq_some_iff.1 hj).1
      have := hcell j hzj
      rw [addr_add, show zs.getD j 0 = c by simp [List.getD, hj]] at this
      exact this
theorem cells2 {cs : Array Value} (h : cs.size = 2) : ∃ c0 c1, cs = #[c0, c1] := by
  obtain ⟨l⟩ := cs
  match l, h with
  | [c0, c1], _ => exact ⟨c0, c1, rfl⟩
set_option maxRecDepth 100000 in
/-- A space that came in. -/
theorem open_space {H : Type} {enc : TypeId × Value → H} {w : World} {r : Reach} {bb : Nat} {v : Value} {d : DataW H} {p : List MemPlace}
    (hv : Value.okWide Tryz.prog w r bb 28 v) (h : DataW.Trod enc Tryz.prog w 0 (fun _ => true) true 28 v d p) : ∃ v1 v2 rom ram, v = .agg #[v1, v2] ∧ sliceAt w v1 rom ∧ sliceAt w v2 ram ∧ rom.length ≤ maxLen ∧ ram.length ≤ maxLen := by
  have hC : Tryz.prog.cellsOf 28 = 2 := by kernel_rfl
  have hU : Tryz.prog.cellsOf 26 = 1 := by kernel_rfl
  obtain ⟨cs, rfl, hsz⟩ := okWide_struct Tryz.underlying28 hv
  obtain ⟨c0, c1, rfl⟩ := cells2 (hsz.trans hC)
  obtain ⟨fuel, hf⟩ := h
  obtain ⟨xs, n, _, _, _, hlen, hfs⟩ := DataW.trod_struct Tryz.underlying28 hf
  have hl2 : xs.length = 2 := hlen
  obtain ⟨y0, h0⟩ := fld (ty := 26) (o := 0) (v := c0) (hfs 0 _ rfl) (by omega) hU rfl
  obtain ⟨y1, h1⟩ := fld (ty := 26) (o := 1) (v := c1) (hfs 1 _ rfl) (by omega) hU rfl
  obtain ⟨rom, hr, hr'⟩ := bytes_of Tryz.underlying26 h0
  obtain ⟨ram, hm, hm'⟩ := bytes_of Tryz.underlying26 h1
  exact ⟨c0, c1, rom, ram, rfl, hr, hm, hr', hm'⟩
set_option maxRecDepth 100000 in
theorem eq_arr (a0 a1 a2 a3 a4 a5 a6 a7 : Int) (d : Nat) (w : World) :
    (Op.equalIn (d + 2) 23 (.agg #[.int .u16 a0, .int .u16 a1, .int .u16 a2, .int .u16 a3, .int .u16 a4, .int .u16 a5, .int .u16 a6, .int .u16 a7]) (.agg #[.int .u16 a0, .int .u16 a1, .int .u16 a2, .int .u16 a3, .int .u16 a4, .int .u16 a5, .int .u16 a6, .int .u16 a7])).run Tryz.prog w = .ok true w := by
  have u3 := Tryz.underlying22
  have x3 := Tryz.isAgg22
  have z3 := Tryz.sizeOf22
  have hU : Tryz.prog.cellsOf 22 = 1 := by kernel_rfl
  have hs : (Tryz.prog.info? 22).isSome = true := by kernel_rfl
  obtain ⟨i, hi⟩ := Option.isSome_iff_exists.1 hs
  rw [run_equalIn_array w (d + 1) _ _ Tryz.underlying23 hi, hU]
  simp only [List.range, List.range.loop, Op.eqItems]
  go_simp
set_option maxRecDepth 100000 in
theorem eq_cpu (c : C.Cpu) (w : World) : (binOp .eql 25 (cpuV c) (cpuV c)).run Tryz.prog w = .ok (.bool true) w := by
  have u3 := Tryz.underlying22
  have x3 := Tryz.isAgg22
  have z3 := Tryz.sizeOf22
  have u4 := Tryz.underlying4
  have x4 := Tryz.isAgg4
  have z4 := Tryz.sizeOf4
  have x5 := Tryz.isAgg23
  have z5 := Tryz.sizeOf23
  have ha := eq_arr (c.r 0) (c.r 1) (c.r 2) (c.r 3) (c.r 4) (c.r 5) (c.r 6) (c.r 7) 9997
  have hS : Tryz.prog.underlying 25 = some (.struct (Tryz.prog.fieldsOf 25)) := by kernel_rfl
  have hp : Tryz.prog.stoodInHeld 25 = false := by kernel_rfl
  rw [run_eql_struct, show (10000 : Nat) = 9999 + 1 from rfl, run_equalIn_agg w 9999 25 _ _ hS hp]
  simp only [Program.fieldsOf, Tryz.underlying25]
  go_simp
set_option linter.unusedVariables false

section
variable (rom : List UInt8)
def rix (n : Nat) (a : Int) : Nat := ((a - 32768) % n).toNat
theorem rix_lt {n : Nat} (a : Int) (h : 0 < n) : rix n a < n := by
  unfold rix
  have h1 := Int.emod_nonneg (a - 32768) (show (n : Int) ≠ 0 by omega)
  have h2 := Int.emod_lt_of_pos (a - 32768) (show (0 : Int) < n by omega)
  omega
theorem no_rom {n : Nat} {a : Int} (h : 32768 ≤ a) : inRom n a = false := by
  unfold inRom
  rw [decide_eq_false (by omega)]
  rfl
theorem rd_ram {ram : List UInt8} {a : Int} (h : inRam ram.length a = true) : ((spc rom).rd ram a).1 = ((ram.getD (rix ram.length a) 0).toNat : Int) := by
  have h1 := (inRam_iff h).1
  unfold spc
  simp only
  rw [no_rom h1, if_neg (by simp), if_pos h]
  rfl
theorem wr_ram {ram : List UInt8} {a b : Int} (h : inRam ram.length a = true) : (spc rom).wr ram a b = ram.set (rix ram.length a) (UInt8.ofNat b.toNat) := by
  unfold spc
  simp only
  rw [if_pos h]
  rfl
theorem rd_same {ram : List UInt8} {a b : Int} (h : inRam ram.length a = true) (h0 : 0 ≤ b) (h1 : b ≤ 255) : ((spc rom).rd ((spc rom).wr ram a b) a).1 = b := by
  have hl := sp_wr_len rom ram a b
  rw [rd_ram rom (by rw [hl]; exact h), hl, wr_ram rom h, List.getD_eq_getElem?_getD, List.getElem?_set_self (rix_lt a (inRam_iff h).2.2)]
  have : (UInt8.ofNat b.toNat).toNat = b.toNat := by simp; omega
  simp only [Option.getD_some, this]
  omega
theorem rd_other {ram : List UInt8} {a a' b : Int} (h : inRam ram.length a = true) (h' : inRam ram.length a' = true) (hne : rix ram.length a ≠ rix ram.length a') : ((spc rom).rd ((spc rom).wr ram a b) a').1 = ((spc rom).rd ram a').1 := by
  have hl := sp_wr_len rom ram a b
  rw [rd_ram rom (by rw [hl]; exact h'), hl, wr_ram rom h, List.getD_eq_getElem?_getD, List.getElem?_set_ne hne, ← List.getD_eq_getElem?_getD, rd_ram rom h']
theorem rix_ne {n : Nat} {a a' : Int} (hn : 8 ≤ n) (h : 32768 ≤ a) (h1 : a < a') (h2 : a' ≤ a + 3) : rix n a ≠ rix n a' := by
  unfold rix
  intro e
  have g1 := Int.emod_nonneg (a - 32768) (show (n : Int) ≠ 0 by omega)
  have g2 := Int.emod_nonneg (a' - 32768) (show (n : Int) ≠ 0 by omega)
  have e' : (a - 32768) % (n : Int) = (a' - 32768) % (n : Int) := by omega
  have hd : ((n : Int)) ∣ (a' - 32768) - (a - 32768) := Int.dvd_of_emod_eq_zero (by rw [Int.sub_emod, e']; simp)
  have hd' : ((n : Int)) ∣ a' - a := by
    have : (a' - 32768) - (a - 32768) = a' - a := by omega
    rwa [this] at hd
  have := Int.le_of_dvd (by omega) hd'
  omega
theorem in_ram {n : Nat} {a : Int} (hn : 0 < n) (h : 32768 ≤ a) (h' : a ≤ 49151) : inRam n a = true := by
  unfold inRam
  rw [decide_eq_true h, decide_eq_true h', decide_eq_true hn]
  rfl
/-- Two words, one below the other, are there. -/
theorem two_words {ram : List UInt8} {p u v : Int} (hn : 8 ≤ ram.length) (h : 32768 ≤ p) (h' : p ≤ 49148) (hu : 0 ≤ u) (hu' : u ≤ 65535) (hv : 0 ≤ v) (hv' : v ≤ 65535) :
    ((spc rom).rdw ((spc rom).wrw ((spc rom).wrw ram (p + 2) u) p v) p).1 = v ∧ ((spc rom).rdw ((spc rom).wrw ((spc rom).wrw ram (p + 2) u) p v) (p + 2)).1 = u := by
  have e1 : (p + 1) % 65536 = p + 1 := by omega
  have e3 : (p + 2 + 1) % 65536 = p + 3 := by omega
  have L : ∀ s : List UInt8, s.length = ram.length → ∀ a, 32768 ≤ a → a ≤ 49151 → inRam s.length a = true := fun s hs a h1 h2 => in_ram (by omega) h1 h2
  unfold C.Mem.rdw C.Mem.wrw
  simp only [e1, e3, sp_rd2]
  have l1 := sp_wr_len rom ram (p + 2) (u / 256)
  have l2 := (sp_wr_len rom ((spc rom).wr ram (p + 2) (u / 256)) (p + 3) (u % 256)).trans l1
  have l3 := (sp_wr_len rom ((spc rom).wr ((spc rom).wr ram (p + 2) (u / 256)) (p + 3) (u % 256)) p (v / 256)).trans l2
  have ne : ∀ (s : List UInt8) (a a' : Int), s.length = ram.length → 32768 ≤ a → a < a' → a' ≤ a + 3 → rix s.length a ≠ rix s.length a' := fun s a a' hs h1 h2 h3 => rix_ne (by omega) h1 h2 h3
  constructor
  · rw [rd_other rom (L _ l3 _ (by omega) (by omega)) (L _ l3 _ (by omega) (by omega)) (Ne.symm (ne _ p (p + 1) l3 (by omega) (by omega) (by omega))), rd_same rom (L _ l2 _ (by omega) (by omega)) (by omega) (by omega), rd_same rom (L _ l3 _ (by omega) (by omega)) (by omega) (by omega)]
    omega
  · rw [rd_other rom (L _ l3 _ (by omega) (by omega)) (L _ l3 _ (by omega) (by omega)) (ne _ (p + 1) (p + 2) l3 (by omega) (by omega) (by omega)), rd_other rom (L _ l2 _ (by omega) (by omega)) (L _ l2 _ (by omega) (by omega)) (ne _ p (p + 2) l2 (by omega) (by omega) (by omega)), rd_other rom (L _ l1 _ (by omega) (by omega)) (L _ l1 _ (by omega) (by omega)) (Ne.symm (ne _ (p + 2) (p + 3) l1 (by omega) (by omega) (by omega))), rd_same rom (L _ rfl _ (by omega) (by omega)) (by omega) (by omega),
      rd_other rom (L _ l3 _ (by omega) (by omega)) (L _ l3 _ (by omega) (by omega)) (ne _ (p + 1) (p + 3) l3 (by omega) (by omega) (by omega)), rd_other rom (L _ l2 _ (by omega) (by omega)) (L _ l2 _ (by omega) (by omega)) (ne _ p (p + 3) l2 (by omega) (by omega) (by omega)), rd_same rom (L _ l1 _ (by omega) (by omega)) (by omega) (by omega)]
    omega
end
set_option linter.unusedVariables false

theorem sign_back (z n c v m : Bool) : let x : Int := (if z then 1 else 0) + (if n then 2 else 0) + (if c then 4 else 0) + (if v then 8 else 0) + (if m then 16 else 0)
    decide (x % 2 = 1) = z ∧ decide (x / 2 % 2 = 1) = n ∧ decide (x / 4 % 2 = 1) = c ∧ decide (x / 8 % 2 = 1) = v ∧ decide (x / 16 % 2 = 1) = m := by
  cases z <;> cases n <;> cases c <;> cases v <;> cases m <;> decide
theorem set_set (c : C.Cpu) (i a b : Int) : (c.set i a).set i b = c.set i b := by
  unfold C.Cpu.set
  simp
theorem set_same (c : C.Cpu) (hc : c.ok) : c.set 7 (c.r 7) = c := by
  obtain ⟨a0, a1, a2, a3, a4, a5, a6, a7, h⟩ := reg8 hc.1
  unfold C.Cpu.set C.Cpu.r
  obtain ⟨R, PC, Z, N, Cc, V, M, Wt⟩ := c
  simp only at h
  subst h
  rfl
section
variable (rom : List UInt8)
theorem rom_word {a : Nat} (h : a + 1 < rom.length) (h' : a + 1 < 32768) (ram : List UInt8) : ((spc rom).rdw ram a).1 = ((rom.getD a 0).toNat : Int) * 256 + ((rom.getD (a + 1) 0).toNat : Int) := by
  have e : ((a : Int) + 1) % 65536 = ((a + 1 : Nat) : Int) := by omega
  have r : ∀ k : Nat, k < rom.length → k < 32768 → ((spc rom).rd ram (k : Int)).1 = ((rom.getD k 0).toNat : Int) := fun k h1 h2 => by
    unfold spc
    simp only
    have : inRom rom.length (k : Int) = true := by
      unfold inRom
      rw [decide_eq_true (by omega), decide_eq_true (by omega)]
      rfl
    rw [if_pos this]
    rfl
  show ((spc rom).rd ram (a : Int)).1 * 256 + ((spc rom).rd ((spc rom).rd ram (a : Int)).2 (((a : Int) + 1) % 65536)).1 = _
  rw [sp_rd2, e, r a (by omega) (by omega), r (a + 1) h h']
theorem sp_returns (c : C.Cpu) (hc : c.ok) (ram : List UInt8) (hm : c.May = true) (h7 : 32772 ≤ c.r 7) (h7' : c.r 7 ≤ 49152) (hl : 8 ≤ ram.length) (hr : 12 ≤ rom.length) (g2 : rom.getD 2 0 = 0) (g3 : rom.getD 3 0 = 10) (g10 : rom.getD 10 0 = 208) (g11 : rom.getD 11 0 = 0) :
    (C.step (spc rom) c ram true).n = 6 ∧ (C.step (spc rom) c ram true).c.PC = 10 ∧ (C.step (spc rom) c ram true).c.May = false ∧ (C.step (spc rom) c ram true).c.Waits = false ∧
      (C.step (spc rom) (C.step (spc rom) c ram true).c (C.step (spc rom) c ram true).s false).n = 5 ∧ (C.step (spc rom) (C.step (spc rom) c ram true).c (C.step (spc rom) c ram true).s false).c = { c with Waits := false } := by
  obtain ⟨p, hp⟩ : ∃ p, p = c.r 7 - 4 := ⟨_, rfl⟩
  have hsg := C.sign_bd c
  have e2 : (c.r 7 - 2) % 65536 = p + 2 := by omega
  have hr7 : ∀ x, (c.set 7 x).r 7 = x := fun x => C.Cpu.r_set hc 7 (by omega) x
  have e0 : ((c.set 7 (p + 2)).r 7 - 2) % 65536 = p := by rw [hr7]; omega
  have hs1 : C.step (spc rom) c ram true = ⟨{ c.set 7 p with May := false, Waits := false, PC := 10 }, (spc rom).wrw ((spc rom).wrw ram (p + 2) c.PC) p (C.sign c), 6⟩ := by
    unfold C.step
    rw [if_pos (by rw [hm]; rfl)]
    have ep1 : C.push (spc rom) ⟨c, ram, 0⟩ c.PC = ⟨c.set 7 (p + 2), (spc rom).wrw ram (p + 2) c.PC, 0⟩ := by
      unfold C.push
      simp only [e2]
    have ep2 : C.push (spc rom) ⟨c.set 7 (p + 2), (spc rom).wrw ram (p + 2) c.PC, 0⟩ (C.sign c) = ⟨c.set 7 p, (spc rom).wrw ((spc rom).wrw ram (p + 2) c.PC) p (C.sign c), 0⟩ := by
      unfold C.push
      simp only [e0, set_set]
    have hw : ∀ s, ((spc rom).rdw s 2).1 = 10 := fun s => by
      have := rom_word rom (a := 2) (by omega) (by omega) s
      rw [g2, g3] at this
      exact this
    unfold C.leave
    simp only [ep1]
    rw [show C.sign (c.set 7 (p + 2)) = C.sign c from rfl, ep2]
    simp only [hw, sp_rdw2]
  rw [hs1]
  refine ⟨rfl, rfl, rfl, rfl, ?_⟩
  obtain ⟨t1, t2⟩ := two_words rom (ram := ram) (p := p) (u := c.PC) (v := C.sign c) hl (by omega) (by omega) hc.2.2.1 hc.2.2.2 hsg.1 (by omega)
  generalize (spc rom).wrw ((spc rom).wrw ram (p + 2) c.PC) p (C.sign c) = s2 at t1 t2 ⊢
  have hw1 : C.word1 (spc rom) { c.set 7 p with May := false, Waits := false, PC := 10 } s2 = 53248 := by
    have := rom_word rom (a := 10) (by omega) (by omega) s2
    rw [g10, g11] at this
    exact this
  have hb : C.behind (spc rom) { c.set 7 p with May := false, Waits := false, PC := 10 } s2 = ⟨{ c.set 7 p with May := false, Waits := false, PC := 12 }, s2, 0⟩ := by
    unfold C.behind
    rw [hw1]
    rfl
  have hst : C.step (spc rom) { c.set 7 p with May := false, Waits := false, PC := 10 } s2 false = C.comeBack (spc rom) ⟨{ c.set 7 p with May := false, Waits := false, PC := 12 }, s2, 5⟩ := by
    unfold C.step
    rw [if_neg (by simp), if_neg (by simp)]
    unfold C.order
    rw [hw1, hb]
    rfl
  rw [hst]
  have q1 : ({ c.set 7 p with May := false, Waits := false, PC := 12 } : C.Cpu).r 7 = p := hr7 p
  have hp1 : C.popV (spc rom) ⟨{ c.set 7 p with May := false, Waits := false, PC := 12 }, s2, 5⟩ = C.sign c := by
    unfold C.popV
    simp only [q1]
    exact t1
  have hpp : C.pop (spc rom) ⟨{ c.set 7 p with May := false, Waits := false, PC := 12 }, s2, 5⟩ = ⟨{ c.set 7 (p + 2) with May := false, Waits := false, PC := 12 }, s2, 5⟩ := by
    unfold C.pop
    simp only [q1, sp_rdw2]
    rw [show (p + 2) % 65536 = p + 2 by omega]
    congr 1
    show ({ (c.set 7 p).set 7 (p + 2) with May := false, Waits := false, PC := 12 } : C.Cpu) = _
    rw [set_set]
  have q2 : ({ c.set 7 (p + 2) with May := false, Waits := false, PC := 12 } : C.Cpu).r 7 = p + 2 := hr7 (p + 2)
  have hp2 : C.popV (spc rom) ⟨{ c.set 7 (p + 2) with May := false, Waits := false, PC := 12 }, s2, 5⟩ = c.PC := by
    unfold C.popV
    simp only [q2]
    exact t2
  have hpq : C.pop (spc rom) ⟨{ c.set 7 (p + 2) with May := false, Waits := false, PC := 12 }, s2, 5⟩ = ⟨{ c with May := false, Waits := false, PC := 12 }, s2, 5⟩ := by
    unfold C.pop
    simp only [q2, sp_rdw2]
    rw [show (p + 2 + 2) % 65536 = c.r 7 by omega]
    congr 1
    show ({ (c.set 7 (p + 2)).set 7 (c.r 7) with May := false, Waits := false, PC := 12 } : C.Cpu) = _
    rw [set_set, set_same c hc]
  obtain ⟨b0, b1, b2, b3, b4⟩ := sign_back c.Z c.N c.C c.V c.May
  unfold C.comeBack
  simp only [hp1, hpp, hp2, hpq]
  refine ⟨trivial, ?_⟩
  rw [show decide (C.sign c % 2 = 1) = c.Z from b0, show decide (C.sign c / 2 % 2 = 1) = c.N from b1, show decide (C.sign c / 4 % 2 = 1) = c.C from b2, show decide (C.sign c / 8 % 2 = 1) = c.V from b3, show decide (C.sign c / 16 % 2 = 1) = c.May from b4]
end
theorem intsAt.kept {w w' : World} {v : Value} {l : List Int} (h : intsAt w v l) (hb : Below w.heap.size w w') : intsAt w' v l := by
  rcases h with h | ⟨g, o, cap, h1, h2, h3, h4⟩
  · exact Or.inl h
  · exact Or.inr ⟨g, o, cap, h1, h2, Nat.lt_of_lt_of_le h3 hb.size, fun j x hj => (hb.cell (p := ⟨g, o + j, none⟩) h3).trans (h4 j x hj)⟩
theorem begin_sp (B sb : Nat) (vR vM : Value) (rom ram : List UInt8) (W : World) (hI : SpI B sb vR vM rom W ram) :
    Calls Tryz.prog 37 #[.agg #[rdV sb, wrV sb]] W fun e w' => e = .returned (cpuV (C.begin' (spc rom) ram).1) ∧ SpI B sb vR vM rom w' ram ∧ Mv B (spT sb vR vM ram) (spT sb vR vM ram) W w' ∧ (C.begin' (spc rom) ram).1.ok :=
  begin_any (space_rs B sb vR vM rom) W ram hI
section
variable {w X : World} {B b6 b7 sb br bq : Nat} {vR vM : Value} {rom s : List UInt8} {l : List Int} {c : C.Cpu}
/-- The result's space is written anew as it was. -/
theorem RunW.put7 (h : RunW w B b6 b7 sb br bq vR vM rom l X c s) (h7 : b7 ≠ br ∧ b7 ≠ bq ∧ w.heap.size ≤ b7) : RunW w B b6 b7 sb br bq vR vM rom l ((X.setCell ⟨b7, 0, none⟩ vR).setCell ⟨b7, 1, none⟩ vM) c s := by
  have n67 := h.ne.1
  have ho : ∀ k, k ≠ b7 → ((X.setCell ⟨b7, 0, none⟩ vR).setCell ⟨b7, 1, none⟩ vM).heap[k]? = X.heap[k]? := fun k b => (Below.heap_setCell _ _ _ _ b).trans (Below.heap_setCell _ _ _ _ b)
  have hz : ((X.setCell ⟨b7, 0, none⟩ vR).setCell ⟨b7, 1, none⟩ vM).heap.size = X.heap.size := (setCell_size _ _ _).trans (setCell_size _ _ _)
  have e0 := World.cell?_setCell_same X _ vR h.o0
  have e1 : (X.setCell ⟨b7, 0, none⟩ vR).cell? ⟨b7, 1, none⟩ = some vM := (World.cell?_setCell_other _ _ _ _ (by simp)).trans h.o1
  have f0 : ((X.setCell ⟨b7, 0, none⟩ vR).setCell ⟨b7, 1, none⟩ vM).cell? ⟨b7, 0, none⟩ = some vR := (World.cell?_setCell_other _ _ _ _ (by simp)).trans e0
  have f1 : ((X.setCell ⟨b7, 0, none⟩ vR).setCell ⟨b7, 1, none⟩ vM).cell? ⟨b7, 1, none⟩ = some vM := World.cell?_setCell_same _ _ _ e1
  have hfz : ∀ o, ((X.setCell ⟨b7, 0, none⟩ vR).setCell ⟨b7, 1, none⟩ vM).frozen? ⟨b7, o, none⟩ = false := fun o => by simpa using h.of o
  have hl := (h.low.setCell (p := ⟨b7, 0, none⟩) h7.2.2 vR).setCell (p := ⟨b7, 1, none⟩) h7.2.2 vM
  generalize ((X.setCell ⟨b7, 0, none⟩ vR).setCell ⟨b7, 1, none⟩ vM) = Y at *
  exact ⟨h.sp.keep (Nat.le_of_eq hz.symm) (fun k hk => ho k (fun e => (h.nT b7 (Or.inr (Or.inl rfl))).1 (e ▸ hk))), hl, fun j v hj => (World.cell?_of_block (w := X) (ho b6 n67)).trans (h.hc j v hj), fun o => (World.frozen?_of_block (w := X) (ho b6 n67)).trans (h.cf o), f0, f1, hfz,
    (World.cell?_of_block (w := X) (ho br (Ne.symm h7.1))).trans h.r0, (World.cell?_of_block (w := X) (ho br (Ne.symm h7.1))).trans h.r1, fun j v hj => (World.cell?_of_block (w := X) (ho bq (Ne.symm h7.2.1))).trans (h.q j v hj), fun k hk => ⟨(h.nT k hk).1, by rw [hz]; exact (h.nT k hk).2⟩, h.ne, h.ok⟩
theorem RunW.all (h : RunW w B b6 b7 sb br bq vR vM rom l X c s) : X.cell? ⟨b6, 0, none⟩ = some (.int .u16 (c.r 0)) ∧ X.cell? ⟨b6, 1, none⟩ = some (.int .u16 (c.r 1)) ∧ X.cell? ⟨b6, 2, none⟩ = some (.int .u16 (c.r 2)) ∧ X.cell? ⟨b6, 3, none⟩ = some (.int .u16 (c.r 3)) ∧ X.cell? ⟨b6, 4, none⟩ = some (.int .u16 (c.r 4)) ∧ X.cell? ⟨b6, 5, none⟩ = some (.int .u16 (c.r 5)) ∧ X.cell? ⟨b6, 6, none⟩ = some (.int .u16 (c.r 6)) ∧ X.cell? ⟨b6, 7, none⟩ = some (.int .u16 (c.r 7)) ∧ X.cell? ⟨b6, 8, none⟩ = some (.int .u16 c.PC) ∧ X.cell? ⟨b6, 9, none⟩ = some (.bool c.Z) ∧ X.cell? ⟨b6, 10, none⟩ = some (.bool c.N) ∧ X.cell? ⟨b6, 11, none⟩ = some (.bool c.C) ∧ X.cell? ⟨b6, 12, none⟩ = some (.bool c.V) ∧ X.cell? ⟨b6, 13, none⟩ = some (.bool c.May) ∧ X.cell? ⟨b6, 14, none⟩ = some (.bool c.Waits) ∧ X.cell? ⟨b7, 0, none⟩ = some vR ∧ X.cell? ⟨b7, 1, none⟩ = some vM ∧ RunW w B b6 b7 sb br bq vR vM rom l X c s :=
  ⟨h.hc 0 _ rfl, h.hc 1 _ rfl, h.hc 2 _ rfl, h.hc 3 _ rfl, h.hc 4 _ rfl, h.hc 5 _ rfl, h.hc 6 _ rfl, h.hc 7 _ rfl, h.hc 8 _ rfl, h.hc 9 _ rfl, h.hc 10 _ rfl, h.hc 11 _ rfl, h.hc 12 _ rfl, h.hc 13 _ rfl, h.hc 14 _ rfl, h.o0, h.o1, h⟩
theorem runW_6 (h : RunW w B b6 b7 sb br bq vR vM rom l X c s) : RunW w B b6 b7 sb br bq vR vM rom l (((((((((((((((X.setCell ⟨b6, 0, none⟩ (.int .u16 (c.r 0))).setCell ⟨b6, 1, none⟩ (.int .u16 (c.r 1))).setCell ⟨b6, 2, none⟩ (.int .u16 (c.r 2))).setCell ⟨b6, 3, none⟩ (.int .u16 (c.r 3))).setCell ⟨b6, 4, none⟩ (.int .u16 (c.r 4))).setCell ⟨b6, 5, none⟩ (.int .u16 (c.r 5))).setCell ⟨b6, 6, none⟩ (.int .u16 (c.r 6))).setCell ⟨b6, 7, none⟩ (.int .u16 (c.r 7))).setCell ⟨b6, 8, none⟩ (.int .u16 c.PC)).setCell ⟨b6, 9, none⟩ (.bool c.Z)).setCell ⟨b6, 10, none⟩ (.bool c.N)).setCell ⟨b6, 11, none⟩ (.bool c.C)).setCell ⟨b6, 12, none⟩ (.bool c.V)).setCell ⟨b6, 13, none⟩ (.bool c.May)).setCell ⟨b6, 14, none⟩ (.bool c.Waits)) c s := by
  rw [nested_eq]
  exact h.put h.ok
theorem runS_6 (h : RunW w B b6 b7 sb br bq vR vM rom l X c s) : (((((((((((((((X.setCell ⟨b6, 0, none⟩ (.int .u16 (c.r 0))).setCell ⟨b6, 1, none⟩ (.int .u16 (c.r 1))).setCell ⟨b6, 2, none⟩ (.int .u16 (c.r 2))).setCell ⟨b6, 3, none⟩ (.int .u16 (c.r 3))).setCell ⟨b6, 4, none⟩ (.int .u16 (c.r 4))).setCell ⟨b6, 5, none⟩ (.int .u16 (c.r 5))).setCell ⟨b6, 6, none⟩ (.int .u16 (c.r 6))).setCell ⟨b6, 7, none⟩ (.int .u16 (c.r 7))).setCell ⟨b6, 8, none⟩ (.int .u16 c.PC)).setCell ⟨b6, 9, none⟩ (.bool c.Z)).setCell ⟨b6, 10, none⟩ (.bool c.N)).setCell ⟨b6, 11, none⟩ (.bool c.C)).setCell ⟨b6, 12, none⟩ (.bool c.V)).setCell ⟨b6, 13, none⟩ (.bool c.May)).setCell ⟨b6, 14, none⟩ (.bool c.Waits)).drew.cell? ⟨b6, 0, none⟩ = some (.int .u16 (c.r 0)) ∧ (((((((((((((((X.setCell ⟨b6, 0, none⟩ (.int .u16 (c.r 0))).setCell ⟨b6, 1, none⟩ (.int .u16 (c.r 1))).setCell ⟨b6, 2, none⟩ (.int .u16 (c.r 2))).setCell ⟨b6, 3, none⟩ (.int .u16 (c.r 3))).setCell ⟨b6, 4, none⟩ (.int .u16 (c.r 4))).setCell ⟨b6, 5, none⟩ (.int .u16 (c.r 5))).setCell ⟨b6, 6, none⟩ (.int .u16 (c.r 6))).setCell ⟨b6, 7, none⟩ (.int .u16 (c.r 7))).setCell ⟨b6, 8, none⟩ (.int .u16 c.PC)).setCell ⟨b6, 9, none⟩ (.bool c.Z)).setCell ⟨b6, 10, none⟩ (.bool c.N)).setCell ⟨b6, 11, none⟩ (.bool c.C)).setCell ⟨b6, 12, none⟩ (.bool c.V)).setCell ⟨b6, 13, none⟩ (.bool c.May)).setCell ⟨b6, 14, none⟩ (.bool c.Waits)).drew.cell? ⟨b6, 1, none⟩ = some (.int .u16 (c.r 1)) ∧ (((((((((((((((X.setCell ⟨b6, 0, none⟩ (.int .u16 (c.r 0))).setCell ⟨b6, 1, none⟩ (.int .u16 (c.r 1))).setCell ⟨b6, 2, none⟩ (.int .u16 (c.r 2))).setCell ⟨b6, 3, none⟩ (.int .u16 (c.r 3))).setCell ⟨b6, 4, none⟩ (.int .u16 (c.r 4))).setCell ⟨b6, 5, none⟩ (.int .u16 (c.r 5))).setCell ⟨b6, 6, none⟩ (.int .u16 (c.r 6))).setCell ⟨b6, 7, none⟩ (.int .u16 (c.r 7))).setCell ⟨b6, 8, none⟩ (.int .u16 c.PC)).setCell ⟨b6, 9, none⟩ (.bool c.Z)).setCell ⟨b6, 10, none⟩ (.bool c.N)).setCell ⟨b6, 11, none⟩ (.bool c.C)).setCell ⟨b6, 12, none⟩ (.bool c.V)).setCell ⟨b6, 13, none⟩ (.bool c.May)).setCell ⟨b6, 14, none⟩ (.bool c.Waits)).drew.cell? ⟨b6, 2, none⟩ = some (.int .u16 (c.r 2)) ∧ (((((((((((((((X.setCell ⟨b6, 0, none⟩ (.int .u16 (c.r 0))).setCell ⟨b6, 1, none⟩ (.int .u16 (c.r 1))).setCell ⟨b6, 2, none⟩ (.int .u16 (c.r 2))).setCell ⟨b6, 3, none⟩ (.int .u16 (c.r 3))).setCell ⟨b6, 4, none⟩ (.int .u16 (c.r 4))).setCell ⟨b6, 5, none⟩ (.int .u16 (c.r 5))).setCell ⟨b6, 6, none⟩ (.int .u16 (c.r 6))).setCell ⟨b6, 7, none⟩ (.int .u16 (c.r 7))).setCell ⟨b6, 8, none⟩ (.int .u16 c.PC)).setCell ⟨b6, 9, none⟩ (.bool c.Z)).setCell ⟨b6, 10, none⟩ (.bool c.N)).setCell ⟨b6, 11, none⟩ (.bool c.C)).setCell ⟨b6, 12, none⟩ (.bool c.V)).setCell ⟨b6, 13, none⟩ (.bool c.May)).setCell ⟨b6, 14, none⟩ (.bool c.Waits)).drew.cell? ⟨b6, 3, none⟩ = some (.int .u16 (c.r 3)) ∧ (((((((((((((((X.setCell ⟨b6, 0, none⟩ (.int .u16 (c.r 0))).setCell ⟨b6, 1, none⟩ (.int .u16 (c.r 1))).setCell ⟨b6, 2, none⟩ (.int .u16 (c.r 2))).setCell ⟨b6, 3, none⟩ (.int .u16 (c.r 3))).setCell ⟨b6, 4, none⟩ (.int .u16 (c.r 4))).setCell ⟨b6, 5, none⟩ (.int .u16 (c.r 5))).setCell ⟨b6, 6, none⟩ (.int .u16 (c.r 6))).setCell ⟨b6, 7, none⟩ (.int .u16 (c.r 7))).setCell ⟨b6, 8, none⟩ (.int .u16 c.PC)).setCell ⟨b6, 9, none⟩ (.bool c.Z)).setCell ⟨b6, 10, none⟩ (.bool c.N)).setCell ⟨b6, 11, none⟩ (.bool c.C)).setCell ⟨b6, 12, none⟩ (.bool c.V)).setCell ⟨b6, 13, none⟩ (.bool c.May)).setCell ⟨b6, 14, none⟩ (.bool c.Waits)).drew.cell? ⟨b6, 4, none⟩ = some (.int .u16 (c.r 4)) ∧ (((((((((((((((X.setCell ⟨b6, 0, none⟩ (.int .u16 (c.r 0))).setCell ⟨b6, 1, none⟩ (.int .u16 (c.r 1))).setCell ⟨b6, 2, none⟩ (.int .u16 (c.r 2))).setCell ⟨b6, 3, none⟩ (.int .u16 (c.r 3))).setCell ⟨b6, 4, none⟩ (.int .u16 (c.r 4))).setCell ⟨b6, 5, none⟩ (.int .u16 (c.r 5))).setCell ⟨b6, 6, none⟩ (.int .u16 (c.r 6))).setCell ⟨b6, 7, none⟩ (.int .u16 (c.r 7))).setCell ⟨b6, 8, none⟩ (.int .u16 c.PC)).setCell ⟨b6, 9, none⟩ (.bool c.Z)).setCell ⟨b6, 10, none⟩ (.bool c.N)).setCell ⟨b6, 11, none⟩ (.bool c.C)).setCell ⟨b6, 12, none⟩ (.bool c.V)).setCell ⟨b6, 13, none⟩ (.bool c.May)).setCell ⟨b6, 14, none⟩ (.bool c.Waits)).drew.cell? ⟨b6, 5, none⟩ = some (.int .u16 (c.r 5)) ∧ (((((((((((((((X.setCell ⟨b6, 0, none⟩ (.int .u16 (c.r 0))).setCell ⟨b6, 1, none⟩ (.int .u16 (c.r 1))).setCell ⟨b6, 2, none⟩ (.int .u16 (c.r 2))).setCell ⟨b6, 3, none⟩ (.int .u16 (c.r 3))).setCell ⟨b6, 4, none⟩ (.int .u16 (c.r 4))).setCell ⟨b6, 5, none⟩ (.int .u16 (c.r 5))).setCell ⟨b6, 6, none⟩ (.int .u16 (c.r 6))).setCell ⟨b6, 7, none⟩ (.int .u16 (c.r 7))).setCell ⟨b6, 8, none⟩ (.int .u16 c.PC)).setCell ⟨b6, 9, none⟩ (.bool c.Z)).setCell ⟨b6, 10, none⟩ (.bool c.N)).setCell ⟨b6, 11, none⟩ (.bool c.C)).setCell ⟨b6, 12, none⟩ (.bool c.V)).setCell ⟨b6, 13, none⟩ (.bool c.May)).setCell ⟨b6, 14, none⟩ (.bool c.Waits)).drew.cell? ⟨b6, 6, none⟩ = some (.int .u16 (c.r 6)) ∧ (((((((((((((((X.setCell ⟨b6, 0, none⟩ (.int .u16 (c.r 0))).setCell ⟨b6, 1, none⟩ (.int .u16 (c.r 1))).setCell ⟨b6, 2, none⟩ (.int .u16 (c.r 2))).setCell ⟨b6, 3, none⟩ (.int .u16 (c.r 3))).setCell ⟨b6, 4, none⟩ (.int .u16 (c.r 4))).setCell ⟨b6, 5, none⟩ (.int .u16 (c.r 5))).setCell ⟨b6, 6, none⟩ (.int .u16 (c.r 6))).setCell ⟨b6, 7, none⟩ (.int .u16 (c.r 7))).setCell ⟨b6, 8, none⟩ (.int .u16 c.PC)).setCell ⟨b6, 9, none⟩ (.bool c.Z)).setCell ⟨b6, 10, none⟩ (.bool c.N)).setCell ⟨b6, 11, none⟩ (.bool c.C)).setCell ⟨b6, 12, none⟩ (.bool c.V)).setCell ⟨b6, 13, none⟩ (.bool c.May)).setCell ⟨b6, 14, none⟩ (.bool c.Waits)).drew.cell? ⟨b6, 7, none⟩ = some (.int .u16 (c.r 7)) ∧ (((((((((((((((X.setCell ⟨b6, 0, none⟩ (.int .u16 (c.r 0))).setCell ⟨b6, 1, none⟩ (.int .u16 (c.r 1))).setCell ⟨b6, 2, none⟩ (.int .u16 (c.r 2))).setCell ⟨b6, 3, none⟩ (.int .u16 (c.r 3))).setCell ⟨b6, 4, none⟩ (.int .u16 (c.r 4))).setCell ⟨b6, 5, none⟩ (.int .u16 (c.r 5))).setCell ⟨b6, 6, none⟩ (.int .u16 (c.r 6))).setCell ⟨b6, 7, none⟩ (.int .u16 (c.r 7))).setCell ⟨b6, 8, none⟩ (.int .u16 c.PC)).setCell ⟨b6, 9, none⟩ (.bool c.Z)).setCell ⟨b6, 10, none⟩ (.bool c.N)).setCell ⟨b6, 11, none⟩ (.bool c.C)).setCell ⟨b6, 12, none⟩ (.bool c.V)).setCell ⟨b6, 13, none⟩ (.bool c.May)).setCell ⟨b6, 14, none⟩ (.bool c.Waits)).drew.cell? ⟨b6, 8, none⟩ = some (.int .u16 c.PC) ∧ (((((((((((((((X.setCell ⟨b6, 0, none⟩ (.int .u16 (c.r 0))).setCell ⟨b6, 1, none⟩ (.int .u16 (c.r 1))).setCell ⟨b6, 2, none⟩ (.int .u16 (c.r 2))).setCell ⟨b6, 3, none⟩ (.int .u16 (c.r 3))).setCell ⟨b6, 4, none⟩ (.int .u16 (c.r 4))).setCell ⟨b6, 5, none⟩ (.int .u16 (c.r 5))).setCell ⟨b6, 6, none⟩ (.int .u16 (c.r 6))).setCell ⟨b6, 7, none⟩ (.int .u16 (c.r 7))).setCell ⟨b6, 8, none⟩ (.int .u16 c.PC)).setCell ⟨b6, 9, none⟩ (.bool c.Z)).setCell ⟨b6, 10, none⟩ (.bool c.N)).setCell ⟨b6, 11, none⟩ (.bool c.C)).setCell ⟨b6, 12, none⟩ (.bool c.V)).setCell ⟨b6, 13, none⟩ (.bool c.May)).setCell ⟨b6, 14, none⟩ (.bool c.Waits)).drew.cell? ⟨b6, 9, none⟩ = some (.bool c.Z) ∧ (((((((((((((((X.setCell ⟨b6, 0, none⟩ (.int .u16 (c.r 0))).setCell ⟨b6, 1, none⟩ (.int .u16 (c.r 1))).setCell ⟨b6, 2, none⟩ (.int .u16 (c.r 2))).setCell ⟨b6, 3, none⟩ (.int .u16 (c.r 3))).setCell ⟨b6, 4, none⟩ (.int .u16 (c.r 4))).setCell ⟨b6, 5, none⟩ (.int .u16 (c.r 5))).setCell ⟨b6, 6, none⟩ (.int .u16 (c.r 6))).setCell ⟨b6, 7, none⟩ (.int .u16 (c.r 7))).setCell ⟨b6, 8, none⟩ (.int .u16 c.PC)).setCell ⟨b6, 9, none⟩ (.bool c.Z)).setCell ⟨b6, 10, none⟩ (.bool c.N)).setCell ⟨b6, 11, none⟩ (.bool c.C)).setCell ⟨b6, 12, none⟩ (.bool c.V)).setCell ⟨b6, 13, none⟩ (.bool c.May)).setCell ⟨b6, 14, none⟩ (.bool c.Waits)).drew.cell? ⟨b6, 10, none⟩ = some (.bool c.N) ∧ (((((((((((((((X.setCell ⟨b6, 0, none⟩ (.int .u16 (c.r 0))).setCell ⟨b6, 1, none⟩ (.int .u16 (c.r 1))).setCell ⟨b6, 2, none⟩ (.int .u16 (c.r 2))).setCell ⟨b6, 3, none⟩ (.int .u16 (c.r 3))).setCell ⟨b6, 4, none⟩ (.int .u16 (c.r 4))).setCell ⟨b6, 5, none⟩ (.int .u16 (c.r 5))).setCell ⟨b6, 6, none⟩ (.int .u16 (c.r 6))).setCell ⟨b6, 7, none⟩ (.int .u16 (c.r 7))).setCell ⟨b6, 8, none⟩ (.int .u16 c.PC)).setCell ⟨b6, 9, none⟩ (.bool c.Z)).setCell ⟨b6, 10, none⟩ (.bool c.N)).setCell ⟨b6, 11, none⟩ (.bool c.C)).setCell ⟨b6, 12, none⟩ (.bool c.V)).setCell ⟨b6, 13, none⟩ (.bool c.May)).setCell ⟨b6, 14, none⟩ (.bool c.Waits)).drew.cell? ⟨b6, 11, none⟩ = some (.bool c.C) ∧ (((((((((((((((X.setCell ⟨b6, 0, none⟩ (.int .u16 (c.r 0))).setCell ⟨b6, 1, none⟩ (.int .u16 (c.r 1))).setCell ⟨b6, 2, none⟩ (.int .u16 (c.r 2))).setCell ⟨b6, 3, none⟩ (.int .u16 (c.r 3))).setCell ⟨b6, 4, none⟩ (.int .u16 (c.r 4))).setCell ⟨b6, 5, none⟩ (.int .u16 (c.r 5))).setCell ⟨b6, 6, none⟩ (.int .u16 (c.r 6))).setCell ⟨b6, 7, none⟩ (.int .u16 (c.r 7))).setCell ⟨b6, 8, none⟩ (.int .u16 c.PC)).setCell ⟨b6, 9, none⟩ (.bool c.Z)).setCell ⟨b6, 10, none⟩ (.bool c.N)).setCell ⟨b6, 11, none⟩ (.bool c.C)).setCell ⟨b6, 12, none⟩ (.bool c.V)).setCell ⟨b6, 13, none⟩ (.bool c.May)).setCell ⟨b6, 14, none⟩ (.bool c.Waits)).drew.cell? ⟨b6, 12, none⟩ = some (.bool c.V) ∧ (((((((((((((((X.setCell ⟨b6, 0, none⟩ (.int .u16 (c.r 0))).setCell ⟨b6, 1, none⟩ (.int .u16 (c.r 1))).setCell ⟨b6, 2, none⟩ (.int .u16 (c.r 2))).setCell ⟨b6, 3, none⟩ (.int .u16 (c.r 3))).setCell ⟨b6, 4, none⟩ (.int .u16 (c.r 4))).setCell ⟨b6, 5, none⟩ (.int .u16 (c.r 5))).setCell ⟨b6, 6, none⟩ (.int .u16 (c.r 6))).setCell ⟨b6, 7, none⟩ (.int .u16 (c.r 7))).setCell ⟨b6, 8, none⟩ (.int .u16 c.PC)).setCell ⟨b6, 9, none⟩ (.bool c.Z)).setCell ⟨b6, 10, none⟩ (.bool c.N)).setCell ⟨b6, 11, none⟩ (.bool c.C)).setCell ⟨b6, 12, none⟩ (.bool c.V)).setCell ⟨b6, 13, none⟩ (.bool c.May)).setCell ⟨b6, 14, none⟩ (.bool c.Waits)).drew.cell? ⟨b6, 13, none⟩ = some (.bool c.May) ∧ (((((((((((((((X.setCell ⟨b6, 0, none⟩ (.int .u16 (c.r 0))).setCell ⟨b6, 1, none⟩ (.int .u16 (c.r 1))).setCell ⟨b6, 2, none⟩ (.int .u16 (c.r 2))).setCell ⟨b6, 3, none⟩ (.int .u16 (c.r 3))).setCell ⟨b6, 4, none⟩ (.int .u16 (c.r 4))).setCell ⟨b6, 5, none⟩ (.int .u16 (c.r 5))).setCell ⟨b6, 6, none⟩ (.int .u16 (c.r 6))).setCell ⟨b6, 7, none⟩ (.int .u16 (c.r 7))).setCell ⟨b6, 8, none⟩ (.int .u16 c.PC)).setCell ⟨b6, 9, none⟩ (.bool c.Z)).setCell ⟨b6, 10, none⟩ (.bool c.N)).setCell ⟨b6, 11, none⟩ (.bool c.C)).setCell ⟨b6, 12, none⟩ (.bool c.V)).setCell ⟨b6, 13, none⟩ (.bool c.May)).setCell ⟨b6, 14, none⟩ (.bool c.Waits)).drew.cell? ⟨b6, 14, none⟩ = some (.bool c.Waits) ∧ (((((((((((((((X.setCell ⟨b6, 0, none⟩ (.int .u16 (c.r 0))).setCell ⟨b6, 1, none⟩ (.int .u16 (c.r 1))).setCell ⟨b6, 2, none⟩ (.int .u16 (c.r 2))).setCell ⟨b6, 3, none⟩ (.int .u16 (c.r 3))).setCell ⟨b6, 4, none⟩ (.int .u16 (c.r 4))).setCell ⟨b6, 5, none⟩ (.int .u16 (c.r 5))).setCell ⟨b6, 6, none⟩ (.int .u16 (c.r 6))).setCell ⟨b6, 7, none⟩ (.int .u16 (c.r 7))).setCell ⟨b6, 8, none⟩ (.int .u16 c.PC)).setCell ⟨b6, 9, none⟩ (.bool c.Z)).setCell ⟨b6, 10, none⟩ (.bool c.N)).setCell ⟨b6, 11, none⟩ (.bool c.C)).setCell ⟨b6, 12, none⟩ (.bool c.V)).setCell ⟨b6, 13, none⟩ (.bool c.May)).setCell ⟨b6, 14, none⟩ (.bool c.Waits)).drew.cell? ⟨b7, 0, none⟩ = some vR ∧ (((((((((((((((X.setCell ⟨b6, 0, none⟩ (.int .u16 (c.r 0))).setCell ⟨b6, 1, none⟩ (.int .u16 (c.r 1))).setCell ⟨b6, 2, none⟩ (.int .u16 (c.r 2))).setCell ⟨b6, 3, none⟩ (.int .u16 (c.r 3))).setCell ⟨b6, 4, none⟩ (.int .u16 (c.r 4))).setCell ⟨b6, 5, none⟩ (.int .u16 (c.r 5))).setCell ⟨b6, 6, none⟩ (.int .u16 (c.r 6))).setCell ⟨b6, 7, none⟩ (.int .u16 (c.r 7))).setCell ⟨b6, 8, none⟩ (.int .u16 c.PC)).setCell ⟨b6, 9, none⟩ (.bool c.Z)).setCell ⟨b6, 10, none⟩ (.bool c.N)).setCell ⟨b6, 11, none⟩ (.bool c.C)).setCell ⟨b6, 12, none⟩ (.bool c.V)).setCell ⟨b6, 13, none⟩ (.bool c.May)).setCell ⟨b6, 14, none⟩ (.bool c.Waits)).drew.cell? ⟨b7, 1, none⟩ = some vM ∧ RunW w B b6 b7 sb br bq vR vM rom l (((((((((((((((X.setCell ⟨b6, 0, none⟩ (.int .u16 (c.r 0))).setCell ⟨b6, 1, none⟩ (.int .u16 (c.r 1))).setCell ⟨b6, 2, none⟩ (.int .u16 (c.r 2))).setCell ⟨b6, 3, none⟩ (.int .u16 (c.r 3))).setCell ⟨b6, 4, none⟩ (.int .u16 (c.r 4))).setCell ⟨b6, 5, none⟩ (.int .u16 (c.r 5))).setCell ⟨b6, 6, none⟩ (.int .u16 (c.r 6))).setCell ⟨b6, 7, none⟩ (.int .u16 (c.r 7))).setCell ⟨b6, 8, none⟩ (.int .u16 c.PC)).setCell ⟨b6, 9, none⟩ (.bool c.Z)).setCell ⟨b6, 10, none⟩ (.bool c.N)).setCell ⟨b6, 11, none⟩ (.bool c.C)).setCell ⟨b6, 12, none⟩ (.bool c.V)).setCell ⟨b6, 13, none⟩ (.bool c.May)).setCell ⟨b6, 14, none⟩ (.bool c.Waits)).drew c s := (runW_6 h).same.all
theorem runS_7 (h7 : b7 ≠ br ∧ b7 ≠ bq ∧ w.heap.size ≤ b7) (h : RunW w B b6 b7 sb br bq vR vM rom l X c s) : ((X.setCell ⟨b7, 0, none⟩ vR).setCell ⟨b7, 1, none⟩ vM).drew.cell? ⟨b6, 0, none⟩ = some (.int .u16 (c.r 0)) ∧ ((X.setCell ⟨b7, 0, none⟩ vR).setCell ⟨b7, 1, none⟩ vM).drew.cell? ⟨b6, 1, none⟩ = some (.int .u16 (c.r 1)) ∧ ((X.setCell ⟨b7, 0, none⟩ vR).setCell ⟨b7, 1, none⟩ vM).drew.cell? ⟨b6, 2, none⟩ = some (.int .u16 (c.r 2)) ∧ ((X.setCell ⟨b7, 0, none⟩ vR).setCell ⟨b7, 1, none⟩ vM).drew.cell? ⟨b6, 3, none⟩ = some (.int .u16 (c.r 3)) ∧ ((X.setCell ⟨b7, 0, none⟩ vR).setCell ⟨b7, 1, none⟩ vM).drew.cell? ⟨b6, 4, none⟩ = some (.int .u16 (c.r 4)) ∧ ((X.setCell ⟨b7, 0, none⟩ vR).setCell ⟨b7, 1, none⟩ vM).drew.cell? ⟨b6, 5, none⟩ = some (.int .u16 (c.r 5)) ∧ ((X.setCell ⟨b7, 0, none⟩ vR).setCell ⟨b7, 1, none⟩ vM).drew.cell? ⟨b6, 6, none⟩ = some (.int .u16 (c.r 6)) ∧ ((X.setCell ⟨b7, 0, none⟩ vR).setCell ⟨b7, 1, none⟩ vM).drew.cell? ⟨b6, 7, none⟩ = some (.int .u16 (c.r 7)) ∧ ((X.setCell ⟨b7, 0, none⟩ vR).setCell ⟨b7, 1, none⟩ vM).drew.cell? ⟨b6, 8, none⟩ = some (.int .u16 c.PC) ∧ ((X.setCell ⟨b7, 0, none⟩ vR).setCell ⟨b7, 1, none⟩ vM).drew.cell? ⟨b6, 9, none⟩ = some (.bool c.Z) ∧ ((X.setCell ⟨b7, 0, none⟩ vR).setCell ⟨b7, 1, none⟩ vM).drew.cell? ⟨b6, 10, none⟩ = some (.bool c.N) ∧ ((X.setCell ⟨b7, 0, none⟩ vR).setCell ⟨b7, 1, none⟩ vM).drew.cell? ⟨b6, 11, none⟩ = some (.bool c.C) ∧ ((X.setCell ⟨b7, 0, none⟩ vR).setCell ⟨b7, 1, none⟩ vM).drew.cell? ⟨b6, 12, none⟩ = some (.bool c.V) ∧ ((X.setCell ⟨b7, 0, none⟩ vR).setCell ⟨b7, 1, none⟩ vM).drew.cell? ⟨b6, 13, none⟩ = some (.bool c.May) ∧ ((X.setCell ⟨b7, 0, none⟩ vR).setCell ⟨b7, 1, none⟩ vM).drew.cell? ⟨b6, 14, none⟩ = some (.bool c.Waits) ∧ ((X.setCell ⟨b7, 0, none⟩ vR).setCell ⟨b7, 1, none⟩ vM).drew.cell? ⟨b7, 0, none⟩ = some vR ∧ ((X.setCell ⟨b7, 0, none⟩ vR).setCell ⟨b7, 1, none⟩ vM).drew.cell? ⟨b7, 1, none⟩ = some vM ∧ RunW w B b6 b7 sb br bq vR vM rom l ((X.setCell ⟨b7, 0, none⟩ vR).setCell ⟨b7, 1, none⟩ vM).drew c s := (h.put7 h7).same.all
theorem run_h7 {w2 w3 w4 : World} {o o' : Obj} (z2 : w.heap.size + 1 + 1 < w2.heap.size) (hx3 : w3.heap[w2.heap.size]? = some o) (hb4 : Below (w3.alloc o').heap.size (w3.alloc o') w4) : w.heap.size + 1 + 1 ≠ w3.heap.size ∧ w.heap.size + 1 + 1 ≠ w4.heap.size ∧ w.heap.size ≤ w.heap.size + 1 + 1 := by
  have h1 := (Array.getElem?_eq_some_iff.1 hx3).1
  have h2 : w3.heap.size < w4.heap.size := Nat.lt_of_lt_of_le (by simp) hb4.size
  omega
end
theorem run_mid {w w2 w3 : World} {x y : Value} (hbB : Below w.heap.size w w2) (hb3 : Below w2.heap.size ((w2.setCell ⟨w.heap.size + 1 + 1, 0, none⟩ x).setCell ⟨w.heap.size + 1 + 1, 1, none⟩ y) w3) : Below w.heap.size w w3 :=
  ((hbB.setCell (by simp; omega) _).setCell (by simp; omega) _).trans (hb3.mono hbB.size)
set_option maxRecDepth 100000 in
set_option maxHeartbeats 3200000 in
theorem run_ok (v1 v2 v3 : Value) (rom ram : List UInt8) (l : List Int) (n : Nat) (hn : n ≤ 500) (w : World) (h1 : sliceAt w v1 rom) (h2 : sliceAt w v2 ram) (h3 : intsAt w v3 l) (hl3 : l.length ≤ maxLen) (hl1 : rom.length ≤ 1024) (hl2 : ram.length ≤ 256) (hs : shapesAt w) :
    Calls Tryz.prog 15 #[.agg #[v1, v2], .int .i64 n, v3] w fun e w' => ∃ vR vM, e = .returned (.tuple #[cpuV (runTo (spc rom) ram (rg l) n).1, .agg #[vR, vM], .int .i64 (runTo (spc rom) ram (rg l) n).2.2, .int .i64 0]) ∧ sliceAt w' vR rom ∧ sliceAt w' vM (runTo (spc rom) ram (rg l) n).2.1 ∧ (runTo (spc rom) ram (rg l) n).1.ok ∧ Below w.heap.size w w' := by
  have H1 := hid h1
  have H2 := hid h2
  have H3 := hid h3
  obtain ⟨a1, k1, x1⟩ := slice_len h1
  obtain ⟨a2, k2, x2⟩ := slice_len h2
  obtain ⟨a3, k3, x3⟩ := ints_len h3
  subst x1 x2 x3
  obtain ⟨c0, hc0⟩ : ∃ c0, (C.begin' (spc rom) ram).1 = c0 := ⟨_, rfl⟩
  have HBG := hid (fun B sb vR vM W hI => begin_sp B sb vR vM rom ram W hI)
  simp only [hc0] at HBG
  have HC0 := hid hc0
  clear hc0
  have HS := hid hs
  have HCK := fun W : World => hid (chk_any a1 a2 rom.length ram.length k1 k2 W)
  rw [if_neg (by omega)] at HCK
  clear h1 h2 h3 hs
  go_enter Tryz.func15, Tryz.ntmps15
  go_wp2_with (first
    | (go_at_call 8; refine (HCK _).out.mono ?_; rintro e w1 ⟨rfl, hb1⟩; have hbA := hid (stp (stA (stA (stA (st0 w) _) _) _) hb1); obtain ⟨kk1, ff1⟩ := bcell hb1; have z1 : w.heap.size + 1 + 1 < w1.heap.size := Nat.lt_of_lt_of_le (by simp) hb1.size)
    | (go_at_call 18; refine (copyOf_any _ _ rom ram _ (H1.out.kept hbA.out) (H2.out.kept hbA.out) hl1 hl2).mono ?_; rintro e w2 ⟨vR, vM, rfl, hcop, hb2⟩; obtain ⟨aR, cR, rfl⟩ := own_slice hcop.1; obtain ⟨aM, cM, rfl⟩ := own_slice hcop.2.1; have HCOP := hid hcop; have hbB := hid (stp hbA.out hb2); obtain ⟨kk2, ff2⟩ := bcell hb2; have z2 := Nat.lt_of_lt_of_le z1 hb2.size; clear hcop)
    | (go_at_call 20; refine (reachOf_any _ _ aR aM rom.length ram.length cR cM rfl rfl _).mono ?_; rintro e w3 ⟨rfl, hx3, hb3⟩; rw [setCell_size, setCell_size] at hx3 hb3; have HX3 := hid hx3; have HB3 := hid hb3; have HBC := hid (run_mid hbB.out hb3); clear hx3 hb3 kk1 ff1 kk2 ff2)
    | (go_at_call 36; refine (rungAt_any _ l _ (H3.out.kept (stA HBC.out _)) hl3).mono ?_; rintro e w4 ⟨rfl, hb4⟩; have HB4 := hid hb4; clear hb4)
    | (refine wpList_store_mid rfl 77 (.tmp 12) (.tmp 35) rfl w4.heap.size 0 (rcl l).toArray rfl rfl ?_ ?_ ?_ ?_
       · rw [show (rcl l).toArray.size = 500 from rcl_len l]; exact there_new w4 _ _ 500 zero_size
       · rw [show (rcl l).toArray.size = 500 from rcl_len l]; exact info_500
       · exact all_oneCell_toArray (rcl_one l)
       refine cutL (fun W => RunW w w1.heap.size (w.heap.size + 1) (w.heap.size + 1 + 1) w2.heap.size w3.heap.size w4.heap.size (.slice aR rom.length cR) (.slice aM ram.length cM) rom l W C.Cpu.zero ram) ?_ ?_
       · exact run_start (R := .cells #[] 0) HS.out ⟨hl1, hl2⟩ hb1 HCOP.out hb2 HX3.out HB3.out HB4.out
       have H7 := hid (run_h7 z2 HX3.out HB4.out)
       clear hb1 hb2 HCOP hbA hbB HX3 HB3 HB4 HBC
       rintro W hR
       have r0 := hR.r0
       have r1 := hR.r1
       have HRW := hid hR
       clear hR)
    | (go_at_call 37; refine (HBG.out w1.heap.size w2.heap.size (.slice aR rom.length cR) (.slice aM ram.length cM) _ HRW.out.sp).mono ?_; rintro e w5 ⟨rfl, hI5, hm5, hok5⟩; have HR5 := hid (HRW.out.moved hI5 hm5); have HO5 := hid hok5; clear hI5 hm5 hok5 HRW)
    | (refine wpList_store_mid rfl 25 (.tmp 6) (.tmp 37) rfl (w.heap.size + 1) 0 _ rfl rfl ?_ ?_ ?_ ?_
       · exact HR5.out.cth
       · exact info_cpu
       · exact cpuL_one c0
       refine cutL (fun W => RunW w w1.heap.size (w.heap.size + 1) (w.heap.size + 1 + 1) w2.heap.size w3.heap.size w4.heap.size (.slice aR rom.length cR) (.slice aM ram.length cM) rom l W c0 ram) ?_ ?_
       · exact HR5.out.put HO5.out
       clear HR5 HO5 r0 r1
       rintro W6 hR6
       have HR6 := hid hR6
       clear hR6))
  go_loopw [8, 39] (fun cy i wr => ∃ k : Nat, k ≤ n ∧ cy = .int .i64 (runTo (spc rom) ram (rg l) k).2.2 ∧ i = .int .i64 k ∧ RunW w w1.heap.size (w.heap.size + 1) (w.heap.size + 1 + 1) w2.heap.size w3.heap.size w4.heap.size (.slice aR rom.length cR) (.slice aM ram.length cM) rom l wr (runTo (spc rom) ram (rg l) k).1 (runTo (spc rom) ram (rg l) k).2.1) (fun _ i _ => n - (intOf i).toNat)
  case atStart =>
    refine ⟨0, by omega, rfl, rfl, ?_⟩
    have := HR6.out
    rw [← HC0.out] at this
    exact this
  case round =>
    clear HR6
    obtain ⟨k, hk, rfl, rfl, hA⟩ := hrel
    obtain ⟨⟨c, s, cy⟩, hy⟩ : ∃ y, runTo (spc rom) ram (rg l) k = y := ⟨_, rfl⟩
    have hcy := runTo_n rom ram (rg l) k
    rw [hy] at hA hcy
    rw [hy]
    have HYK := hid hy
    clear hy
    have HA : Hid (RunW w w1.heap.size (w.heap.size + 1) (w.heap.size + 1 + 1) w2.heap.size w3.heap.size w4.heap.size (.slice aR rom.length cR) (.slice aM ram.length cM) rom l wr c s) := hA
    clear hA
    by_cases hkn : k < n
    · obtain ⟨st, hst⟩ : ∃ st, C.step (spc rom) c s (rg l k) = st := ⟨_, rfl⟩
      have HD := hid (fun (X : World) (hI : SpI w1.heap.size w2.heap.size (.slice aR rom.length cR) (.slice aM ram.length cM) rom X s) => do_any (space_rs w1.heap.size w2.heap.size (.slice aR rom.length cR) (.slice aM ram.length cM) rom) (rg l k) X c s HA.out.ok hI)
      have hsn := sp_step_n rom c s (rg l k)
      rw [hst] at HD hsn
      have HST := hid hst
      clear hst
      have hk5 : k < 500 := by omega
      have hk5' : (k : Int) < 500 := by omega
      have r0 := HA.out.r0
      have r1 := HA.out.r1
      have q0 : wr.cell? ⟨w4.heap.size, k, none⟩ = some (.bool (rg l k)) := by have := HA.out.q k _ (rcl_at l k hk5); rwa [Nat.zero_add] at this
      have e0 : wr.cell? ⟨w.heap.size + 1, 0, none⟩ = some (.int .u16 (c.r 0)) := HA.out.hc 0 _ rfl
      have e1 : wr.cell? ⟨w.heap.size + 1, 1, none⟩ = some (.int .u16 (c.r 1)) := HA.out.hc 1 _ rfl
      have e2 : wr.cell? ⟨w.heap.size + 1, 2, none⟩ = some (.int .u16 (c.r 2)) := HA.out.hc 2 _ rfl
      have e3 : wr.cell? ⟨w.heap.size + 1, 3, none⟩ = some (.int .u16 (c.r 3)) := HA.out.hc 3 _ rfl
      have e4 : wr.cell? ⟨w.heap.size + 1, 4, none⟩ = some (.int .u16 (c.r 4)) := HA.out.hc 4 _ rfl
      have e5 : wr.cell? ⟨w.heap.size + 1, 5, none⟩ = some (.int .u16 (c.r 5)) := HA.out.hc 5 _ rfl
      have e6 : wr.cell? ⟨w.heap.size + 1, 6, none⟩ = some (.int .u16 (c.r 6)) := HA.out.hc 6 _ rfl
      have e7 : wr.cell? ⟨w.heap.size + 1, 7, none⟩ = some (.int .u16 (c.r 7)) := HA.out.hc 7 _ rfl
      have e8 : wr.cell? ⟨w.heap.size + 1, 8, none⟩ = some (.int .u16 c.PC) := HA.out.hc 8 _ rfl
      have e9 : wr.cell? ⟨w.heap.size + 1, 9, none⟩ = some (.bool c.Z) := HA.out.hc 9 _ rfl
      have e10 : wr.cell? ⟨w.heap.size + 1, 10, none⟩ = some (.bool c.N) := HA.out.hc 10 _ rfl
      have e11 : wr.cell? ⟨w.heap.size + 1, 11, none⟩ = some (.bool c.C) := HA.out.hc 11 _ rfl
      have e12 : wr.cell? ⟨w.heap.size + 1, 12, none⟩ = some (.bool c.V) := HA.out.hc 12 _ rfl
      have e13 : wr.cell? ⟨w.heap.size + 1, 13, none⟩ = some (.bool c.May) := HA.out.hc 13 _ rfl
      have e14 : wr.cell? ⟨w.heap.size + 1, 14, none⟩ = some (.bool c.Waits) := HA.out.hc 14 _ rfl
      have zq := (HA.out.nT _ (Or.inr (Or.inr (Or.inr rfl)))).2
      have zr := (HA.out.nT _ (Or.inr (Or.inr (Or.inl rfl)))).2
      have zc := (HA.out.nT _ (Or.inl rfl)).2
      go_wp2
      go_region_with (go_at_call 19; refine (HD.out _ HA.out.same.sp).mono ?_; rintro e w7 ⟨rfl, hI7, hm7, hok7⟩; have HR7 := hid (HA.out.same.moved hI7 hm7); have p0 : w7.cell? ⟨w.heap.size + 1, 0, none⟩ = some (.int .u16 (c.r 0)) := HR7.out.hc 0 _ rfl; have p1 : w7.cell? ⟨w.heap.size + 1, 1, none⟩ = some (.int .u16 (c.r 1)) := HR7.out.hc 1 _ rfl; have p2 : w7.cell? ⟨w.heap.size + 1, 2, none⟩ = some (.int .u16 (c.r 2)) := HR7.out.hc 2 _ rfl; have p3 : w7.cell? ⟨w.heap.size + 1, 3, none⟩ = some (.int .u16 (c.r 3)) := HR7.out.hc 3 _ rfl; have p4 : w7.cell? ⟨w.heap.size + 1, 4, none⟩ = some (.int .u16 (c.r 4)) := HR7.out.hc 4 _ rfl; have p5 : w7.cell? ⟨w.heap.size + 1, 5, none⟩ = some (.int .u16 (c.r 5)) := HR7.out.hc 5 _ rfl; have p6 : w7.cell? ⟨w.heap.size + 1, 6, none⟩ = some (.int .u16 (c.r 6)) := HR7.out.hc 6 _ rfl; have p7 : w7.cell? ⟨w.heap.size + 1, 7, none⟩ = some (.int .u16 (c.r 7)) := HR7.out.hc 7 _ rfl; have p8 : w7.cell? ⟨w.heap.size + 1, 8, none⟩ = some (.int .u16 c.PC) := HR7.out.hc 8 _ rfl; have p9 : w7.cell? ⟨w.heap.size + 1, 9, none⟩ = some (.bool c.Z) := HR7.out.hc 9 _ rfl; have p10 : w7.cell? ⟨w.heap.size + 1, 10, none⟩ = some (.bool c.N) := HR7.out.hc 10 _ rfl; have p11 : w7.cell? ⟨w.heap.size + 1, 11, none⟩ = some (.bool c.C) := HR7.out.hc 11 _ rfl; have p12 : w7.cell? ⟨w.heap.size + 1, 12, none⟩ = some (.bool c.V) := HR7.out.hc 12 _ rfl; have p13 : w7.cell? ⟨w.heap.size + 1, 13, none⟩ = some (.bool c.May) := HR7.out.hc 13 _ rfl; have p14 : w7.cell? ⟨w.heap.size + 1, 14, none⟩ = some (.bool c.Waits) := HR7.out.hc 14 _ rfl; have pf := HR7.out.cf; have z7 := (HR7.out.nT _ (Or.inl rfl)).2; have HO7 := hid hok7; clear hI7 hm7 hok7)
      all_goals go_wp2
      all_goals
        have hk1 : runTo (spc rom) ram (rg l) (k + 1) = (st.c, st.s, cy + st.n) := by simp only [runTo, HYK.out, HST.out]
        rw [nested_eq]
        exact ⟨⟨k + 1, by omega, by rw [hk1], by go_num, by rw [hk1]; exact HR7.out.put HO7.out⟩, by simp [intOf]; omega⟩
    · obtain rfl : k = n := by omega
      have e0 : wr.cell? ⟨w.heap.size + 1, 0, none⟩ = some (.int .u16 (c.r 0)) := HA.out.hc 0 _ rfl
      have e1 : wr.cell? ⟨w.heap.size + 1, 1, none⟩ = some (.int .u16 (c.r 1)) := HA.out.hc 1 _ rfl
      have e2 : wr.cell? ⟨w.heap.size + 1, 2, none⟩ = some (.int .u16 (c.r 2)) := HA.out.hc 2 _ rfl
      have e3 : wr.cell? ⟨w.heap.size + 1, 3, none⟩ = some (.int .u16 (c.r 3)) := HA.out.hc 3 _ rfl
      have e4 : wr.cell? ⟨w.heap.size + 1, 4, none⟩ = some (.int .u16 (c.r 4)) := HA.out.hc 4 _ rfl
      have e5 : wr.cell? ⟨w.heap.size + 1, 5, none⟩ = some (.int .u16 (c.r 5)) := HA.out.hc 5 _ rfl
      have e6 : wr.cell? ⟨w.heap.size + 1, 6, none⟩ = some (.int .u16 (c.r 6)) := HA.out.hc 6 _ rfl
      have e7 : wr.cell? ⟨w.heap.size + 1, 7, none⟩ = some (.int .u16 (c.r 7)) := HA.out.hc 7 _ rfl
      have e8 : wr.cell? ⟨w.heap.size + 1, 8, none⟩ = some (.int .u16 c.PC) := HA.out.hc 8 _ rfl
      have e9 : wr.cell? ⟨w.heap.size + 1, 9, none⟩ = some (.bool c.Z) := HA.out.hc 9 _ rfl
      have e10 : wr.cell? ⟨w.heap.size + 1, 10, none⟩ = some (.bool c.N) := HA.out.hc 10 _ rfl
      have e11 : wr.cell? ⟨w.heap.size + 1, 11, none⟩ = some (.bool c.C) := HA.out.hc 11 _ rfl
      have e12 : wr.cell? ⟨w.heap.size + 1, 12, none⟩ = some (.bool c.V) := HA.out.hc 12 _ rfl
      have e13 : wr.cell? ⟨w.heap.size + 1, 13, none⟩ = some (.bool c.May) := HA.out.hc 13 _ rfl
      have e14 : wr.cell? ⟨w.heap.size + 1, 14, none⟩ = some (.bool c.Waits) := HA.out.hc 14 _ rfl
      have o0 := HA.out.o0
      have o1 := HA.out.o1
      have ef := HA.out.cf
      have of := HA.out.of
      have zc := (HA.out.nT _ (Or.inl rfl)).2
      have zo := (HA.out.nT _ (Or.inr (Or.inl rfl))).2
      go_wp2
      go_region_held3 (fun w' => w'.cell? ⟨w.heap.size + 1, 0, none⟩ = some (.int .u16 (c.r 0)) ∧ w'.cell? ⟨w.heap.size + 1, 1, none⟩ = some (.int .u16 (c.r 1)) ∧ w'.cell? ⟨w.heap.size + 1, 2, none⟩ = some (.int .u16 (c.r 2)) ∧ w'.cell? ⟨w.heap.size + 1, 3, none⟩ = some (.int .u16 (c.r 3)) ∧ w'.cell? ⟨w.heap.size + 1, 4, none⟩ = some (.int .u16 (c.r 4)) ∧ w'.cell? ⟨w.heap.size + 1, 5, none⟩ = some (.int .u16 (c.r 5)) ∧ w'.cell? ⟨w.heap.size + 1, 6, none⟩ = some (.int .u16 (c.r 6)) ∧ w'.cell? ⟨w.heap.size + 1, 7, none⟩ = some (.int .u16 (c.r 7)) ∧ w'.cell? ⟨w.heap.size + 1, 8, none⟩ = some (.int .u16 c.PC) ∧ w'.cell? ⟨w.heap.size + 1, 9, none⟩ = some (.bool c.Z) ∧ w'.cell? ⟨w.heap.size + 1, 10, none⟩ = some (.bool c.N) ∧ w'.cell? ⟨w.heap.size + 1, 11, none⟩ = some (.bool c.C) ∧ w'.cell? ⟨w.heap.size + 1, 12, none⟩ = some (.bool c.V) ∧ w'.cell? ⟨w.heap.size + 1, 13, none⟩ = some (.bool c.May) ∧ w'.cell? ⟨w.heap.size + 1, 14, none⟩ = some (.bool c.Waits) ∧ w'.cell? ⟨w.heap.size + 1 + 1, 0, none⟩ = some (.slice aR rom.length cR) ∧ w'.cell? ⟨w.heap.size + 1 + 1, 1, none⟩ = some (.slice aM ram.length cM) ∧ RunW w w1.heap.size (w.heap.size + 1) (w.heap.size + 1 + 1) w2.heap.size w3.heap.size w4.heap.size (.slice aR rom.length cR) (.slice aM ram.length cM) rom l w' c s)
        (first
          | with_reducible exact HA.out.same.all
          | with_reducible exact runS_6 HA.out
          | with_reducible exact runS_7 H7.out HA.out
          | with_reducible exact runS_7 H7.out (runW_6 HA.out)
          | with_reducible exact runS_6 (HA.out.put7 H7.out)
          | (go_keep; done))
        (fail)
      go_wp2
      refine cutB (fun Y => RunW w w1.heap.size (w.heap.size + 1) (w.heap.size + 1 + 1) w2.heap.size w3.heap.size w4.heap.size (.slice aR rom.length cR) (.slice aM ram.length cM) rom l Y c s) ((runW_6 HA.out).put7 H7.out).same ?_
      rintro Y hY
      rw [HYK.out]
      have hrB : Y.rangeAt (w.heap.size + 1 + 1) 0 [.slice aR rom.length cR, .slice aM ram.length cM] := fun j v hj => by
        match j, hj with
        | 0, hj => cases hj; exact hY.o0
        | 1, hj => cases hj; exact hY.o1
      have hl := load_cpu Y _ c hY.hc
      have hl2 := run_loadVar_mid (P := Tryz.prog) Y _ 0 28 _ _ hrB Tryz.underlying28 rfl info_space
      refine bodyPost_ret (v := .tuple #[cpuV c, .agg #[.slice aR rom.length cR, .slice aM ram.length cM], .int .i64 cy, .int .i64 0]) ?_ rfl ⟨_, _, rfl, slice_of_own hY.sp.hrom, slice_of_own hY.sp.hram, hY.ok, hY.low⟩
      simp only [results, Tryz.results15]
      simp
      show (Result.andThen (Sem.run Tryz.prog (loadVar 25 ⟨w.heap.size + 1, 0, none⟩) Y) _) = _
      rw [hl]
      show (Result.andThen (Sem.run Tryz.prog (loadVar 28 ⟨w.heap.size + 1 + 1, 0, none⟩) Y) _) = _
      rw [hl2]
      rfl
theorem run_fact (v1 v2 : Value) (w : World) (h1 : sliceAt w v1 romS) (h2 : sliceAt w v2 ramS) (hs : shapesAt w) :
    Calls Tryz.prog 15 #[.agg #[v1, v2], .int .i64 1, .slice none 0 0] w fun e w' => ∃ (c : C.Cpu) (vR vM : Value), e = .returned (.tuple #[cpuV c, .agg #[vR, vM], .int .i64 1, .int .i64 0]) ∧ c.r 1 = 65535 ∧ c.N = true ∧ c.PC = 8 ∧ sliceAt w' vR romS ∧ (∃ l, sliceAt w' vM l) ∧ Below w.heap.size w w' := by
  refine (run_ok v1 v2 (.slice none 0 0) romS ramS [] 1 (by omega) w h1 h2 (Or.inl ⟨none, 0, rfl, rfl⟩) (by simp) (by decide) (by decide) hs).mono ?_
  rintro e w' ⟨vR, vM, rfl, hR, hM, _, hb⟩
  exact ⟨_, vR, vM, by rw [runS.2.2.2], runS.1, runS.2.1, runS.2.2.1, hR, ⟨_, hM⟩, hb⟩
theorem step_fact (v1 v2 : Value) (w : World) (h1 : sliceAt w v1 romS) (h2 : sliceAt w v2 ramS) (hs : shapesAt w) :
    Calls Tryz.prog 6 #[cpuV cpuS, .agg #[v1, v2], .bool true] w fun e w' => ∃ (c : C.Cpu) (vR vM : Value), e = .returned (.tuple #[cpuV c, .agg #[vR, vM], .int .i64 6, .int .i64 0]) ∧ c.PC = 8 ∧ c.May = false ∧ sliceAt w' vR romS ∧ sliceAt w' vM [0, 0, 0, 0, 0, 16, 0, 6] ∧ Below w.heap.size w w' := by
  refine (step_ok cpuS cpuS_ok v1 v2 romS ramS true w h1 h2 (by decide) (by decide) hs).mono ?_
  rintro e w' ⟨vR, vM, rfl, hR, hM, _, hb⟩
  exact ⟨_, vR, vM, by rw [stepS.1], stepS.2.1, stepS.2.2.1, hR, by rw [stepS.2.2.2] at hM; exact hM, hb⟩
theorem mk8 (w : World) : (Instr.makeSlice 26 (.int .i64 8) (.int .i64 8)).run Tryz.prog w = .ok (.slice (some ⟨w.heap.size, 0, none⟩) 8 8) (w.alloc (.cells #[.int .u8 0, .int .u8 0, .int .u8 0, .int .u8 0, .int .u8 0, .int .u8 0, .int .u8 0, .int .u8 0] 5)) := by kernel_rfl
theorem slice_blk {w : World} {b : Nat} {l : List UInt8} {t : TypeId} (h : w.heap[b]? = some (.cells (bcs l).toArray t (0, 0))) (n : Nat) (hn : l.length = n) : sliceAt w (.slice (some ⟨b, 0, none⟩) n n) l := by
  subst hn
  refine Or.inr ⟨b, 0, l.length, rfl, Nat.le_refl _, (Array.getElem?_eq_some_iff.1 h).1, fun j c hj => ?_⟩
  rw [Nat.zero_add, Lib.cell_of_heap h j]
  simp [bcs, hj]
theorem sd_box {w w1 : World} {o1 o2 : Obj} {x y : Value} (hb : Below (((w.alloc o1).alloc o2).alloc (.cells #[x, y] 28)).heap.size (((w.alloc o1).alloc o2).alloc (.cells #[x, y] 28)) w1) : w1.cell? ⟨w.heap.size + 1 + 1, 0, none⟩ = some x ∧ w1.cell? ⟨w.heap.size + 1 + 1, 1, none⟩ = some y ∧ w.heap.size + 1 + 1 < w1.heap.size ∧ w.heap.size + 1 + 1 < w1.heap.size + 1 := by
  have z : w.heap.size + 1 + 1 < w1.heap.size := Nat.lt_of_lt_of_le (by simp) hb.size
  exact ⟨(hb.cell (p := ⟨w.heap.size + 1 + 1, 0, none⟩) (by simp)).trans (cell_new _ _ _ _ (by simp)), (hb.cell (p := ⟨w.heap.size + 1 + 1, 1, none⟩) (by simp)).trans (cell_new _ _ _ _ (by simp)), z, by omega⟩
theorem sd_rows {w w1 : World} {o3 : Obj} (hb : Below (((w.alloc (.cells #[.int .u8 0, .int .u8 6, .int .u8 0, .int .u8 8, .int .u8 0, .int .u8 0, .int .u8 121, .int .u8 31, .int .u8 0, .int .u8 0] 5)).alloc (.cells #[.int .u8 0, .int .u8 0, .int .u8 0, .int .u8 0, .int .u8 0, .int .u8 0, .int .u8 0, .int .u8 0] 5)).alloc o3).heap.size (((w.alloc (.cells #[.int .u8 0, .int .u8 6, .int .u8 0, .int .u8 8, .int .u8 0, .int .u8 0, .int .u8 121, .int .u8 31, .int .u8 0, .int .u8 0] 5)).alloc (.cells #[.int .u8 0, .int .u8 0, .int .u8 0, .int .u8 0, .int .u8 0, .int .u8 0, .int .u8 0, .int .u8 0] 5)).alloc o3) w1) :
    sliceAt w1 (.slice (some ⟨w.heap.size, 0, none⟩) 10 10) romS ∧ sliceAt w1 (.slice (some ⟨w.heap.size + 1, 0, none⟩) 8 8) ramS :=
  ⟨(slice_blk (l := romS) ((heap_alloc_old _ _ (by simp; omega)).trans ((heap_alloc_old _ _ (by simp)).trans (heap_alloc_new w _))) 10 rfl).kept hb, (slice_blk (l := ramS) ((heap_alloc_old _ _ (by simp)).trans (heap_new_at _ _ _ (by simp))) 8 rfl).kept hb⟩
theorem sd_c {w w1 : World} {o : Obj} {cs : Array Value} {t : TypeId} (hb : Below ((w.alloc (.cells cs t)).alloc o).heap.size ((w.alloc (.cells cs t)).alloc o) w1) : (∀ j, w1.cell? ⟨w.heap.size, j, none⟩ = cs[j]?) ∧ w.heap.size < w1.heap.size ∧ w.heap.size < w1.heap.size + 1 := by
  have z : w.heap.size < w1.heap.size := Nat.lt_of_lt_of_le (by simp; omega) hb.size
  exact ⟨fun j => (hb.cell (p := ⟨w.heap.size, j, none⟩) (by simp; omega)).trans (qz _ _ _ _ _ rfl), z, by omega⟩
set_option maxRecDepth 100000 in
set_option maxHeartbeats 3200000 in
theorem stepped_any (w : World) (hs : shapesAt w) : Calls Tryz.prog 7 #[] w fun e w' => e = .returned (.bool true) ∧ Below w.heap.size w w' := by
  have HS := hid hs
  clear hs
  have m8 := mk8
  go_enter Tryz.func7, Tryz.ntmps7
  go_wp2_with (first
    | (go_at_call 15; refine (run_fact _ _ _ ?_ ?_ ?_).mono ?_; (exact slice_blk (l := romS) ((heap_alloc_old _ _ (by simp; omega)).trans ((heap_alloc_old _ _ (by simp)).trans (heap_alloc_new w _))) 10 rfl); (exact slice_blk (l := ramS) ((heap_alloc_old _ _ (by simp)).trans (heap_new_at _ _ _ (by simp))) 8 rfl); (exact HS.out.kept (stA (stA (stA (st0 w) _) _) _)); rintro e w1 ⟨c1, vR1, vM1, rfl, f1, f2, f3, hR1, ⟨lM1, hM1⟩, hb1⟩; obtain ⟨aR1, kR1, rfl⟩ := slice_len hR1; obtain ⟨aM1, kM1, rfl⟩ := slice_len hM1; have B1 := hid (stp (stA (stA (stA (st0 w) _) _) _) hb1); obtain ⟨s0, s1, z1, z1b⟩ := sd_box hb1; have HR := hid (sd_rows hb1); clear hb1)
    | (go_at_call 6; refine (step_fact _ _ _ (HR.out.1.kept (stA (stA (st0 w1) _) _)) (HR.out.2.kept (stA (stA (st0 w1) _) _)) (HS.out.kept (stA (stA B1.out _) _))).mono ?_; rintro e w2 ⟨c2, vR2, vM2, rfl, g1, g2, hR2, hM2, hb2⟩; obtain ⟨aR2, kR2, rfl⟩ := slice_len hR2; obtain ⟨aM2, kM2, rfl⟩ := slice_len hM2; have B2 := hid (stp (stA (stA B1.out _) _) hb2); obtain ⟨cc, z2, z2b⟩ := sd_c hb2; have d1 : w2.cell? ⟨w1.heap.size, 1, none⟩ = some (.int .u16 65535) := cc 1; have d8 : w2.cell? ⟨w1.heap.size, 8, none⟩ = some (.int .u16 8) := cc 8; have d10 : w2.cell? ⟨w1.heap.size, 10, none⟩ = some (.bool true) := cc 10; have HM2 := hid hM2; clear hb2 cc hR2 hM2 s0 s1)
    | (go_at_call 21; refine (equal_any _ _ [0, 0, 0, 0, 0, 16, 0, 6] [0, 0, 0, 0, 0, 16, 0, 6] _ (HM2.out.kept (stA (stA (stA (st0 w2) _) _) _)) ?_).mono ?_; (exact slice_blk (l := [0, 0, 0, 0, 0, 16, 0, 6]) (heap_new_at _ _ _ (by simp)) 8 rfl); rintro e w3 ⟨rfl, rfl⟩))
  go_ret
  exact ⟨rfl, stA (stA (stA B2.out _) _) _⟩
end Go.Proofs.YtombboeonffejaaGreatDoor
