/-
  What Run answers of wrong things; the reference's Begin and its run; the law CpuRun where something is wrong, and its frame.
-/
import Derived.Test.YtombboeonffejaaGreatDoorZsQ
import Derived.Test.YtombboeonffejaaGreatDoorZsT
import Derived.Test.YtombboeonffejaaGreatDoorShapes
import Derived.Test.YtombboeonffejaaGreatDoorCards
import Derived.Test.YtombboeonffejaaGreatDoorTie
import Derived.SevenTiedAt
namespace Go.Proofs.YtombboeonffejaaGreatDoor
open Go.ChangeShapes Go.WideShapes Go.ChangeAt Go.RowKit
set_option linter.unusedVariables false

theorem rerr_mid {w w1 : World} {o1 : Obj} {cs : Array Value} (L : List Value) (hb : Below (((w.alloc o1).alloc (.cells cs 25)).alloc (.cells #[.slice none 0 0, .slice none 0 0] 28)).heap.size (((w.alloc o1).alloc (.cells cs 25)).alloc (.cells #[.slice none 0 0, .slice none 0 0] 28)) w1) (hL : cs.size = L.length) :
    Below w.heap.size w (w1.setCells (w.heap.size + 1) 0 L) ∧ (w1.setCells (w.heap.size + 1) 0 L).rangeAt (w.heap.size + 1) 0 L ∧ (w1.setCells (w.heap.size + 1) 0 L).cell? ⟨w.heap.size + 1 + 1, 0, none⟩ = some (.slice none 0 0) ∧ (w1.setCells (w.heap.size + 1) 0 L).cell? ⟨w.heap.size + 1 + 1, 1, none⟩ = some (.slice none 0 0) ∧ (∀ o, (w1.setCells (w.heap.size + 1) 0 L).frozen? ⟨w.heap.size + 1 + 1, o, none⟩ = false) ∧ w.heap.size + 1 + 1 < (w1.setCells (w.heap.size + 1) 0 L).heap.size := by
  have hh := setCells_heap (w.heap.size + 1) L 0 w1
  have hs := setCells_size (w.heap.size + 1) L 0 w1
  have hz : w.heap.size + 1 + 1 < (((w.alloc o1).alloc (.cells cs 25)).alloc (.cells #[.slice none 0 0, .slice none 0 0] 28)).heap.size := by simp
  have hth0 : (((w.alloc o1).alloc (.cells cs 25)).alloc (.cells #[.slice none 0 0, .slice none 0 0] 28)).there (w.heap.size + 1) 0 L.length := by
    have := World.there_alloc (there_new (w.alloc o1) cs 25 L.length hL) (.cells #[.slice none 0 0, .slice none 0 0] 28)
    simpa using this
  have hth := there_stays hth0 hb (by omega)
  have hbl := below_setCells (n := w.heap.size) (a := w) (b := w.heap.size + 1) (by omega) L 0 w1 (stp (stA (stA (stA (st0 w) _) _) _) hb)
  have hr := World.rangeAt_setCells_same w1 (w.heap.size + 1) 0 L hth
  have hsz := hb.size
  have c : ∀ o, w1.cell? ⟨w.heap.size + 1 + 1, o, none⟩ = (#[.slice none 0 0, .slice none 0 0] : Array Value)[o]? := fun o => (hb.cell (p := ⟨w.heap.size + 1 + 1, o, none⟩) hz).trans (cell_new _ _ _ _ (by simp))
  have f : ∀ o, w1.frozen? ⟨w.heap.size + 1 + 1, o, none⟩ = false := fun o => (hb.frozen (p := ⟨w.heap.size + 1 + 1, o, none⟩) hz).trans (fnew1 _ _ _ _ (by simp))
  generalize w1.setCells (w.heap.size + 1) 0 L = X at *
  exact ⟨hbl, hr, (World.cell?_of_block (w := w1) (hh (w.heap.size + 1 + 1) (by omega))).trans (c 0), (World.cell?_of_block (w := w1) (hh (w.heap.size + 1 + 1) (by omega))).trans (c 1), fun o => (World.frozen?_of_block (w := w1) (hh (w.heap.size + 1 + 1) (by omega))).trans (f o), by omega⟩
theorem rerr_fin {w W : World} {L : List Value} (hb : Below w.heap.size w W) (hr : W.rangeAt (w.heap.size + 1) 0 L) (y0 : W.cell? ⟨w.heap.size + 1 + 1, 0, none⟩ = some (.slice none 0 0)) (y1 : W.cell? ⟨w.heap.size + 1 + 1, 1, none⟩ = some (.slice none 0 0)) :
    Below w.heap.size w ((W.setCell ⟨w.heap.size + 1 + 1, 0, none⟩ (.slice none 0 0)).setCell ⟨w.heap.size + 1 + 1, 1, none⟩ (.slice none 0 0)) ∧ ((W.setCell ⟨w.heap.size + 1 + 1, 0, none⟩ (.slice none 0 0)).setCell ⟨w.heap.size + 1 + 1, 1, none⟩ (.slice none 0 0)).rangeAt (w.heap.size + 1) 0 L ∧ ((W.setCell ⟨w.heap.size + 1 + 1, 0, none⟩ (.slice none 0 0)).setCell ⟨w.heap.size + 1 + 1, 1, none⟩ (.slice none 0 0)).rangeAt (w.heap.size + 1 + 1) 0 [.slice none 0 0, .slice none 0 0] := by
  refine ⟨(hb.setCell (by simp; omega) _).setCell (by simp; omega) _, fun j v hj => ?_, fun j v hj => ?_⟩
  · exact (World.cell?_setCell_far _ _ _ _ (by simp)).trans ((World.cell?_setCell_far _ _ _ _ (by simp)).trans (hr j v hj))
  · have e0 := World.cell?_setCell_same W _ (.slice none 0 0) y0
    have e1 : (W.setCell ⟨w.heap.size + 1 + 1, 0, none⟩ (.slice none 0 0)).cell? ⟨w.heap.size + 1 + 1, 1, none⟩ = some (.slice none 0 0) := (World.cell?_setCell_other _ _ _ _ (by simp)).trans y1
    match j, hj with
    | 0, hj => cases hj; exact (World.cell?_setCell_other _ _ _ _ (by simp)).trans e0
    | 1, hj => cases hj; exact World.cell?_setCell_same _ _ _ e1
theorem rerr_there (w : World) (o1 : Obj) : ((w.alloc o1).alloc (.cells #[.int .u16 0, .int .u16 0, .int .u16 0, .int .u16 0, .int .u16 0, .int .u16 0, .int .u16 0, .int .u16 0, .int .u16 0, .bool false, .bool false, .bool false, .bool false, .bool false, .bool false] 25)).there (w.heap.size + 1) 0 15 := by
  have := there_new (w.alloc o1) #[.int .u16 0, .int .u16 0, .int .u16 0, .int .u16 0, .int .u16 0, .int .u16 0, .int .u16 0, .int .u16 0, .int .u16 0, .bool false, .bool false, .bool false, .bool false, .bool false, .bool false] 25 15 rfl
  simpa using this
set_option maxRecDepth 100000 in
set_option maxHeartbeats 400000 in
theorem run_err (v1 v2 v3 : Value) (rom ram : List UInt8) (n : Int) (w : World) (h1 : sliceAt w v1 rom) (h2 : sliceAt w v2 ram) (hl : 1024 < rom.length ∨ 256 < ram.length) :
    Calls Tryz.prog 15 #[.agg #[v1, v2], .int .i64 n, v3] w fun e w' => e = .returned (.tuple #[cpuV C.Cpu.zero, .agg #[.slice none 0 0, .slice none 0 0], .int .i64 0, .int .i64 2]) ∧ Below w.heap.size w w' := by
  obtain ⟨a1, k1, x1⟩ := slice_len h1
  obtain ⟨a2, k2, x2⟩ := slice_len h2
  subst x1 x2
  have HCK := fun W : World => hid (chk_any a1 a2 rom.length ram.length k1 k2 W)
  rw [if_pos hl] at HCK
  clear h1 h2 hl
  go_enter Tryz.func15, Tryz.ntmps15
  go_wp2_with (first
    | (go_at_call 8; refine (HCK _).out.mono ?_; rintro e w1 ⟨rfl, hb1⟩; have hbA := hid (stp (stA (stA (stA (st0 w) _) _) _) hb1); obtain ⟨kk1, ff1⟩ := bcell hb1; have z1 : w.heap.size + 1 + 1 < w1.heap.size := Nat.lt_of_lt_of_le (by simp) hb1.size)
    | (refine wpList_store_mid rfl 25 (.tmp 6) (.tmp 19) rfl (w.heap.size + 1) 0 _ rfl rfl ?_ ?_ ?_ ?_
       · exact there_stays (World.there_alloc (rerr_there w _) _) hb1 (by simp)
       · exact info_cpu
       · exact cpuL_one C.Cpu.zero
       refine cutL (fun W => Below w.heap.size w W ∧ W.rangeAt (w.heap.size + 1) 0 (cpuL C.Cpu.zero) ∧ W.cell? ⟨w.heap.size + 1 + 1, 0, none⟩ = some (.slice none 0 0) ∧ W.cell? ⟨w.heap.size + 1 + 1, 1, none⟩ = some (.slice none 0 0) ∧ (∀ o, W.frozen? ⟨w.heap.size + 1 + 1, o, none⟩ = false) ∧ w.heap.size + 1 + 1 < W.heap.size) ?_ ?_
       · exact rerr_mid (cpuL C.Cpu.zero) hb1 rfl
       clear kk1 ff1
       rintro W ⟨hbW, hrW, y0, y1, yf, yz⟩))
  refine cutB (fun Y => Below w.heap.size w Y ∧ Y.rangeAt (w.heap.size + 1) 0 (cpuL C.Cpu.zero) ∧ Y.rangeAt (w.heap.size + 1 + 1) 0 [.slice none 0 0, .slice none 0 0]) (rerr_fin hbW hrW y0 y1) ?_
  rintro Y ⟨hbY, hrA, hrB⟩
  have hl := load_cpu Y _ _ hrA
  have hl2 := run_loadVar_mid (P := Tryz.prog) Y _ 0 28 _ _ hrB Tryz.underlying28 rfl info_sp
  refine bodyPost_ret (v := .tuple #[cpuV C.Cpu.zero, .agg #[.slice none 0 0, .slice none 0 0], .int .i64 0, .int .i64 2]) ?_ rfl ⟨rfl, hbY⟩
  simp only [results, Tryz.results15]
  simp
  show (Result.andThen (Sem.run Tryz.prog (loadVar 25 ⟨w.heap.size + 1, 0, none⟩) Y) _) = _
  rw [hl]
  show (Result.andThen (Sem.run Tryz.prog (loadVar 28 ⟨w.heap.size + 1 + 1, 0, none⟩) Y) _) = _
  rw [hl2]
  rfl
set_option maxRecDepth 100000 in
set_option maxHeartbeats 400000 in
theorem run_neg (v1 v2 v3 : Value) (rom ram : List UInt8) (n : Int) (w : World) (h1 : sliceAt w v1 rom) (h2 : sliceAt w v2 ram) (hl : ¬ (1024 < rom.length ∨ 256 < ram.length)) (hn : n < 0) :
    Calls Tryz.prog 15 #[.agg #[v1, v2], .int .i64 n, v3] w fun e w' => e = .returned (.tuple #[cpuV C.Cpu.zero, .agg #[.slice none 0 0, .slice none 0 0], .int .i64 0, .int .i64 3]) ∧ Below w.heap.size w w' := by
  obtain ⟨a1, k1, x1⟩ := slice_len h1
  obtain ⟨a2, k2, x2⟩ := slice_len h2
  subst x1 x2
  have HCK := fun W : World => hid (chk_any a1 a2 rom.length ram.length k1 k2 W)
  rw [if_neg hl] at HCK
  clear h1 h2 hl
  go_enter Tryz.func15, Tryz.ntmps15
  go_wp2_with (first
    | (go_at_call 8; refine (HCK _).out.mono ?_; rintro e w1 ⟨rfl, hb1⟩; have hbA := hid (stp (stA (stA (stA (st0 w) _) _) _) hb1); obtain ⟨kk1, ff1⟩ := bcell hb1; have z1 : w.heap.size + 1 + 1 < w1.heap.size := Nat.lt_of_lt_of_le (by simp) hb1.size)
    | (refine wpList_store_mid rfl 25 (.tmp 6) (.tmp 28) rfl (w.heap.size + 1) 0 _ rfl rfl ?_ ?_ ?_ ?_
       · exact there_stays (World.there_alloc (rerr_there w _) _) hb1 (by simp)
       · exact info_cpu
       · exact cpuL_one C.Cpu.zero
       refine cutL (fun W => Below w.heap.size w W ∧ W.rangeAt (w.heap.size + 1) 0 (cpuL C.Cpu.zero) ∧ W.cell? ⟨w.heap.size + 1 + 1, 0, none⟩ = some (.slice none 0 0) ∧ W.cell? ⟨w.heap.size + 1 + 1, 1, none⟩ = some (.slice none 0 0) ∧ (∀ o, W.frozen? ⟨w.heap.size + 1 + 1, o, none⟩ = false) ∧ w.heap.size + 1 + 1 < W.heap.size) ?_ ?_
       · exact rerr_mid (cpuL C.Cpu.zero) hb1 rfl
       clear kk1 ff1
       rintro W ⟨hbW, hrW, y0, y1, yf, yz⟩))
  refine cutB (fun Y => Below w.heap.size w Y ∧ Y.rangeAt (w.heap.size + 1) 0 (cpuL C.Cpu.zero) ∧ Y.rangeAt (w.heap.size + 1 + 1) 0 [.slice none 0 0, .slice none 0 0]) (rerr_fin hbW hrW y0 y1) ?_
  rintro Y ⟨hbY, hrA, hrB⟩
  have hl := load_cpu Y _ _ hrA
  have hl2 := run_loadVar_mid (P := Tryz.prog) Y _ 0 28 _ _ hrB Tryz.underlying28 rfl info_sp
  refine bodyPost_ret (v := .tuple #[cpuV C.Cpu.zero, .agg #[.slice none 0 0, .slice none 0 0], .int .i64 0, .int .i64 3]) ?_ rfl ⟨rfl, hbY⟩
  simp only [results, Tryz.results15]
  simp
  show (Result.andThen (Sem.run Tryz.prog (loadVar 25 ⟨w.heap.size + 1, 0, none⟩) Y) _) = _
  rw [hl]
  show (Result.andThen (Sem.run Tryz.prog (loadVar 28 ⟨w.heap.size + 1 + 1, 0, none⟩) Y) _) = _
  rw [hl2]
  rfl
set_option maxRecDepth 100000 in
set_option maxHeartbeats 400000 in
theorem run_many (v1 v2 v3 : Value) (rom ram : List UInt8) (n : Int) (w : World) (h1 : sliceAt w v1 rom) (h2 : sliceAt w v2 ram) (hl : ¬ (1024 < rom.length ∨ 256 < ram.length)) (hn : 500 < n) :
    Calls Tryz.prog 15 #[.agg #[v1, v2], .int .i64 n, v3] w fun e w' => e = .returned (.tuple #[cpuV C.Cpu.zero, .agg #[.slice none 0 0, .slice none 0 0], .int .i64 0, .int .i64 3]) ∧ Below w.heap.size w w' := by
  obtain ⟨a1, k1, x1⟩ := slice_len h1
  obtain ⟨a2, k2, x2⟩ := slice_len h2
  subst x1 x2
  have HCK := fun W : World => hid (chk_any a1 a2 rom.length ram.length k1 k2 W)
  rw [if_neg hl] at HCK
  clear h1 h2 hl
  have hn0 : ¬ n < 0 := by omega
  go_enter Tryz.func15, Tryz.ntmps15
  go_wp2_with (first
    | (go_at_call 8; refine (HCK _).out.mono ?_; rintro e w1 ⟨rfl, hb1⟩; have hbA := hid (stp (stA (stA (stA (st0 w) _) _) _) hb1); obtain ⟨kk1, ff1⟩ := bcell hb1; have z1 : w.heap.size + 1 + 1 < w1.heap.size := Nat.lt_of_lt_of_le (by simp) hb1.size)
    | (refine wpList_store_mid rfl 25 (.tmp 6) (.tmp 28) rfl (w.heap.size + 1) 0 _ rfl rfl ?_ ?_ ?_ ?_
       · exact there_stays (World.there_alloc (rerr_there w _) _) hb1 (by simp)
       · exact info_cpu
       · exact cpuL_one C.Cpu.zero
       refine cutL (fun W => Below w.heap.size w W ∧ W.rangeAt (w.heap.size + 1) 0 (cpuL C.Cpu.zero) ∧ W.cell? ⟨w.heap.size + 1 + 1, 0, none⟩ = some (.slice none 0 0) ∧ W.cell? ⟨w.heap.size + 1 + 1, 1, none⟩ = some (.slice none 0 0) ∧ (∀ o, W.frozen? ⟨w.heap.size + 1 + 1, o, none⟩ = false) ∧ w.heap.size + 1 + 1 < W.heap.size) ?_ ?_
       · exact rerr_mid (cpuL C.Cpu.zero) hb1 rfl
       clear kk1 ff1
       rintro W ⟨hbW, hrW, y0, y1, yf, yz⟩))
  refine cutB (fun Y => Below w.heap.size w Y ∧ Y.rangeAt (w.heap.size + 1) 0 (cpuL C.Cpu.zero) ∧ Y.rangeAt (w.heap.size + 1 + 1) 0 [.slice none 0 0, .slice none 0 0]) (rerr_fin hbW hrW y0 y1) ?_
  rintro Y ⟨hbY, hrA, hrB⟩
  have hl := load_cpu Y _ _ hrA
  have hl2 := run_loadVar_mid (P := Tryz.prog) Y _ 0 28 _ _ hrB Tryz.underlying28 rfl info_sp
  refine bodyPost_ret (v := .tuple #[cpuV C.Cpu.zero, .agg #[.slice none 0 0, .slice none 0 0], .int .i64 0, .int .i64 3]) ?_ rfl ⟨rfl, hbY⟩
  simp only [results, Tryz.results15]
  simp
  show (Result.andThen (Sem.run Tryz.prog (loadVar 25 ⟨w.heap.size + 1, 0, none⟩) Y) _) = _
  rw [hl]
  show (Result.andThen (Sem.run Tryz.prog (loadVar 28 ⟨w.heap.size + 1 + 1, 0, none⟩) Y) _) = _
  rw [hl2]
  rfl
set_option maxRecDepth 100000 in
set_option maxHeartbeats 800000 in
theorem indexInt (v : Value) (l : List Int) (k : Int) (w : World) (h : intsAt w v l) (hl : l.length ≤ maxLen) :
    Calls Tryz.prog 38 #[v, .int .i64 k] w fun e w' => ∃ r : Int, e = .returned (.int .i64 r) ∧ decide (0 ≤ r) = decide (k ∈ l) ∧ w' = w := by
  have hl' : (l.length : Int) ≤ 9223372036854775807 := by unfold maxLen at hl; omega
  by_cases h0 : l = []
  · subst h0
    obtain ⟨a, c, rfl⟩ := ints_len h
    clear h hl hl'
    go_enter Tryz.func38, Tryz.ntmps38
    go_wp2
    go_loop [8] (fun i => i = .int .i64 0) (fun _ => 0)
    case atStart => exact rfl
    case round =>
      subst hrel
      go_wp2
      go_ret
      exact ⟨_, rfl, by simp, rfl⟩
  · rcases h with ⟨_, _, _, h2⟩ | ⟨g, o, cap, rfl, _, hg, hc⟩
    · exact absurd h2 h0
    have HC := hid hc
    clear hc hl
    go_enter Tryz.func38, Tryz.ntmps38
    go_wp2
    go_loop [8] (fun i => ∃ j : Nat, j ≤ l.length ∧ i = .int .i64 j ∧ Hid (∀ j', j' < j → l[j']? ≠ some k)) (fun i => l.length - (intOf i).toNat)
    case atStart => exact ⟨0, Nat.zero_le _, rfl, (fun j' hj' => by omega : ∀ j', j' < 0 → l[j']? ≠ some k)⟩
    case round =>
      obtain ⟨j, hj, rfl, HN⟩ := hrel
      by_cases hlt : j < l.length
      · have hlt' : (j : Int) < l.length := by omega
        obtain ⟨x, hx⟩ : ∃ x, l[j]? = some x := ⟨l[j], List.getElem?_eq_getElem hlt⟩
        have cx := HC.out j x hx
        have HX := hid hx
        clear hx
        by_cases e : k = x
        · have e' : (k == x) = true := by simp [e]
          have HM : Hid (k ∈ l) := List.mem_of_getElem? (e ▸ HX.out)
          clear e
          go_wp2
          go_ret
          exact ⟨_, rfl, ⟨fun _ => HM.out, fun _ => Int.natCast_nonneg j⟩, rfl⟩
        · have e' : (k == x) = false := by simp [e]
          have HN2 : Hid (∀ j', j' < j + 1 → l[j']? ≠ some k) := (fun j' hj' => by
            by_cases ej : j' = j
            · rw [ej, HX.out]; intro hh; exact e (Option.some.inj hh).symm
            · exact HN.out j' (by omega) : ∀ j', j' < j + 1 → l[j']? ≠ some k)
          clear e
          go_wp2
          go_round
          case rel => exact ⟨j + 1, hlt, by go_num, HN2⟩
          case measure => simp [intOf]; omega
      · have hn : ¬ (j : Int) < l.length := by omega
        have HM : Hid (¬ k ∈ l) := (fun hm => by
          obtain ⟨i, hi⟩ := List.mem_iff_getElem?.1 hm
          have := (List.getElem?_eq_some_iff.1 hi).1
          exact HN.out i (by omega) hi : ¬ k ∈ l)
        go_wp2
        go_ret
        exact ⟨_, rfl, ⟨fun h => absurd h (by decide), fun h => absurd h HM.out⟩, rfl⟩
theorem containsInt (v : Value) (l : List Int) (k : Nat) (w : World) (h : intsAt w v l) (hl : l.length ≤ maxLen) :
    Calls Tryz.prog 17 #[v, .int .i64 k] w fun e w' => e = .returned (.bool (rg l k)) ∧ w' = w := by
  have H := hid h
  clear h
  go_enter Tryz.func17, Tryz.ntmps17
  go_wp2_with (go_at_call 38; refine (indexInt v l k _ H.out hl).mono ?_; rintro e w1 ⟨r, rfl, hr, rfl⟩; have HR := hid hr; clear hr)
  go_ret
  exact ⟨by rw [HR.out]; rfl, rfl⟩
theorem Pl.cutB' {P : Program} {fn : Func} {R : Ending → World → Prop} {e : Exit} {a : Act} {w : World} (K : World → Prop) (h : K w) (k : ∀ w', K w' → bodyPost P fn R e a w') : bodyPost P fn R e a w := k w h
section
variable {σ : Type} {m : C.Mem σ} {B bs : Nat} {I : World → σ → Prop} {T : σ → Nat → Prop}
theorem begin_box {w w1 : World} {T1 T2 : Nat → Prop} {o1 o2 : Obj} (h : Mv B T1 T2 ((w.alloc o1).alloc o2) w1) (hlt : ∀ k, T1 k → k < w.heap.size) : w1.heap[w.heap.size + 1]? = some o2 :=
  (h.block (w.heap.size + 1) (by simp) (fun ht => absurd (hlt _ ht) (by omega))).trans (by have := heap_alloc_new (w.alloc o1) o2; simpa using this)
theorem begin_mv {w w1 : World} {T1 T2 : Nat → Prop} {o1 o2 : Obj} (h : Mv B T1 T2 ((w.alloc o1).alloc o2) w1) (hB : B ≤ w.heap.size) (vs : List Value) : Mv B T1 T2 w (w1.setCells (w.heap.size + 1) 0 vs) := by
  refine ⟨bl_sets (by omega) vs 0 (((Below.refl B w).alloc hB o1).alloc (by simp; omega) o2 |>.trans h.below), fun k hk ht => ?_, fun k hk => ?_⟩
  · rw [sets_far _ _ (by omega), h.block k (by simp; omega) ht, heap_alloc_old _ _ (by simp; omega), heap_alloc_old _ _ hk]
  · rcases h.fresh k hk with x | x
    · exact Or.inl x
    · right; simp at x; omega
set_option maxRecDepth 100000 in
set_option maxHeartbeats 1600000 in
theorem rbegin_any (R : QS m B bs I T) (w : World) (s : σ) (hI : I w s) :
    Calls Tryz.prog 16 #[.agg #[gv bs, pv bs]] w fun e w' => e = .returned (cpuV (C.begin' m s).1) ∧ I w' (C.begin' m s).2 ∧ Mv B (T s) (T (C.begin' m s).2) w w' := by
  have HR := hid R
  have hB := R.big hI
  have HLt := hid (fun k hk => R.lt hI k hk)
  have HI2 : Hid (∀ o1 o2, I ((w.alloc o1).alloc o2) s) := fun o1 o2 => R.keep (R.keep hI (by simp) (fun k hk => heap_alloc_old w o1 (R.lt hI k hk))) (by simp) (fun k hk => heap_alloc_old (w.alloc o1) o2 (by have := R.lt hI k hk; simp; omega))
  obtain ⟨z, hz⟩ : ∃ z, m.rdw s 0 = z := ⟨_, rfl⟩
  have hbg : C.begin' m s = ({ C.Cpu.zero with PC := z.1 }, z.2) := by unfold C.begin'; rw [hz]
  rw [hbg]
  have HZ := hid hz
  clear hz hI hbg
  go_enter Tryz.func16, Tryz.ntmps16
  go_wp2_with (go_at_call 25; refine (rword_any HR.out 0 (by decide) (by decide) _ s (HI2.out _ _)).mono ?_; rw [HZ.out]; rintro e w1 ⟨rfl, hI1, hM1⟩; have HI1 := hid hI1; have HM1 := hid hM1; have hbx := begin_box hM1 HLt.out; have HBx := hid hbx; obtain ⟨n1, n2, n3⟩ := boxN hbx; clear hI1 hM1 hbx)
  refine Pl.cutB' (fun W => W = w1.setCells (w.heap.size + 1) 0 (c15 { C.Cpu.zero with PC := z.1 })) rfl ?_
  rintro W hW
  have hcat : Cat W (w.heap.size + 1) { C.Cpu.zero with PC := z.1 } := by rw [hW]; exact cat_set _ HBx.out
  have hl := run_loadVar_mid (P := Tryz.prog) W (w.heap.size + 1) 0 25 _ _ hcat.rng Tryz.underlying25 rfl info_cpu15
  refine bodyPost_ret (v := cpuV { C.Cpu.zero with PC := z.1 }) ?_ rfl ⟨rfl, ?_, ?_⟩
  · simp only [results, Tryz.results16]
    simp
    exact hl
  · rw [hW]; exact HR.out.keep HI1.out (Nat.le_of_eq (sets_size _ _ _ _).symm) (fun k hk => sets_far _ _ (fun e => by
      rcases HM1.out.fresh k hk with x | x
      · have := HLt.out k x; omega
      · simp at x; omega) _ _ _)
  · rw [hW]; exact begin_mv HM1.out hB _
end
/-- What the law holds: the space; what Run answered. -/
structure Rb (w : World) (bc bu : Nat) (v1 v2 : Value) (rom ram : List UInt8) (y : C.Cpu) (x1 x2 : Value) (l1 l2 : List UInt8) (W : World) : Prop where
  low : Below w.heap.size w W
  ss : Sat W w.heap.size v1 v2
  cc : Cat W bc y
  uu : Sat W bu x1 x2
  r1 : sliceAt W v1 rom
  r2 : sliceAt W v2 ram
  u1 : sliceAt W x1 l1
  u2 : sliceAt W x2 l2
  fx : Facts W
theorem Rb.kept {w W w1 : World} {bc bu : Nat} {y : C.Cpu} {v1 v2 x1 x2 : Value} {rom ram l1 l2 : List UInt8} (h : Rb w bc bu v1 v2 rom ram y x1 x2 l1 l2 W) (hb : Below W.heap.size W w1) : Rb w bc bu v1 v2 rom ram y x1 x2 l1 l2 w1 :=
  ⟨stp h.low hb, h.ss.kept hb, h.cc.kept hb, h.uu.kept hb, h.r1.kept hb, h.r2.kept hb, h.u1.kept hb, h.u2.kept hb, h.fx.kept hb⟩
theorem Pl.cutW' {P : Program} {code : Code} {Q : Exit → Act → World → Prop} {a : Act} {w : World} (K : World → Prop) (h : K w) (k : ∀ w', K w' → code.wp P Q a w') : code.wp P Q a w := k w h
set_option maxRecDepth 100000 in
set_option maxHeartbeats 3200000 in
theorem cpuRun_space (v1 v2 v3 : Value) (rom ram : List UInt8) (n : Int) (w : World) (h1 : sliceAt w v1 rom) (h2 : sliceAt w v2 ram) (hl : 1024 < rom.length ∨ 256 < ram.length) (hF : Facts w) :
    Calls Tryz.prog 4 #[.agg #[v1, v2], .int .i64 n, v3] w fun e w' => e = .returned (.bool true) ∧ Below w.heap.size w w' := by
  obtain ⟨a1, k1, x1⟩ := slice_len h1
  obtain ⟨a2, k2, x2⟩ := slice_len h2
  subst x1 x2
  have H1 := hid h1
  have H2 := hid h2
  have HF := hid hF
  have HRun := hid (fun W s1 s2 => run_err (.slice a1 rom.length k1) (.slice a2 ram.length k2) v3 rom ram n W s1 s2 hl)
  have hk2 := fun W => checkSp_any a1 a2 rom.length ram.length k1 k2 W
  rw [if_pos hl] at hk2
  have HK2 := hid hk2
  have heq : ∀ W, (binOp .eql 25 (cpuV C.Cpu.zero) (.agg #[.int .u16 0, .int .u16 0, .int .u16 0, .int .u16 0, .int .u16 0, .int .u16 0, .int .u16 0, .int .u16 0, .int .u16 0, .bool false, .bool false, .bool false, .bool false, .bool false, .bool false])).run Tryz.prog W = .ok (.bool true) W := fun W => eq_cpu C.Cpu.zero W
  clear h1 h2 hF hk2
  go_enter Tryz.func4, Tryz.ntmps4
  go_upto_region 2 with (go_at_call 15; refine (HRun.out _ (H1.out.kept (stA (st0 w) _)) (H2.out.kept (stA (st0 w) _))).mono ?_; rintro e w1 ⟨rfl, hb1⟩)
  have hA := stA (stA (st0 w1) (.cells #[.int .u16 (C.Cpu.zero.r 0), .int .u16 (C.Cpu.zero.r 1), .int .u16 (C.Cpu.zero.r 2), .int .u16 (C.Cpu.zero.r 3), .int .u16 (C.Cpu.zero.r 4), .int .u16 (C.Cpu.zero.r 5), .int .u16 (C.Cpu.zero.r 6), .int .u16 (C.Cpu.zero.r 7), .int .u16 C.Cpu.zero.PC, .bool C.Cpu.zero.Z, .bool C.Cpu.zero.N, .bool C.Cpu.zero.C, .bool C.Cpu.zero.V, .bool C.Cpu.zero.May, .bool C.Cpu.zero.Waits] 25)) (.cells #[.slice none 0 0, .slice none 0 0] 28)
  have hL := stp (stp (stA (st0 w) (.cells #[.slice a1 rom.length k1, .slice a2 ram.length k2] 28)) hb1) hA
  refine Pl.cutW' (fun W => Rb w w1.heap.size (w1.heap.size + 1) (.slice a1 rom.length k1) (.slice a2 ram.length k2) rom ram C.Cpu.zero (.slice none 0 0) (.slice none 0 0) [] [] W) ⟨hL, ((Sat.new w _ _ _ rfl).kept hb1).kept hA, (Cat.new w1 C.Cpu.zero _ rfl).over _, Sat.new _ _ _ _ (by simp), H1.out.kept hL, H2.out.kept hL, Or.inl ⟨none, 0, rfl, rfl⟩, Or.inl ⟨none, 0, rfl, rfl⟩, HF.out.kept hL⟩ ?_
  rintro W hR
  have HR := hid hR
  have s0 := HR.out.ss.c0
  have s1 := HR.out.ss.c1
  clear hR hA hL hb1
  go_wp2_with (first
    | (go_at_call 9; refine (HK2.out _).mono ?_; rintro e w3 ⟨rfl, hb3⟩; have HR3 := hid (HR.out.kept hb3); clear hb3)
    | (go_at_call 7; refine (stepped_any _ HR4.out.fx.shapes).mono ?_; rintro e w5 ⟨rfl, hb5⟩; have HR5 := hid (HR4.out.kept hb5); have z0 := HR5.out.uu.c0; have z1 := HR5.out.uu.c1; clear hb5)
    | (go_at_call 7; refine (stepped_any _ HR3.out.fx.shapes).mono ?_; rintro e w4 ⟨rfl, hb4⟩; have HR4 := hid (HR3.out.kept hb4); clear hb4)
    | (refine ldGc (by rfl) (.tmp 7) rfl w1.heap.size C.Cpu.zero rfl HR5.out.cc ?_)
    | (go_at_call 12; refine (same_any _ _ _ _ [] [] _ HR5.out.u1 HR5.out.u2 (Or.inl ⟨none, 0, rfl, rfl⟩) (Or.inl ⟨none, 0, rfl, rfl⟩)).mono ?_; rintro e w12 ⟨rfl, hb12⟩))
  go_ret
  exact ⟨rfl, stp HR5.out.low hb12⟩
set_option maxRecDepth 100000 in
set_option maxHeartbeats 3200000 in
theorem cpuRun_neg (v1 v2 v3 : Value) (rom ram : List UInt8) (n : Int) (w : World) (h1 : sliceAt w v1 rom) (h2 : sliceAt w v2 ram) (hl : ¬ (1024 < rom.length ∨ 256 < ram.length)) (hn : n < 0) (hF : Facts w) :
    Calls Tryz.prog 4 #[.agg #[v1, v2], .int .i64 n, v3] w fun e w' => e = .returned (.bool true) ∧ Below w.heap.size w w' := by
  obtain ⟨a1, k1, x1⟩ := slice_len h1
  obtain ⟨a2, k2, x2⟩ := slice_len h2
  subst x1 x2
  have H1 := hid h1
  have H2 := hid h2
  have HF := hid hF
  have HRun := hid (fun W s1 s2 => run_neg (.slice a1 rom.length k1) (.slice a2 ram.length k2) v3 rom ram n W s1 s2 hl hn)
  have hk2 := fun W => checkSp_any a1 a2 rom.length ram.length k1 k2 W
  rw [if_neg hl] at hk2
  have HK2 := hid hk2
  have heq : ∀ W, (binOp .eql 25 (cpuV C.Cpu.zero) (.agg #[.int .u16 0, .int .u16 0, .int .u16 0, .int .u16 0, .int .u16 0, .int .u16 0, .int .u16 0, .int .u16 0, .int .u16 0, .bool false, .bool false, .bool false, .bool false, .bool false, .bool false])).run Tryz.prog W = .ok (.bool true) W := fun W => eq_cpu C.Cpu.zero W
  clear h1 h2 hF hk2
  go_enter Tryz.func4, Tryz.ntmps4
  go_upto_region 2 with (go_at_call 15; refine (HRun.out _ (H1.out.kept (stA (st0 w) _)) (H2.out.kept (stA (st0 w) _))).mono ?_; rintro e w1 ⟨rfl, hb1⟩)
  have hA := stA (stA (st0 w1) (.cells #[.int .u16 (C.Cpu.zero.r 0), .int .u16 (C.Cpu.zero.r 1), .int .u16 (C.Cpu.zero.r 2), .int .u16 (C.Cpu.zero.r 3), .int .u16 (C.Cpu.zero.r 4), .int .u16 (C.Cpu.zero.r 5), .int .u16 (C.Cpu.zero.r 6), .int .u16 (C.Cpu.zero.r 7), .int .u16 C.Cpu.zero.PC, .bool C.Cpu.zero.Z, .bool C.Cpu.zero.N, .bool C.Cpu.zero.C, .bool C.Cpu.zero.V, .bool C.Cpu.zero.May, .bool C.Cpu.zero.Waits] 25)) (.cells #[.slice none 0 0, .slice none 0 0] 28)
  have hL := stp (stp (stA (st0 w) (.cells #[.slice a1 rom.length k1, .slice a2 ram.length k2] 28)) hb1) hA
  refine Pl.cutW' (fun W => Rb w w1.heap.size (w1.heap.size + 1) (.slice a1 rom.length k1) (.slice a2 ram.length k2) rom ram C.Cpu.zero (.slice none 0 0) (.slice none 0 0) [] [] W) ⟨hL, ((Sat.new w _ _ _ rfl).kept hb1).kept hA, (Cat.new w1 C.Cpu.zero _ rfl).over _, Sat.new _ _ _ _ (by simp), H1.out.kept hL, H2.out.kept hL, Or.inl ⟨none, 0, rfl, rfl⟩, Or.inl ⟨none, 0, rfl, rfl⟩, HF.out.kept hL⟩ ?_
  rintro W hR
  have HR := hid hR
  have s0 := HR.out.ss.c0
  have s1 := HR.out.ss.c1
  clear hR hA hL hb1
  go_wp2_with (first
    | (go_at_call 9; refine (HK2.out _).mono ?_; rintro e w3 ⟨rfl, hb3⟩; have HR3 := hid (HR.out.kept hb3); clear hb3)
    | (go_at_call 7; refine (stepped_any _ HR4.out.fx.shapes).mono ?_; rintro e w5 ⟨rfl, hb5⟩; have HR5 := hid (HR4.out.kept hb5); have z0 := HR5.out.uu.c0; have z1 := HR5.out.uu.c1; clear hb5)
    | (go_at_call 7; refine (stepped_any _ HR3.out.fx.shapes).mono ?_; rintro e w4 ⟨rfl, hb4⟩; have HR4 := hid (HR3.out.kept hb4); clear hb4)
    | (refine ldGc (by rfl) (.tmp 7) rfl w1.heap.size C.Cpu.zero rfl HR5.out.cc ?_)
    | (go_at_call 12; refine (same_any _ _ _ _ [] [] _ HR5.out.u1 HR5.out.u2 (Or.inl ⟨none, 0, rfl, rfl⟩) (Or.inl ⟨none, 0, rfl, rfl⟩)).mono ?_; rintro e w12 ⟨rfl, hb12⟩))
  go_ret
  exact ⟨rfl, stp HR5.out.low hb12⟩
set_option maxRecDepth 100000 in
set_option maxHeartbeats 3200000 in
theorem cpuRun_many (v1 v2 v3 : Value) (rom ram : List UInt8) (n : Int) (w : World) (h1 : sliceAt w v1 rom) (h2 : sliceAt w v2 ram) (hl : ¬ (1024 < rom.length ∨ 256 < ram.length)) (hn : 500 < n) (hF : Facts w) :
    Calls Tryz.prog 4 #[.agg #[v1, v2], .int .i64 n, v3] w fun e w' => e = .returned (.bool true) ∧ Below w.heap.size w w' := by
  obtain ⟨a1, k1, x1⟩ := slice_len h1
  obtain ⟨a2, k2, x2⟩ := slice_len h2
  subst x1 x2
  have H1 := hid h1
  have H2 := hid h2
  have HF := hid hF
  have HRun := hid (fun W s1 s2 => run_many (.slice a1 rom.length k1) (.slice a2 ram.length k2) v3 rom ram n W s1 s2 hl hn)
  have hk2 := fun W => checkSp_any a1 a2 rom.length ram.length k1 k2 W
  rw [if_neg hl] at hk2
  have HK2 := hid hk2
  have heq : ∀ W, (binOp .eql 25 (cpuV C.Cpu.zero) (.agg #[.int .u16 0, .int .u16 0, .int .u16 0, .int .u16 0, .int .u16 0, .int .u16 0, .int .u16 0, .int .u16 0, .int .u16 0, .bool false, .bool false, .bool false, .bool false, .bool false, .bool false])).run Tryz.prog W = .ok (.bool true) W := fun W => eq_cpu C.Cpu.zero W
  clear h1 h2 hF hk2
  go_enter Tryz.func4, Tryz.ntmps4
  go_upto_region 2 with (go_at_call 15; refine (HRun.out _ (H1.out.kept (stA (st0 w) _)) (H2.out.kept (stA (st0 w) _))).mono ?_; rintro e w1 ⟨rfl, hb1⟩)
  have hA := stA (stA (st0 w1) (.cells #[.int .u16 (C.Cpu.zero.r 0), .int .u16 (C.Cpu.zero.r 1), .int .u16 (C.Cpu.zero.r 2), .int .u16 (C.Cpu.zero.r 3), .int .u16 (C.Cpu.zero.r 4), .int .u16 (C.Cpu.zero.r 5), .int .u16 (C.Cpu.zero.r 6), .int .u16 (C.Cpu.zero.r 7), .int .u16 C.Cpu.zero.PC, .bool C.Cpu.zero.Z, .bool C.Cpu.zero.N, .bool C.Cpu.zero.C, .bool C.Cpu.zero.V, .bool C.Cpu.zero.May, .bool C.Cpu.zero.Waits] 25)) (.cells #[.slice none 0 0, .slice none 0 0] 28)
  have hL := stp (stp (stA (st0 w) (.cells #[.slice a1 rom.length k1, .slice a2 ram.length k2] 28)) hb1) hA
  refine Pl.cutW' (fun W => Rb w w1.heap.size (w1.heap.size + 1) (.slice a1 rom.length k1) (.slice a2 ram.length k2) rom ram C.Cpu.zero (.slice none 0 0) (.slice none 0 0) [] [] W) ⟨hL, ((Sat.new w _ _ _ rfl).kept hb1).kept hA, (Cat.new w1 C.Cpu.zero _ rfl).over _, Sat.new _ _ _ _ (by simp), H1.out.kept hL, H2.out.kept hL, Or.inl ⟨none, 0, rfl, rfl⟩, Or.inl ⟨none, 0, rfl, rfl⟩, HF.out.kept hL⟩ ?_
  rintro W hR
  have HR := hid hR
  have s0 := HR.out.ss.c0
  have s1 := HR.out.ss.c1
  clear hR hA hL hb1
  have hn0 : ¬ n < 0 := by omega
  go_wp2_with (first
    | (go_at_call 9; refine (HK2.out _).mono ?_; rintro e w3 ⟨rfl, hb3⟩; have HR3 := hid (HR.out.kept hb3); clear hb3)
    | (go_at_call 7; refine (stepped_any _ HR4.out.fx.shapes).mono ?_; rintro e w5 ⟨rfl, hb5⟩; have HR5 := hid (HR4.out.kept hb5); have z0 := HR5.out.uu.c0; have z1 := HR5.out.uu.c1; clear hb5)
    | (go_at_call 7; refine (stepped_any _ HR3.out.fx.shapes).mono ?_; rintro e w4 ⟨rfl, hb4⟩; have HR4 := hid (HR3.out.kept hb4); clear hb4)
    | (refine ldGc (by rfl) (.tmp 7) rfl w1.heap.size C.Cpu.zero rfl HR5.out.cc ?_)
    | (go_at_call 12; refine (same_any _ _ _ _ [] [] _ HR5.out.u1 HR5.out.u2 (Or.inl ⟨none, 0, rfl, rfl⟩) (Or.inl ⟨none, 0, rfl, rfl⟩)).mono ?_; rintro e w12 ⟨rfl, hb12⟩))
  go_ret
  exact ⟨rfl, stp HR5.out.low hb12⟩
theorem cat_put {W : World} {b : Nat} {c : C.Cpu} (c' : C.Cpu) (h : Cat W b c) (hf : ∀ o, W.frozen? ⟨b, o, none⟩ = false) : Cat (W.setCells b 0 (c15 c')) b c' := by
  refine ⟨by rw [sets_size]; exact h.z, fun j => ?_⟩
  by_cases hj : j < 15
  · have hr := World.rangeAt_setCells_same W b 0 (c15 c') (fun i hi => ⟨by rw [Nat.zero_add, h.q i, Array.getElem?_eq_getElem (by simpa [c15] using hi)]; rfl, hf _⟩)
    have hx : (c15 c')[j]? = (#[(.int .u16 (c'.r 0)), (.int .u16 (c'.r 1)), (.int .u16 (c'.r 2)), (.int .u16 (c'.r 3)), (.int .u16 (c'.r 4)), (.int .u16 (c'.r 5)), (.int .u16 (c'.r 6)), (.int .u16 (c'.r 7)), (.int .u16 c'.PC), (.bool c'.Z), (.bool c'.N), (.bool c'.C), (.bool c'.V), (.bool c'.May), (.bool c'.Waits)] : Array Value)[j]? := by unfold c15; simp
    have hs : ((#[(.int .u16 (c'.r 0)), (.int .u16 (c'.r 1)), (.int .u16 (c'.r 2)), (.int .u16 (c'.r 3)), (.int .u16 (c'.r 4)), (.int .u16 (c'.r 5)), (.int .u16 (c'.r 6)), (.int .u16 (c'.r 7)), (.int .u16 c'.PC), (.bool c'.Z), (.bool c'.N), (.bool c'.C), (.bool c'.V), (.bool c'.May), (.bool c'.Waits)] : Array Value)[j]?).isSome := by rw [Array.getElem?_eq_getElem (by simpa using hj)]; rfl
    obtain ⟨v, hv⟩ := Option.isSome_iff_exists.1 hs
    rw [hv]
    have := hr j v (hx.trans hv)
    rwa [Nat.zero_add] at this
  · rw [Array.getElem?_eq_none (by simp; omega)]
    have ho : ∀ (vs : List Value) (o : Nat) (w : World), o + vs.length ≤ j → (w.setCells b o vs).cell? ⟨b, j, none⟩ = w.cell? ⟨b, j, none⟩ := by
      intro vs
      induction vs with
      | nil => intro o w _; rfl
      | cons v vs ih =>
        intro o w hl
        simp only [List.length_cons] at hl
        exact (ih (o + 1) _ (by omega)).trans (World.cell?_setCell_other _ _ _ _ (by intro x; have := congrArg Addr.off x; simp at this; omega))
    rw [ho _ 0 W (by simp [c15]; omega), h.q, Array.getElem?_eq_none (by simp; omega)]
theorem froz_sets (b b' : Nat) : ∀ (vs : List Value) (o : Nat) (w : World) (j : Nat), (w.setCells b o vs).frozen? ⟨b', j, none⟩ = w.frozen? ⟨b', j, none⟩
  | [], o, w, j => rfl
  | v :: vs, o, w, j => (froz_sets b b' vs (o + 1) _ j).trans (by simp)
structure RL (w4 : World) (bx bm bw bs : Nat) (vR vM : Value) (rom : List UInt8) (c : C.Cpu) (ram : List UInt8) (W : World) : Prop where
  lo : Below w4.heap.size w4 W
  sp : SpQ w4.heap.size bx bs vR vM rom W ram
  mb : W.heap[bm]? = some (.cells #[gv bs, pv bs] 42 (0, 0))
  wc : Cat W bw c
  wf : ∀ o, W.frozen? ⟨bw, o, none⟩ = false
  fm : ¬ spU bx bs vR vM [] bm
  fw : ¬ spU bx bs vR vM [] bw
  ne : bm ≠ bw
  hm : w4.heap.size ≤ bm
  hw : w4.heap.size ≤ bw
section
variable {w4 W w1 : World} {bx bm bw bs : Nat} {vR vM : Value} {rom ram ram' : List UInt8} {c c' : C.Cpu}
theorem RL.mz (h : RL w4 bx bm bw bs vR vM rom c ram W) : bm < W.heap.size := (Array.getElem?_eq_some_iff.1 h.mb).1
theorem RL.kept (h : RL w4 bx bm bw bs vR vM rom c ram W) (hb : Below W.heap.size W w1) : RL w4 bx bm bw bs vR vM rom c ram w1 :=
  ⟨stp h.lo hb, h.sp.kept hb, (hb.block bm h.mz).trans h.mb, h.wc.kept hb, fun o => (hb.frozen (p := ⟨bw, o, none⟩) h.wc.z).trans (h.wf o), h.fm, h.fw, h.ne, h.hm, h.hw⟩
theorem Cat.blk {b : Nat} (h : Cat W b c) (hs : W.heap.size ≤ w1.heap.size) (e : w1.heap[b]? = W.heap[b]?) : Cat w1 b c := ⟨Nat.lt_of_lt_of_le h.z hs, fun j => (World.cell?_of_block (w := W) e).trans (h.q j)⟩
theorem RL.step (h : RL w4 bx bm bw bs vR vM rom c ram W) (hI : SpQ w4.heap.size bx bs vR vM rom w1 ram') (hM : Mv w4.heap.size (spU bx bs vR vM ram) (spU bx bs vR vM ram') W w1) : RL w4 bx bm bw bs vR vM rom c ram' w1 :=
  ⟨h.lo.trans hM.below, hI, (hM.block bm h.mz h.fm).trans h.mb, h.wc.blk hM.size (hM.block bw h.wc.z h.fw), fun o => (World.frozen?_of_block (w := W) (hM.block bw h.wc.z h.fw)).trans (h.wf o), h.fm, h.fw, h.ne, h.hm, h.hw⟩
theorem RL.far (h : RL w4 bx bm bw bs vR vM rom c ram W) {b : Nat} (hb : w4.heap.size ≤ b) (hu : ¬ spU bx bs vR vM [] b) (hm : b ≠ bm) (hw : b ≠ bw) (vs : List Value) : RL w4 bx bm bw bs vR vM rom c ram (W.setCells b 0 vs) :=
  ⟨bl_sets hb vs 0 h.lo, h.sp.sets hu 0 vs, (sets_far b bm (Ne.symm hm) vs 0 W).trans h.mb, h.wc.blk (Nat.le_of_eq (sets_size b vs 0 W).symm) (sets_far b bw (Ne.symm hw) vs 0 W), fun o => (froz_sets b bw vs 0 W o).trans (h.wf o), h.fm, h.fw, h.ne, h.hm, h.hw⟩
theorem RL.put (h : RL w4 bx bm bw bs vR vM rom c ram W) (c' : C.Cpu) : RL w4 bx bm bw bs vR vM rom c' ram (W.setCells bw 0 (c15 c')) :=
  ⟨bl_sets h.hw _ 0 h.lo, h.sp.sets h.fw 0 _, (sets_far bw bm h.ne _ 0 W).trans h.mb, cat_put c' h.wc h.wf, fun o => (froz_sets bw bw _ 0 W o).trans (h.wf o), h.fm, h.fw, h.ne, h.hm, h.hw⟩
theorem RL.cells (h : RL w4 bx bm bw bs vR vM rom c ram W) : W.cell? ⟨bw, 0, none⟩ = some (.int .u16 (c.r 0)) ∧ W.cell? ⟨bw, 1, none⟩ = some (.int .u16 (c.r 1)) ∧ W.cell? ⟨bw, 2, none⟩ = some (.int .u16 (c.r 2)) ∧ W.cell? ⟨bw, 3, none⟩ = some (.int .u16 (c.r 3)) ∧ W.cell? ⟨bw, 4, none⟩ = some (.int .u16 (c.r 4)) ∧ W.cell? ⟨bw, 5, none⟩ = some (.int .u16 (c.r 5)) ∧ W.cell? ⟨bw, 6, none⟩ = some (.int .u16 (c.r 6)) ∧ W.cell? ⟨bw, 7, none⟩ = some (.int .u16 (c.r 7)) ∧ W.cell? ⟨bw, 8, none⟩ = some (.int .u16 c.PC) ∧ W.cell? ⟨bw, 9, none⟩ = some (.bool c.Z) ∧ W.cell? ⟨bw, 10, none⟩ = some (.bool c.N) ∧ W.cell? ⟨bw, 11, none⟩ = some (.bool c.C) ∧ W.cell? ⟨bw, 12, none⟩ = some (.bool c.V) ∧ W.cell? ⟨bw, 13, none⟩ = some (.bool c.May) ∧ W.cell? ⟨bw, 14, none⟩ = some (.bool c.Waits) ∧ W.cell? ⟨bm, 0, none⟩ = some (gv bs) ∧ W.cell? ⟨bm, 1, none⟩ = some (pv bs) := by
  obtain ⟨q0, q1, q2, q3, q4, q5, q6, q7, q8, q9, q10, q11, q12, q13, q14⟩ := h.wc.all
  exact ⟨q0, q1, q2, q3, q4, q5, q6, q7, q8, q9, q10, q11, q12, q13, q14, Lib.cell_of_heap h.mb 0, Lib.cell_of_heap h.mb 1⟩
end
theorem c15_one (c : C.Cpu) : (c15 c).toArray.all (·.oneCell') = true := by simp [c15, Value.oneCell']
/-- A processor is loaded. -/
theorem ldc {ops : Array Oper} {rest : List Oper} {op : Oper} {a : Act} {w : World} {Q : Exit → Act → World → Prop} (hgd : op.guard = none) (x : Operand) (ho : op.op = .load 25 x)
    (b : Nat) (c : C.Cpu) (hx : a.eval x = .pointer (some ⟨b, 0, none⟩)) (hb : Cat w b c)
    (h : wpList Tryz.prog ops Q rest (a.put op.dst (cpuV c)) w) : wpList Tryz.prog ops Q (op :: rest) a w :=
  wpList_load_mid hgd 25 x ho b 0 hx (c15 c) _ hb.rng Tryz.underlying25 rfl info_cpu15 h
/-- A processor is stored. -/
theorem stc {ops : Array Oper} {rest : List Oper} {op : Oper} {a : Act} {w : World} {Q : Exit → Act → World → Prop} (hgd : op.guard = none) (x z : Operand) (ho : op.op = .store 25 x z)
    (b : Nat) (c c' : C.Cpu) (hx : a.eval x = .pointer (some ⟨b, 0, none⟩)) (hz : a.eval z = cpuV c') (hb : Cat w b c) (hf : ∀ o, w.frozen? ⟨b, o, none⟩ = false)
    (h : ∀ w', w' = w.setCells b 0 (c15 c') → wpList Tryz.prog ops Q rest (a.put op.dst undef) w') : wpList Tryz.prog ops Q (op :: rest) a w :=
  wpList_store_mid hgd 25 x z ho b 0 (c15 c').toArray hx hz (fun i hi => ⟨by rw [Nat.zero_add, hb.q i, Array.getElem?_eq_getElem (by simpa [c15] using hi)]; rfl, hf _⟩) info_cpu15 (c15_one c') (h _ rfl)
def CpuRunWalk : Prop := ∀ (H : Type) (enc : TypeId × Value → H) (W : World) (base : Nat) (v0 v1 v2 : Value) (d0 d1 d2 : DataW H) (p0 p1 p2 : List MemPlace), Facts W →
  Value.okWide Tryz.prog W .any base (Tryz.f4.params.getD 0 0) v0 → DataW.Trod enc Tryz.prog W 0 (fun _ => true) true (Tryz.f4.params.getD 0 0) v0 d0 p0 → Value.okWide Tryz.prog W .any base (Tryz.f4.params.getD 1 0) v1 → DataW.Trod enc Tryz.prog W 0 (fun _ => true) true (Tryz.f4.params.getD 1 0) v1 d1 p1 → Value.okWide Tryz.prog W .any base (Tryz.f4.params.getD 2 0) v2 → DataW.Trod enc Tryz.prog W 0 (fun _ => true) true (Tryz.f4.params.getD 2 0) v2 d2 p2 →
  Calls Tryz.prog 4 #[v0, v1, v2] W fun e w' => e = .returned (.bool true) ∧ Below W.heap.size W w'
set_option maxRecDepth 100000 in
theorem cpuRun_lifted (walk : CpuRunWalk) (os : Os) (started : os.Started) (H : Type) (enc : TypeId × Value → H) :
    ReturnsInHanded {} Tryz.checked os 4 .any (fun w args => (Rows.cpuRunSpec.pre enc Tryz.prog Tryz.f4 [] false w args ∧ laidMetH Tryz.prog Rows.cpuRunRow.laid w) ∧ sizedMet enc Tryz.prog Tryz.f4 (OpenSpec.ofChange Rows.cpuRunSpec) false w args)
      (Rows.cpuRunSpec.post enc Tryz.prog Tryz.f4 false true false false) := by
  refine returns_and_shaped (C := Tryz.checked) (X := fun w _ => laidMetH Tryz.prog Rows.cpuRunRow.laid w) (fun _ _ _ hh h => h.of_heap hh) own started (by kernel_rfl) Tryz.func4
    (ChangeSpec.witness_shaped (enc := enc) (C := Tryz.checked) (os := os) (X := fun w _ => laidMetH Tryz.prog Rows.cpuRunRow.laid w) false (World.laidAll Tryz.prog os Rows.cpuRunRow.laid) #[.agg #[.slice none 0 0, .slice none 0 0], .int .i64 0, .slice none 0 0] 8 (World.laidAll_os _ _ _)
      (World.shaped_of_ZipB (by kernel_rfl) (by kernel_rfl)) (by kernel_rfl) (by kernel_rfl) (by kernel_rfl)
      (by rw [MakeChecks.laidMetH_plain _ _ _ (by kernel_rfl)]; exact laidMet_laidAll _ (by kernel_rfl) (by kernel_rfl))) ?_
  intro W base args ds gs before hval0 hW _ hwt hL hsh _
  have hval : ∀ (j : Nat) t v, Tryz.f4.params[j]? = some t → args[j]? = some v → Value.okWide Tryz.prog W .any base t v := hval0
  have hW' := hW
  obtain ⟨p, q, hA0, hV, rfl, _, _⟩ := hW
  have hA : DataW.TrodAll enc Tryz.prog W 0 (fun _ => true) true Tryz.f4.params.toList args.toList ds p := hA0
  have hA1 := hA
  rw [Tryz.params4] at hA hval
  obtain ⟨v0, vs0, d0, ds0, p0, q0, hargs, rfl, rfl, h0, r0⟩ := trodAll_cons hA
  obtain ⟨v1, vs1, d1, ds1, p1, q1, rfl, rfl, rfl, h1, r1⟩ := trodAll_cons r0
  obtain ⟨v2, vs2, d2, ds2, p2, q2, rfl, rfl, rfl, h2, r2⟩ := trodAll_cons r1
  obtain ⟨rfl, rfl, rfl⟩ := trodAll_nil r2
  obtain rfl : args = #[v0, v1, v2] := by cases args; simp_all
  obtain ⟨rfl, rfl⟩ := trodVars_none hV
  rw [MakeChecks.laidMetH_plain _ _ _ (by kernel_rfl)] at hL
  have hlt := fun x hx => hW'.lt x (List.mem_append_left _ hx)
  refine (walk H enc W base v0 v1 v2 d0 d1 d2 _ _ _ (facts_of hL hsh (by simp [Rows.cpuRunRow]) (by simp [Rows.cpuRunRow])) (hval 0 _ v0 rfl rfl) h0 (hval 1 _ v1 rfl rfl) h1 (hval 2 _ v2 rfl rfl) h2).mono fun e W' ⟨he, hb⟩ => ?_
  subst he
  exact ⟨_, rfl, _, _, _, [], _, [], hW', trodAll_mk1 (shut_bool Tryz.underlying4 _), trodAll_below_all (by kernel_rfl) hb (by kernel_rfl) hA1 hlt, rfl, hb.frame _, fun h => by cases h⟩
theorem cpuRun_row (walk : CpuRunWalk) : Rows.CpuRunSaid :=
  OpenClaim.holds_of_wide 4 Tryz.f4 rfl rfl rfl rfl rfl rfl rfl ⟨rfl, rfl, rfl, rfl, rfl⟩ rfl rfl rfl rfl rfl (by kernel_rfl) Tryz.func4 (by kernel_rfl)
    (of_decide_eq_true (by kernel_rfl)) (by unfold Func.isWrapper; first | (rw [if_pos (by decide +kernel)]; kernel_rfl) | (rw [if_neg (by decide +kernel)]; exact ⟨rfl, rfl⟩))
    (fun os started H enc _ => cpuRun_lifted walk os started H enc)
theorem cpuRun_card (walk : CpuRunWalk) : Rows.CpuRunCardSaid :=
  Claim7.holds_tied_plain_at .later [] _ true _ true (cpuRun_row walk) (fun _ h => by cases h) (by kernel_rfl) (fun _ h => by cases h) cpuRun_row_tie rfl ⟨rfl, rfl⟩ (by kernel_rfl) rfl
    (fun f fn hf hfn => by
      obtain rfl : f = 4 := Option.some.inj ((show Tryz.prog.funcNamed "marquee/marqueelaw.CpuRun" = some 4 by kernel_rfl).symm.trans hf) |>.symm
      obtain rfl : fn = Tryz.f4 := (Option.some.inj (Tryz.func4.symm.trans hfn)).symm
      exact ⟨by kernel_rfl, fun j t ht => by
        have hm : t ∈ Tryz.f4.params.toList := List.mem_of_getElem? (i := j) (by rw [Array.getElem?_toList]; exact ht)
        have hall : Tryz.f4.params.toList.all (fun t => !(Tryz.prog.wantsStandIn t)) = true := by kernel_rfl
        have := List.all_eq_true.1 hall t hm
        exact Bool.not_eq_true' _ ▸ this⟩)
    (by kernel_rfl)
end Go.Proofs.YtombboeonffejaaGreatDoor
