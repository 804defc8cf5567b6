/-
  What package asm's Build answers of a text in which nothing is wrong: a new slice of the program's bytes; nothing old is written.
-/
import Derived.Test.YtdjhlfoapieohaaGreatDoorAsmO
import Derived.Defers
import Derived.Recover
import Derived.Laws.Pointers
namespace Go.Proofs.YtdjhlfoapieohaaGreatDoor
open Go.ChangeShapes Go.WideShapes Go.ChangeAt Go.RowKit
set_option linter.unusedVariables false

theorem catch_idle (p q r : Option Addr) (w : World) :
    CallsD Tryz.prog 28 #[.pointer p, .pointer q, .pointer r] .returning w fun e u' w' => e = .returned (.tuple #[]) ∧ u' = .returning ∧ w' = w := by
  refine callsD_of_wpS Tryz.func28 rfl fun c₀ cs hu => ?_
  apply wpS_seq
  apply wpS_region
  simp [wpOpsS, go_sem, recoverD, hu, Tryz.ntmps28, Exit.thenS]
  apply wpS_seq
  apply wpS_seq
  apply wpS_region
  simp [wpOpsS, go_sem, Exit.thenS]
  refine wpS_cond (t := true) (by simp [Act.eval, Array.replicate]) ?_
  simp only [if_true]
  refine wpS_of_wp (wp_ret ?_)
  cases c₀
  simp_all [Exit.thenS, bodyPostS, results, Tryz.results28]
theorem own_sliceAt {w : World} {B : Nat} {ra : Option Addr} {rc : Nat} {rom : S.By} (h : w.ownsRow B 5 1 (.slice ra rom.length rc) rom.length (Lib.byteCells rom)) : sliceAt w (.slice ra rom.length rc) rom := by
  by_cases h0 : rom.length = 0
  · have : rom = [] := List.length_eq_zero_iff.1 h0
    subst this
    exact Or.inl ⟨ra, rc, rfl, rfl⟩
  · obtain ⟨g, cap, hv, _, hg, hc, hcell⟩ := row_slice h (by omega)
    injection hv with h1 h2 h3
    subst h1; subst h3
    refine Or.inr ⟨g, 0, rc, rfl, hc, hg, fun j c hj => ?_⟩
    rw [Nat.zero_add, hcell j (List.getElem?_eq_some_iff.1 hj).1]
    unfold Lib.byteCells
    rw [List.getElem?_map, hj]; rfl
theorem rd_init (w1 : World) (B : Nat) (hm : mapS w1 B (opsTo 32)) (hB : B ≤ w1.heap.size) :
    Rd ((w1.alloc (.map #[] 0)).alloc (.cells #[.map (some B), .map (some w1.heap.size), .slice none 0 0, .slice none 0 0, .int .i64 0] 62)) B (w1.heap.size + 1) B w1.heap.size none 0 none 0 S.St.zero 0 := by
  have hlt := hm.lt
  have h1 : (w1.alloc (.map #[] 0)).heap.size = w1.heap.size + 1 := by simp
  refine ⟨by omega, ?_, ?_, ?_, hB, by omega, ⟨rfl, Or.inl ⟨rfl, rfl⟩⟩, ⟨rfl, Or.inl ⟨rfl, rfl⟩⟩⟩
  · rw [← h1]; exact heap_alloc_new _ _
  · exact hm.of_block ((heap_alloc_old _ _ (by omega)).trans (heap_alloc_old _ _ hlt))
  · exact (mapS_made w1).of_block (heap_alloc_old _ _ (by omega))
theorem lines_uses : ∀ (f : Nat) (s : S.By) (ln : Nat) (st stF : S.St), s.length ≤ f → S.readLines f s ln st = .ok stF → stF.uses.length ≤ st.uses.length + s.length
  | 0, s, ln, st, stF, hf, h => by cases h; omega
  | f + 1, s, ln, st, stF, hf, h => by
    by_cases hs : s = []
    · subst hs; rw [S.readLines_nil] at h; cases h; omega
    · obtain ⟨hc, st', hl, hn⟩ := lines_inv hs h
      have h1 := cut_less s hs hc
      have h2 := lines_uses f _ _ _ _ (by omega) hn
      have h3 := line_uses hl
      omega
theorem readLines_init (w1 : World) (B : Nat) (hm : mapS w1 B (opsTo 32)) (hB : B ≤ w1.heap.size) (s : S.By) (hl : s.length ≤ 4000) (stF : S.St) (hS : S.readLines s.length s 0 S.St.zero = .ok stF) (hF : ∀ w', Below B w1 w' → AF w') :
    Calls Tryz.prog 30 #[.pointer (some ⟨w1.heap.size + 1, 0, none⟩), .string (mk s)] ((w1.alloc (.map #[] 0)).alloc (.cells #[.map (some B), .map (some w1.heap.size), .slice none 0 0, .slice none 0 0, .int .i64 0] 62)) fun e w' =>
      e = .returned (.tuple #[]) ∧ (∃ lnF ua' uc' ra' rc', Rd w' B (w1.heap.size + 1) B w1.heap.size ua' uc' ra' rc' stF lnF) ∧ Below B w1 w' := by
  have h0 : Below B w1 ((w1.alloc (.map #[] 0)).alloc (.cells #[.map (some B), .map (some w1.heap.size), .slice none 0 0, .slice none 0 0, .int .i64 0] 62)) := ((Below.refl B w1).alloc hB _).alloc (by simp; omega) _
  exact (readLines_ok _ B (w1.heap.size + 1) B w1.heap.size none none 0 0 S.St.zero stF (rd_init w1 B hm hB) rfl s hl hS (by simp; omega) (hF _ h0) (hid (fun w' hb => hF w' (h0.trans hb)))).mono fun e w' ⟨he, h1, h2⟩ => ⟨he, h1, h0.trans h2⟩
/-- The three results' cells, behind what a reader does. -/
theorem res_cells {w w3 : World} {o1 o2 o3 : Value} {t1 t2 t3 : TypeId} (h : Below (w.heap.size + 1 + 1 + 1) (((w.alloc (.cells #[o1] t1)).alloc (.cells #[o2] t2)).alloc (.cells #[o3] t3)) w3) :
    (w3.heap[w.heap.size]? = some (.cells #[o1] t1 (0, 0)) ∧ w3.heap[w.heap.size + 1]? = some (.cells #[o2] t2 (0, 0)) ∧ w3.heap[w.heap.size + 1 + 1]? = some (.cells #[o3] t3 (0, 0))) ∧ w.heap.size + 1 + 1 + 1 ≤ w3.heap.size := by
  have s1 : (w.alloc (.cells #[o1] t1)).heap.size = w.heap.size + 1 := by simp
  have s2 : ((w.alloc (.cells #[o1] t1)).alloc (.cells #[o2] t2)).heap.size = w.heap.size + 1 + 1 := by simp
  refine ⟨⟨?_, ?_, ?_⟩, by have := h.size; simp at this; omega⟩
  · rw [h.block _ (by omega), heap_alloc_old _ _ (by omega), heap_alloc_old _ _ (by omega)]; exact heap_alloc_new _ _
  · rw [h.block _ (by omega), heap_alloc_old _ _ (by omega), ← s1]; exact heap_alloc_new _ _
  · rw [h.block _ (by omega), ← s2]; exact heap_alloc_new _ _
set_option maxRecDepth 100000 in
set_option maxHeartbeats 1600000 in
theorem readText_ok (s : S.By) (hl : s.length ≤ 4000) (stF : S.St) (romF : S.By) (hS : S.readLines s.length s 0 S.St.zero = .ok stF) (hL : S.lay stF.places stF.uses stF.rom = .ok romF) (w : World) (hF : AF w) :
    Calls Tryz.prog 11 #[.string (mk s)] w fun e w' => ∃ v, e = .returned (.tuple #[v, .int .i64 0, .int .i64 0]) ∧ sliceAt w' v romF ∧ Below w.heap.size w w' := by
  have hmf : ∀ (fn : Fn) (first cap : Array Value) (w : World), (Instr.makeFunc fn first cap).run Tryz.prog w = .ok (.func fn first cap) w := fun _ _ _ _ => rfl
  have hmm := @run_makeMap Tryz.prog
  have hul : stF.uses.length ≤ 100000 := by have := lines_uses _ _ _ _ _ (Nat.le_refl _) hS; simp [S.St.zero] at this; omega
  have HI := hid (inv_lines _ _ _ _ _ inv_zero hS)
  have HF := hid hF
  have HS := hid hS
  have HL := hid hL
  have hB3 : Hid (Below w.heap.size w (((w.alloc (.cells #[.slice none 0 0] 22)).alloc (.cells #[.int .i64 0] 3)).alloc (.cells #[.int .i64 0] 23))) := stA (stA (stA (st0 w) _) _) _
  have hsz : Hid ((((w.alloc (.cells #[.slice none 0 0] 22)).alloc (.cells #[.int .i64 0] 3)).alloc (.cells #[.int .i64 0] 23)).heap.size = w.heap.size + 1 + 1 + 1) := by show _ = _; simp
  clear hF hS hL
  go_enter_defers Tryz.func11, Tryz.ntmps11
  go_wp2_with (first
    | (go_at_call 29; refine (opsByName_any _ (af_alloc (af_alloc (af_alloc HF.out _) _) _).shapes).mono ?_; rintro e w1 ⟨rfl, hm1, hb1⟩; rw [hsz.out] at hm1 hb1; have hz1 := hm1.lt)
    | (go_at_call 30; refine (readLines_init w1 (w.heap.size + 1 + 1 + 1) hm1 (Nat.le_of_lt hz1) s hl stF HS.out (fun w' hb => HF.out.kept (hB3.out.trans ((hb1.trans hb).mono (Nat.le_add_right _ 3))))).mono ?_; rintro e w2 ⟨rfl, ⟨lnF, ua, uc, ra, rc, hR2⟩, hb2⟩)
    | (go_at_call 31; refine (layPlaces_ok w2 _ _ _ _ ua ra uc rc stF lnF hR2 hul HI.out romF HL.out (Nat.le_trans (Nat.le_of_lt hz1) hb2.size)).mono ?_; rintro e w3 ⟨rfl, hR3, hb3⟩; have hbb := (hb1.trans hb2).trans hb3; obtain ⟨⟨k1, k2, k3⟩, hz3⟩ := res_cells hbb; have c3 : w3.cell? ⟨w1.heap.size + 1, 3, none⟩ = some (.slice ra romF.length rc) := hR3.cell 3; have z3 := hR3.lt; have d1 : w3.cell? ⟨w.heap.size, 0, none⟩ = some (.slice none 0 0) := Lib.cell_of_heap k1 0; have d2 : w3.cell? ⟨w.heap.size + 1, 0, none⟩ = some (.int .i64 0) := Lib.cell_of_heap k2 0; have d3 : w3.cell? ⟨w.heap.size + 1 + 1, 0, none⟩ = some (.int .i64 0) := Lib.cell_of_heap k3 0; have f1 := Lib.frozen_of_heap k1 0; have f2 := Lib.frozen_of_heap k2 0; have f3 := Lib.frozen_of_heap k3 0; have HR3 := hid hR3; clear hR3 hR2 k1 k2 k3))
  refine leaves_cons (f := 28) (args := #[.pointer (some ⟨w.heap.size, 0, none⟩), .pointer (some ⟨w.heap.size + 1, 0, none⟩), .pointer (some ⟨w.heap.size + 1 + 1, 0, none⟩)]) (by simp) (by simp [go_sem]) ?_
  refine (catch_idle _ _ _ _).mono ?_
  rintro e u' w'' ⟨rfl, rfl, rfl⟩
  simp [Leaves, settle, results, Tryz.results11, go_sem, d1, d2, d3]
  have hrow := HR3.out.rom
  have hlt := fun k hk => (hrow.lt k hk).1
  have hne : ∀ i, i < w.heap.size + 1 + 1 + 1 → (Value.slice ra romF.length rc).ownBlock ≠ some i := fun i hi h => by have := hlt i h; omega
  refine ⟨own_sliceAt (((hrow.kept (grown_set _ _ _ _) (Or.inr (hne _ (by omega)))).kept (grown_set _ _ _ _) (Or.inr (hne _ (by omega)))).kept (grown_set _ _ _ _) (Or.inr (hne _ (by omega)))), ?_⟩
  exact (((hB3.out.trans (hbb.mono (by omega))).setCell (Nat.le_refl _) _).setCell (by simp) _).setCell (by simp; omega) _
end Go.Proofs.YtdjhlfoapieohaaGreatDoor
