/-
  A space of package cpu in memory: what its reach reads and writes.
-/
import Derived.Test.YthfngejmihdafaaDoorCpuQ
import Derived.Test.YthfngejmihdafaaDoorSlc
namespace Go.Proofs.YthfngejmihdafaaDoor
open Go.ChangeShapes Go.WideShapes Go.ChangeAt Go.RowKit
set_option linter.unusedVariables false

/-- A space: Rom from 0 on, Ram from 32768 to 49151, over and over. -/
def inRam (n : Nat) (a : Int) : Bool := decide (32768 ≤ a) && decide (a ≤ 49151) && decide (0 < n)
def inRom (n : Nat) (a : Int) : Bool := decide (a < 32768) && decide (a < n)
def spc (rom : List UInt8) : C.Mem (List UInt8) where
  rd := fun ram a => ((if inRom rom.length a then ((rom.getD a.toNat 0).toNat : Int) else if inRam ram.length a then ((ram.getD ((a - 32768) % ram.length).toNat 0).toNat : Int) else 255), ram)
  wr := fun ram a b => if inRam ram.length a then ram.set ((a - 32768) % ram.length).toNat (UInt8.ofNat b.toNat) else ram
theorem shapesAt.of_block {w w' : World} (h : shapesAt w) (e : w'.heap[0]? = w.heap[0]?) : shapesAt w' := fun k hk => by
  obtain ⟨h1, h2, h3⟩ := h k hk
  exact ⟨(World.cell?_of_block (w := w) e).trans h1, (World.cell?_of_block (w := w) e).trans h2, (World.cell?_of_block (w := w) e).trans h3⟩
structure SpI (B sb : Nat) (vR vM : Value) (rom : List UInt8) (w : World) (ram : List UInt8) : Prop where
  shapes : shapesAt w
  big : B ≤ w.heap.size
  box : w.heap[sb]? = some (.cells #[vR, vM] 24 (0, 0))
  hrom : w.ownsRow B 5 1 vR rom.length (bcs rom)
  hram : w.ownsRow B 5 1 vM ram.length (bcs ram)
  ne : ∀ k, vM.ownBlock = some k → vR.ownBlock ≠ some k ∧ k ≠ sb ∧ k ≠ 0
  few : rom.length ≤ 1024 ∧ ram.length ≤ 256
def spT (sb : Nat) (vR vM : Value) (_ : List UInt8) (k : Nat) : Prop := k = 0 ∨ k = sb ∨ vR.ownBlock = some k ∨ vM.ownBlock = some k
section
variable {B sb : Nat} {vR vM : Value} {rom ram : List UInt8} {w w' : World}
theorem SpI.lt (h : SpI B sb vR vM rom w ram) (k : Nat) (hk : spT sb vR vM ram k) : k < w.heap.size := by
  rcases hk with rfl | rfl | hk | hk
  · exact h.shapes.lt
  · exact (Array.getElem?_eq_some_iff.1 h.box).1
  · exact (h.hrom.lt k hk).2
  · exact (h.hram.lt k hk).2
theorem SpI.keep (h : SpI B sb vR vM rom w ram) (hs : w.heap.size ≤ w'.heap.size) (e : ∀ k, spT sb vR vM ram k → w'.heap[k]? = w.heap[k]?) : SpI B sb vR vM rom w' ram :=
  ⟨h.shapes.of_block (e _ (Or.inl rfl)), Nat.le_trans h.big hs, (e _ (Or.inr (Or.inl rfl))).trans h.box, own_of_block h.hrom (fun k hk => e k (Or.inr (Or.inr (Or.inl hk)))), own_of_block h.hram (fun k hk => e k (Or.inr (Or.inr (Or.inr hk)))), h.ne, h.few⟩
theorem own_slice {v : Value} {l : List UInt8} (h : w.ownsRow B 5 1 v l.length (bcs l)) : ∃ a c, v = .slice a l.length c := slice_len (slice_of_own h)
theorem own_at {v : Value} {l : List UInt8} (h : w.ownsRow B 5 1 v l.length (bcs l)) {i : Nat} (hi : i < l.length) : ∃ g c, v = .slice (some ⟨g, 0, none⟩) l.length c ∧ g < w.heap.size ∧ w.frozen? ⟨g, i, none⟩ = false ∧ w.cell? ⟨g, i, none⟩ = some (.int .u8 (l.getD i 0).toNat) := by
  rcases h.2 with ⟨_, h0⟩ | ⟨g, cap, cur, rfl, hb, hg, hn, hm, hs, ht⟩
  · omega
  · refine ⟨g, cap, rfl, (Array.getElem?_eq_some_iff.1 hg).1, Lib.frozen_of_heap hg i, ?_⟩
    have := h.cellAt i (by omega)
    rw [this, bcs, List.getElem?_map, List.getElem?_eq_getElem hi, List.getD_eq_getElem?_getD, List.getElem?_eq_getElem hi]
    rfl
/-- What a space's byte is written to. -/
theorem SpI.put (h : SpI B sb vR vM rom w ram) {g c i : Nat} (hv : vM = .slice (some ⟨g, 0, none⟩) ram.length c) (hi : i < ram.length) (b : Int) (hb : 0 ≤ b ∧ b ≤ 255) :
    SpI B sb vR vM rom (w.setCell ⟨g, i, none⟩ (.int .u8 b)) (ram.set i (UInt8.ofNat b.toNat)) ∧ B ≤ g := by
  have hk : vM.ownBlock = some g := by rw [hv]; rfl
  obtain ⟨n1, n2, n3⟩ := h.ne g hk
  have hram := h.hram
  rw [hv] at hram
  have hst := (hram.stored i (.int .u8 b)).1
  have hset : (bcs ram).set i (.int .u8 b) = bcs (ram.set i (UInt8.ofNat b.toNat)) := by
    unfold bcs
    rw [List.map_set]
    congr 2
    have : (UInt8.ofNat b.toNat).toNat = b.toNat := by simp; omega
    rw [this]; omega
  rw [hset] at hst
  refine ⟨⟨h.shapes.of_block (Below.heap_setCell _ _ _ _ (Ne.symm n3)), by rw [setCell_size]; exact h.big, (Below.heap_setCell _ _ _ _ (Ne.symm n2)).trans h.box, own_of_block h.hrom (fun k hk' => Below.heap_setCell _ _ _ _ (fun e => n1 (by have e' : k = g := e; rw [← e']; exact hk'))), ?_, h.ne, by simpa using h.few⟩, (hram.lt g rfl).1⟩
  rw [hv, List.length_set]
  exact hst
end
theorem spc_byte (rom s : List UInt8) (a : Int) : 0 ≤ ((spc rom).rd s a).1 ∧ ((spc rom).rd s a).1 ≤ 255 := by
  have hb : ∀ c : UInt8, (0 : Int) ≤ (c.toNat : Int) ∧ (c.toNat : Int) ≤ 255 := fun c => by have := c.toNat_lt; omega
  unfold spc
  simp only
  split
  · exact hb _
  · split
    · exact hb _
    · omega

/-! ### the walks -/
set_option maxRecDepth 100000 in
theorem hasRam_any (am : Option Addr) (n c : Nat) (a : Int) (ha : 0 ≤ a) (ha' : a ≤ 65535) (w : World) (ax : Option Addr) (nx cx : Nat) :
    Calls Tryd.prog 19 #[.agg #[.slice ax nx cx, .slice am n c], .int .u16 a] w fun e w' => e = .returned (.bool (inRam n a)) ∧ Below w.heap.size w w' := by
  unfold inRam
  by_cases h1 : 32768 ≤ a
  · by_cases h2 : a ≤ 49151
    · go_enter Tryd.func19, Tryd.ntmps19
      go_wp2
      go_ret
      exact ⟨ret_b (by simp [h1, h2]), stA (st0 _) _⟩
    · skip
      go_enter Tryd.func19, Tryd.ntmps19
      go_wp2
      go_ret
      exact ⟨ret_b (by simp; omega), stA (st0 _) _⟩
  · skip
    go_enter Tryd.func19, Tryd.ntmps19
    go_wp2
    go_ret
    exact ⟨ret_b (by simp; omega), stA (st0 _) _⟩
set_option maxRecDepth 100000 in
theorem ramIndex_any (am : Option Addr) (n c : Nat) (a : Int) (ha : 32768 ≤ a) (ha' : a ≤ 49151) (hn : 0 < n) (hn' : n ≤ 256) (w : World) (ax : Option Addr) (nx cx : Nat) :
    Calls Tryd.prog 20 #[.agg #[.slice ax nx cx, .slice am n c], .int .u16 a] w fun e w' => e = .returned (.int .i64 ((a - 32768) % n)) ∧ Below w.heap.size w w' := by
  have hw : IntKind.u16.wrap (a - 32768) = a - 32768 := by rw [u16w]; omega
  have hz : ¬ (n : Int) = 0 := by omega
  go_enter Tryd.func20, Tryd.ntmps20
  go_wp2
  go_ret
  exact ⟨rfl, stA (st0 _) _⟩
/-- A space's box, read. -/
theorem SpI.cells {B sb : Nat} {vR vM : Value} {rom ram : List UInt8} {w : World} (h : SpI B sb vR vM rom w ram) : w.cell? ⟨sb, 0, none⟩ = some vR ∧ w.cell? ⟨sb, 1, none⟩ = some vM ∧ sb < w.heap.size :=
  ⟨Lib.cell_of_heap h.box 0, Lib.cell_of_heap h.box 1, (Array.getElem?_eq_some_iff.1 h.box).1⟩
set_option maxRecDepth 100000 in
set_option maxHeartbeats 1600000 in
theorem readRom (B sb : Nat) (vR vM : Value) (rom ram : List UInt8) (a : Int) (ha : 0 ≤ a) (ha' : a < 32768) (hr : a < rom.length) (w : World) (h : SpI B sb vR vM rom w ram) :
    Calls Tryd.prog 18 #[.int .u16 a, .pointer (some ⟨sb, 0, none⟩)] w fun e w' => e = .returned (.int .u8 (rom.getD a.toNat 0).toNat) ∧ Below w.heap.size w w' := by
  obtain ⟨n, rfl⟩ := Int.eq_ofNat_of_zero_le ha
  obtain ⟨g, c, rfl, hg, _, hc⟩ := own_at h.hrom (i := n) (by omega)
  obtain ⟨c0, c1, hb⟩ := h.cells
  simp only [Int.toNat_natCast]
  clear h
  go_enter Tryd.func18, Tryd.ntmps18
  go_wp2
  go_ret
  exact ⟨rfl, st0 w⟩
set_option maxRecDepth 100000 in
set_option maxHeartbeats 1600000 in
theorem readNo (B sb : Nat) (vR vM : Value) (rom ram : List UInt8) (a : Int) (ha : 0 ≤ a) (ha' : a ≤ 65535) (hr : inRom rom.length a = false) (hm : inRam ram.length a = false) (w : World) (h : SpI B sb vR vM rom w ram) :
    Calls Tryd.prog 18 #[.int .u16 a, .pointer (some ⟨sb, 0, none⟩)] w fun e w' => e = .returned (.int .u8 255) ∧ Below w.heap.size w w' := by
  obtain ⟨aR, cR, rfl⟩ := own_slice h.hrom
  obtain ⟨aM, cM, rfl⟩ := own_slice h.hram
  obtain ⟨c0, c1, hb⟩ := h.cells
  have H := fun W : World => hid (hasRam_any aM ram.length cM a ha ha' W aR rom.length cR)
  rw [hm] at H
  clear h hm
  unfold inRom at hr
  by_cases h1 : a < 32768
  · have h2 : ¬ a < (rom.length : Int) := by simpa [h1] using hr
    clear hr
    go_enter Tryd.func18, Tryd.ntmps18
    go_wp2_with (go_at_call 19; refine (H _).out.mono ?_; rintro e w1 ⟨rfl, hb1⟩)
    go_ret
    exact ⟨rfl, hb1⟩
  · clear hr
    go_enter Tryd.func18, Tryd.ntmps18
    go_wp2_with (go_at_call 19; refine (H _).out.mono ?_; rintro e w1 ⟨rfl, hb1⟩)
    go_ret
    exact ⟨rfl, hb1⟩
theorem inRam_iff {n : Nat} {a : Int} (h : inRam n a = true) : 32768 ≤ a ∧ a ≤ 49151 ∧ 0 < n := by
  unfold inRam at h
  simpa [and_assoc] using h
set_option maxRecDepth 100000 in
set_option maxHeartbeats 1600000 in
theorem readRam (B sb : Nat) (vR vM : Value) (rom ram : List UInt8) (a : Int) (ha : 0 ≤ a) (ha' : a ≤ 65535) (hm : inRam ram.length a = true) (w : World) (h : SpI B sb vR vM rom w ram) :
    Calls Tryd.prog 18 #[.int .u16 a, .pointer (some ⟨sb, 0, none⟩)] w fun e w' => e = .returned (.int .u8 (ram.getD ((a - 32768) % ram.length).toNat 0).toNat) ∧ Below w.heap.size w w' := by
  obtain ⟨m1, m2, m3⟩ := inRam_iff hm
  obtain ⟨i, hi⟩ := Int.eq_ofNat_of_zero_le (show 0 ≤ (a - 32768) % (ram.length : Int) from Int.emod_nonneg _ (by omega))
  have hil : i < ram.length := by have := Int.emod_lt_of_pos (a - 32768) (show (0 : Int) < ram.length by omega); omega
  obtain ⟨aR, cR, rfl⟩ := own_slice h.hrom
  obtain ⟨g, cM, rfl, hg, _, hc⟩ := own_at h.hram hil
  obtain ⟨c0, c1, hb⟩ := h.cells
  have H := fun W : World => hid (hasRam_any (some ⟨g, 0, none⟩) ram.length cM a ha ha' W aR rom.length cR)
  rw [hm] at H
  have H2 := fun W : World => hid (ramIndex_any (some ⟨g, 0, none⟩) ram.length cM a m1 m2 m3 h.few.2 W aR rom.length cR)
  rw [hi] at H2
  rw [hi]
  simp only [Int.toNat_natCast]
  have h1 : ¬ a < 32768 := by omega
  have hi0 : (i : Int) < ram.length := by omega
  generalize ram.getD i 0 = u at hc ⊢
  clear h hm hi
  go_enter Tryd.func18, Tryd.ntmps18
  go_wp2_with (go_at_call 19; refine (H _).out.mono ?_; rintro e w1 ⟨rfl, hb1⟩; obtain ⟨k1, f1⟩ := bcell hb1; have z1 := Nat.lt_of_lt_of_le hb hb1.size; have z2 := Nat.lt_of_lt_of_le hg hb1.size; have q0 := (k1 _ 0 hb).trans c0; have q1 := (k1 _ 1 hb).trans c1; have qc := (k1 _ i hg).trans hc; clear k1 f1)
  go_region_held3 (fun w' => w'.cell? ⟨sb, 0, none⟩ = some (.slice aR rom.length cR) ∧ w'.cell? ⟨sb, 1, none⟩ = some (.slice (some ⟨g, 0, none⟩) ram.length cM) ∧ w'.cell? ⟨g, i, none⟩ = some (.int .u8 u.toNat))
    ((go_keep; done))
    ((go_at_call 20; refine (H2 _).out.mono ?_; rintro e w2 ⟨rfl, hb2⟩; obtain ⟨k2, f2⟩ := bcell hb2; have r0 := (k2 _ 0 z1).trans q0; have r1 := (k2 _ 1 z1).trans q1; have rc := (k2 _ i z2).trans qc; have z3 := Nat.lt_of_lt_of_le z2 hb2.size; clear k2 f2))
  go_wp2
  go_ret
  exact ⟨rfl, stp hb1.drew hb2⟩
theorem read_any1 (B sb : Nat) (vR vM : Value) (rom ram : List UInt8) (a : Int) (ha : 0 ≤ a) (ha' : a ≤ 65535) (w : World) (h : SpI B sb vR vM rom w ram) :
    Calls Tryd.prog 18 #[.int .u16 a, .pointer (some ⟨sb, 0, none⟩)] w fun e w' => e = .returned (.int .u8 ((spc rom).rd ram a).1) ∧ Below w.heap.size w w' := by
  unfold spc
  simp only
  cases hr : inRom rom.length a
  · rw [if_neg (by simp)]
    cases hm : inRam ram.length a
    · rw [if_neg (by simp)]; exact readNo B sb vR vM rom ram a ha ha' hr hm w h
    · rw [if_pos rfl]; exact readRam B sb vR vM rom ram a ha ha' hm w h
  · rw [if_pos rfl]
    have hr' : a < 32768 ∧ a < (rom.length : Int) := by unfold inRom at hr; simpa using hr
    exact readRom B sb vR vM rom ram a ha hr'.1 hr'.2 w h
set_option maxRecDepth 100000 in
set_option maxHeartbeats 1600000 in
theorem writeNo (B sb : Nat) (vR vM : Value) (rom ram : List UInt8) (a b : Int) (ha : 0 ≤ a) (ha' : a ≤ 65535) (hm : inRam ram.length a = false) (w : World) (h : SpI B sb vR vM rom w ram) :
    Calls Tryd.prog 21 #[.int .u16 a, .int .u8 b, .pointer (some ⟨sb, 0, none⟩)] w fun e w' => e = .returned (.tuple #[]) ∧ Below w.heap.size w w' := by
  obtain ⟨aR, cR, rfl⟩ := own_slice h.hrom
  obtain ⟨aM, cM, rfl⟩ := own_slice h.hram
  obtain ⟨c0, c1, hb⟩ := h.cells
  have H := fun W : World => hid (hasRam_any aM ram.length cM a ha ha' W aR rom.length cR)
  rw [hm] at H
  clear h hm
  go_enter Tryd.func21, Tryd.ntmps21
  go_wp2_with (go_at_call 19; refine (H _).out.mono ?_; rintro e w1 ⟨rfl, hb1⟩)
  go_end0
  exact ⟨rfl, hb1⟩
set_option maxRecDepth 100000 in
set_option maxHeartbeats 1600000 in
theorem writeRam (B sb : Nat) (vR vM : Value) (rom ram : List UInt8) (a b : Int) (ha : 0 ≤ a) (ha' : a ≤ 65535) (hb0 : 0 ≤ b) (hb1' : b ≤ 255) (hm : inRam ram.length a = true) (w : World) (h : SpI B sb vR vM rom w ram) :
    Calls Tryd.prog 21 #[.int .u16 a, .int .u8 b, .pointer (some ⟨sb, 0, none⟩)] w fun e w' => e = .returned (.tuple #[]) ∧ SpI B sb vR vM rom w' (ram.set ((a - 32768) % ram.length).toNat (UInt8.ofNat b.toNat)) ∧ Mv B (spT sb vR vM ram) (spT sb vR vM ram) w w' := by
  obtain ⟨m1, m2, m3⟩ := inRam_iff hm
  obtain ⟨i, hi⟩ := Int.eq_ofNat_of_zero_le (show 0 ≤ (a - 32768) % (ram.length : Int) from Int.emod_nonneg _ (by omega))
  have hil : i < ram.length := by have := Int.emod_lt_of_pos (a - 32768) (show (0 : Int) < ram.length by omega); omega
  obtain ⟨aR, cR, rfl⟩ := own_slice h.hrom
  obtain ⟨g, cM, rfl, hg, hfz, hc⟩ := own_at h.hram hil
  obtain ⟨c0, c1, hb⟩ := h.cells
  have H := fun W : World => hid (hasRam_any (some ⟨g, 0, none⟩) ram.length cM a ha ha' W aR rom.length cR)
  rw [hm] at H
  have H2 := fun W : World => hid (ramIndex_any (some ⟨g, 0, none⟩) ram.length cM a m1 m2 m3 h.few.2 W aR rom.length cR)
  rw [hi] at H2
  rw [hi]
  simp only [Int.toNat_natCast]
  have hi0 : (i : Int) < ram.length := by omega
  have HS := hid h
  have hgs : g ≠ sb := (h.ne g rfl).2.1
  generalize ram.getD i 0 = u at hc
  clear h hm hi
  go_enter Tryd.func21, Tryd.ntmps21
  go_wp2_with (go_at_call 19; refine (H _).out.mono ?_; rintro e w1 ⟨rfl, hb1⟩; obtain ⟨k1, f1⟩ := bcell hb1; have z1 := Nat.lt_of_lt_of_le hb hb1.size; have z2 := Nat.lt_of_lt_of_le hg hb1.size; have q0 := (k1 _ 0 hb).trans c0; have q1 := (k1 _ 1 hb).trans c1; have qc := (k1 _ i hg).trans hc; have qf := (f1 _ i hg).trans hfz; clear k1 f1)
  have HK : Hid (∀ (W : World) (x : Value), (W.cell? ⟨sb, 0, none⟩ = some (.slice aR rom.length cR) ∧ W.cell? ⟨sb, 1, none⟩ = some (.slice (some ⟨g, 0, none⟩) ram.length cM)) → ((W.setCell ⟨g, i, none⟩ x).cell? ⟨sb, 0, none⟩ = some (.slice aR rom.length cR) ∧ (W.setCell ⟨g, i, none⟩ x).cell? ⟨sb, 1, none⟩ = some (.slice (some ⟨g, 0, none⟩) ram.length cM))) := fun W x ⟨x1, x2⟩ => ⟨(World.cell?_setCell_far _ _ _ _ hgs).trans x1, (World.cell?_setCell_far _ _ _ _ hgs).trans x2⟩
  go_region_held3 (fun w' => w'.cell? ⟨sb, 0, none⟩ = some (.slice aR rom.length cR) ∧ w'.cell? ⟨sb, 1, none⟩ = some (.slice (some ⟨g, 0, none⟩) ram.length cM))
    (first | (go_keep; done) | exact HK.out _ _ (by assumption))
    ((go_at_call 20; refine (H2 _).out.mono ?_; rintro e w2 ⟨rfl, hb2⟩; obtain ⟨k2, f2⟩ := bcell hb2; have r0 := (k2 _ 0 z1).trans q0; have r1 := (k2 _ 1 z1).trans q1; have rc := (k2 _ i z2).trans qc; have rf := (f2 _ i z2).trans qf; have z3 := Nat.lt_of_lt_of_le z2 hb2.size; clear k2 f2))
  go_wp2
  go_end0
  have hbw := stp hb1.drew hb2
  have h2 := HS.out.keep hbw.size (fun k hk => hbw.block k (HS.out.lt k hk))
  obtain ⟨h3, hB⟩ := h2.put rfl hil b ⟨hb0, hb1'⟩
  exact ⟨rfl, h3, (Mv.of_below HS.out.big hbw).setCell hB (Or.inl (Or.inr (Or.inr (Or.inr rfl)))) _⟩
end Go.Proofs.YthfngejmihdafaaDoor
