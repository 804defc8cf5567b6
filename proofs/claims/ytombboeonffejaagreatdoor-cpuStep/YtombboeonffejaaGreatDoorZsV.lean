/-
  A processor over a space: Step.
-/
import Derived.Test.YtombboeonffejaaGreatDoorOrdA
import Derived.Test.YtombboeonffejaaGreatDoorShelf
import Derived.Laws.BytesArg
import Derived.Lib.Builder
import Derived.Test.YtombboeonffejaaGreatDoorCpuQ
namespace Go.Proofs.YtombboeonffejaaGreatDoor
open Go.ChangeShapes Go.WideShapes Go.ChangeAt Go.RowKit
set_option linter.unusedVariables false

def mk (l : List UInt8) : ByteArray := ⟨l.toArray⟩
theorem mk_toList (l : List UInt8) : (mk l).toList = l := by rw [Lib.toList_data]; rfl
/-- Bytes as cells. -/
def bcs (l : List UInt8) : List Value := l.map (fun c => Value.int .u8 c.toNat)
/-- Block g of w holds these bytes, from place o on. -/
def bytesAt (w : World) (g o : Nat) (l : List UInt8) : Prop := ∀ (j : Nat) (c : UInt8), l[j]? = some c → w.cell? ⟨g, o + j, none⟩ = some (.int .u8 c.toNat)
theorem bytesAt.kept {w w' : World} {g o B : Nat} {l : List UInt8} (h : bytesAt w g o l) (hb : Below B w w') (hB : g < B) : bytesAt w' g o l := fun j c hj => (hb.cell hB).trans (h j c hj)
/-- A slice of these bytes. -/
def sliceAt (w : World) (v : Value) (l : List UInt8) : Prop := (∃ a cap, v = .slice a 0 cap ∧ l = []) ∨ ∃ g o cap, v = .slice (some ⟨g, o, none⟩) l.length cap ∧ l.length ≤ cap ∧ g < w.heap.size ∧ bytesAt w g o l
theorem sliceAt.kept {w w' : World} {v : Value} {l : List UInt8} (h : sliceAt w v l) (hb : Below w.heap.size w w') : sliceAt w' v l := by
  rcases h with h | ⟨g, o, cap, h1, h2, h3, h4⟩
  · exact Or.inl h
  · exact Or.inr ⟨g, o, cap, h1, h2, Nat.lt_of_lt_of_le h3 hb.size, h4.kept hb h3⟩
theorem slice_len {w : World} {v : Value} {l : List UInt8} (h : sliceAt w v l) : ∃ a c, v = .slice a l.length c := by
  rcases h with ⟨a, c, h1, rfl⟩ | ⟨g, o, c, h1, _⟩
  · exact ⟨a, c, h1⟩
  · exact ⟨_, c, h1⟩
theorem slice_of_own {w : World} {B : Nat} {v : Value} {l : List UInt8} (h : w.ownsRow B 5 1 v l.length (bcs l)) : sliceAt w v l := by
  rcases h.2 with ⟨rfl, h0⟩ | ⟨g, cap, cur, rfl, hb, hg, hn, hm, hs, ht⟩
  · exact Or.inl ⟨none, 0, rfl, List.length_eq_zero_iff.1 h0⟩
  · refine Or.inr ⟨g, 0, cap, rfl, hn, (Array.getElem?_eq_some_iff.1 hg).1, fun j c hj => ?_⟩
    have hjl := (List.getElem?_eq_some_iff.1 hj).1
    rw [Nat.zero_add, Lib.cell_of_heap hg j]
    have e : cur[j]? = (cur.toList.take (l.length * 1))[j]? := by rw [List.getElem?_take, if_pos (by omega)]; simp
    rw [e, ht, bcs, List.getElem?_map, hj]
    rfl
theorem own_of_block {w w' : World} {B : Nat} {v : Value} {n : Nat} {xs : List Value} (h : w.ownsRow B 5 1 v n xs) (e : ∀ k, v.ownBlock = some k → w'.heap[k]? = w.heap[k]?) : w'.ownsRow B 5 1 v n xs := by
  refine ⟨h.1, ?_⟩
  rcases h.2 with h2 | ⟨g, cap, cur, rfl, hb, hg, r⟩
  · exact Or.inl h2
  · exact Or.inr ⟨g, cap, cur, rfl, hb, (e g rfl).trans hg, r⟩
theorem getD_nums (l : List UInt8) (i : Nat) (hi : i < l.length) : ∃ c, l[i]? = some c ∧ (l.map (fun c => (c.toNat : Int))).getD i 0 = (c.toNat : Int) := by
  refine ⟨l[i], List.getElem?_eq_getElem hi, ?_⟩
  simp [List.getD, List.getElem?_eq_getElem hi]
theorem cells_nums (l : List UInt8) : (l.map (fun c => (c.toNat : Int))).map (Value.int .u8) = bcs l := by
  simp [bcs]
theorem addr_add (g o j : Nat) : (⟨g, o, none⟩ : Addr).add j = ⟨g, o + j, none⟩ := by unfold Addr.add; split <;> simp_all
theorem clone_any (v : Value) (l : List UInt8) (w : World) (h : sliceAt w v l) (hl : l.length ≤ 100000) :
    Calls Tryz.prog 39 #[v] w fun e w' => ∃ v', e = .returned v' ∧ w'.ownsRow w.heap.size 5 1 v' l.length (bcs l) ∧ Below w.heap.size w w' := by
  rcases h with ⟨a, cap, rfl, rfl⟩ | ⟨g, o, cap, rfl, h2, h3, h4⟩
  · cases a with
    | none => exact (Tryz.bytes_Clone_nil 0 cap w).mono fun e w' hh => ⟨_, hh.1, ⟨rfl, Or.inl ⟨rfl, rfl⟩⟩, hh.2 ▸ st0 w⟩
    | some a => exact (Tryz.bytes_Clone_at a 0 cap [] w rfl (by omega) (fun i hi => by omega)).mono fun e w' ⟨v', he, ho, _, hb⟩ => ⟨v', he, ho, hb⟩
  · refine (Tryz.bytes_Clone_at ⟨g, o, none⟩ l.length cap (l.map (fun c => (c.toNat : Int))) w (by simp) (by omega) (fun i hi => ?_)).mono fun e w' ⟨v', he, ho, _, hb⟩ => ⟨v', he, by rw [cells_nums] at ho; exact ho, hb⟩
    obtain ⟨c, hc, hg⟩ := getD_nums l i hi
    rw [hg, addr_add]; exact h4 i c hc
theorem mk_nums (l : List UInt8) : strOfNums (l.map (fun c => (c.toNat : Int))) = mk l := by
  unfold strOfNums mk
  rw [List.map_map]
  congr 2
  have : ((fun n : Int => UInt8.ofNat n.toNat) ∘ fun c : UInt8 => (c.toNat : Int)) = id := by funext c; simp
  rw [this, List.map_id]
theorem conv_any {w : World} {v : Value} {l : List UInt8} (h : sliceAt w v l) : (convert 26 9 v).run Tryz.prog w = .ok (.string (mk l)) w := by
  rcases h with ⟨a, cap, rfl, rfl⟩ | ⟨g, o, cap, rfl, h2, h3, h4⟩
  · cases a with
    | none => exact run_convert_bytes_nil w 26 5 Tryz.underlying26 Tryz.underlying5 0 cap 9 Tryz.underlying9
    | some a =>
      have hl : (loadCells a 0).run Tryz.prog w = .ok (([] : List Int).map (Value.int .u8)).toArray w := run_loadCells_list (P := Tryz.prog) w a [] (fun j v hj => by simp at hj)
      rw [run_convert_bytes_string w 26 9 5 _ 0 cap Tryz.underlying26 Tryz.underlying5 Tryz.underlying9, run_bytesToString w a 0 cap [] hl]
      rfl
  · have := run_convert_bytes_arg (P := Tryz.prog) w 26 5 Tryz.underlying26 Tryz.underlying5 g o l.length cap (l.map (fun c => (c.toNat : Int))) (by simp) (fun i hi => by
      obtain ⟨c, hc, hg⟩ := getD_nums l i hi
      rw [hg]; exact h4 i c hc) 9 Tryz.underlying9
    rw [mk_nums] at this
    exact this
theorem equal_any (v1 v2 : Value) (l1 l2 : List UInt8) (w : World) (h1 : sliceAt w v1 l1) (h2 : sliceAt w v2 l2) :
    Calls Tryz.prog 21 #[v1, v2] w fun e w' => e = .returned (.bool (l1 == l2)) ∧ w = w' := by
  refine (Tryz.bytes_Equal_strs v1 v2 (mk l1) (mk l2) w (conv_any h1) (conv_any h2)).mono fun e w' hh => ⟨?_, hh.2.symm⟩
  rw [hh.1, mk_toList, mk_toList]
/-- A space: Rom from 0 on, Ram from 32768 to 49151, over and over. -/
def inRam (n : Nat) (a : Int) : Bool := decide (32768 ≤ a) && decide (a ≤ 49151) && decide (0 < n)
def inRom (n : Nat) (a : Int) : Bool := decide (a < 32768) && decide (a < n)
def spc (rom : List UInt8) : C.Mem (List UInt8) where
  rd := fun ram a => ((if inRom rom.length a then ((rom.getD a.toNat 0).toNat : Int) else if inRam ram.length a then ((ram.getD ((a - 32768) % ram.length).toNat 0).toNat : Int) else 255), ram)
  wr := fun ram a b => if inRam ram.length a then ram.set ((a - 32768) % ram.length).toNat (UInt8.ofNat b.toNat) else ram
theorem shapesAt.of_block {w w' : World} (h : shapesAt w) (e : w'.heap[2]? = w.heap[2]?) : shapesAt w' := fun k hk => by
  obtain ⟨h1, h2, h3⟩ := h k hk
  exact ⟨(World.cell?_of_block (w := w) e).trans h1, (World.cell?_of_block (w := w) e).trans h2, (World.cell?_of_block (w := w) e).trans h3⟩
structure SpI (B sb : Nat) (vR vM : Value) (rom : List UInt8) (w : World) (ram : List UInt8) : Prop where
  shapes : shapesAt w
  big : B ≤ w.heap.size
  box : w.heap[sb]? = some (.cells #[vR, vM] 28 (0, 0))
  hrom : w.ownsRow B 5 1 vR rom.length (bcs rom)
  hram : w.ownsRow B 5 1 vM ram.length (bcs ram)
  ne : ∀ k, vM.ownBlock = some k → vR.ownBlock ≠ some k ∧ k ≠ sb ∧ k ≠ 2
  few : rom.length ≤ 1024 ∧ ram.length ≤ 256
def spT (sb : Nat) (vR vM : Value) (_ : List UInt8) (k : Nat) : Prop := k = 2 ∨ k = sb ∨ vR.ownBlock = some k ∨ vM.ownBlock = some k
section
variable {B sb : Nat} {vR vM : Value} {rom ram : List UInt8} {w w' : World}
theorem SpI.lt (h : SpI B sb vR vM rom w ram) (k : Nat) (hk : spT sb vR vM ram k) : k < w.heap.size := by
  rcases hk with rfl | rfl | hk | hk
  · exact h.shapes.lt
  · exact (Array.getElem?_eq_some_iff.1 h.box).1
  · exact (h.hrom.lt k hk).2
  · exact (h.hram.lt k hk).2
theorem SpI.keep (h : SpI B sb vR vM rom w ram) (hs : w.heap.size ≤ w'.heap.size) (e : ∀ k, spT sb vR vM ram k → w'.heap[k]? = w.heap[k]?) : SpI B sb vR vM rom w' ram :=
  ⟨h.shapes.of_block (e _ (Or.inl rfl)), Nat.le_trans h.big hs, (e _ (Or.inr (Or.inl rfl))).trans h.box, own_of_block h.hrom (fun k hk => e k (Or.inr (Or.inr (Or.inl hk)))), own_of_block h.hram (fun k hk => e k (Or.inr (Or.inr (Or.inr hk)))), h.ne, h.few⟩
theorem own_slice {v : Value} {l : List UInt8} (h : w.ownsRow B 5 1 v l.length (bcs l)) : ∃ a c, v = .slice a l.length c := slice_len (slice_of_own h)
theorem own_at {v : Value} {l : List UInt8} (h : w.ownsRow B 5 1 v l.length (bcs l)) {i : Nat} (hi : i < l.length) : ∃ g c, v = .slice (some ⟨g, 0, none⟩) l.length c ∧ g < w.heap.size ∧ w.frozen? ⟨g, i, none⟩ = false ∧ w.cell? ⟨g, i, none⟩ = some (.int .u8 (l.getD i 0).toNat) := by
  rcases h.2 with ⟨_, h0⟩ | ⟨g, cap, cur, rfl, hb, hg, hn, hm, hs, ht⟩
  · omega
  · refine ⟨g, cap, rfl, (Array.getElem?_eq_some_iff.1 hg).1, Lib.frozen_of_heap hg i, ?_⟩
    have := h.cellAt i (by omega)
    rw [this, bcs, List.getElem?_map, List.getElem?_eq_getElem hi, List.getD_eq_getElem?_getD, List.getElem?_eq_getElem hi]
    rfl
/-- What a space's byte is written to. -/
theorem SpI.put (h : SpI B sb vR vM rom w ram) {g c i : Nat} (hv : vM = .slice (some ⟨g, 0, none⟩) ram.length c) (hi : i < ram.length) (b : Int) (hb : 0 ≤ b ∧ b ≤ 255) :
    SpI B sb vR vM rom (w.setCell ⟨g, i, none⟩ (.int .u8 b)) (ram.set i (UInt8.ofNat b.toNat)) ∧ B ≤ g := by
  have hk : vM.ownBlock = some g := by rw [hv]; rfl
  obtain ⟨n1, n2, n3⟩ := h.ne g hk
  have hram := h.hram
  rw [hv] at hram
  have hst := (hram.stored i (.int .u8 b)).1
  have hset : (bcs ram).set i (.int .u8 b) = bcs (ram.set i (UInt8.ofNat b.toNat)) := by
    unfold bcs
    rw [List.map_set]
    congr 2
    have : (UInt8.ofNat b.toNat).toNat = b.toNat := by simp; omega
    rw [this]; omega
  rw [hset] at hst
  refine ⟨⟨h.shapes.of_block (Below.heap_setCell _ _ _ _ (Ne.symm n3)), by rw [setCell_size]; exact h.big, (Below.heap_setCell _ _ _ _ (Ne.symm n2)).trans h.box, own_of_block h.hrom (fun k hk' => Below.heap_setCell _ _ _ _ (fun e => n1 (by have e' : k = g := e; rw [← e']; exact hk'))), ?_, h.ne, by simpa using h.few⟩, (hram.lt g rfl).1⟩
  rw [hv, List.length_set]
  exact hst
end
theorem spc_byte (rom s : List UInt8) (a : Int) : 0 ≤ ((spc rom).rd s a).1 ∧ ((spc rom).rd s a).1 ≤ 255 := by
  have hb : ∀ c : UInt8, (0 : Int) ≤ (c.toNat : Int) ∧ (c.toNat : Int) ≤ 255 := fun c => by have := c.toNat_lt; omega
  unfold spc
  simp only
  split
  · exact hb _
  · split
    · exact hb _
    · omega

/-! ### the walks -/
set_option maxRecDepth 100000 in
theorem hasRam_any (am : Option Addr) (n c : Nat) (a : Int) (ha : 0 ≤ a) (ha' : a ≤ 65535) (w : World) (ax : Option Addr) (nx cx : Nat) :
    Calls Tryz.prog 42 #[.agg #[.slice ax nx cx, .slice am n c], .int .u16 a] w fun e w' => e = .returned (.bool (inRam n a)) ∧ Below w.heap.size w w' := by
  unfold inRam
  by_cases h1 : 32768 ≤ a
  · by_cases h2 : a ≤ 49151
    · go_enter Tryz.func42, Tryz.ntmps42
      go_wp2
      go_ret
      exact ⟨ret_b (by simp [h1, h2]), stA (st0 _) _⟩
    · skip
      go_enter Tryz.func42, Tryz.ntmps42
      go_wp2
      go_ret
      exact ⟨ret_b (by simp; omega), stA (st0 _) _⟩
  · skip
    go_enter Tryz.func42, Tryz.ntmps42
    go_wp2
    go_ret
    exact ⟨ret_b (by simp; omega), stA (st0 _) _⟩
set_option maxRecDepth 100000 in
theorem ramIndex_any (am : Option Addr) (n c : Nat) (a : Int) (ha : 32768 ≤ a) (ha' : a ≤ 49151) (hn : 0 < n) (hn' : n ≤ 256) (w : World) (ax : Option Addr) (nx cx : Nat) :
    Calls Tryz.prog 43 #[.agg #[.slice ax nx cx, .slice am n c], .int .u16 a] w fun e w' => e = .returned (.int .i64 ((a - 32768) % n)) ∧ Below w.heap.size w w' := by
  have hw : IntKind.u16.wrap (a - 32768) = a - 32768 := by rw [u16w]; omega
  have hz : ¬ (n : Int) = 0 := by omega
  go_enter Tryz.func43, Tryz.ntmps43
  go_wp2
  go_ret
  exact ⟨rfl, stA (st0 _) _⟩
/-- A space's box, read. -/
theorem SpI.cells {B sb : Nat} {vR vM : Value} {rom ram : List UInt8} {w : World} (h : SpI B sb vR vM rom w ram) : w.cell? ⟨sb, 0, none⟩ = some vR ∧ w.cell? ⟨sb, 1, none⟩ = some vM ∧ sb < w.heap.size :=
  ⟨Lib.cell_of_heap h.box 0, Lib.cell_of_heap h.box 1, (Array.getElem?_eq_some_iff.1 h.box).1⟩
set_option maxRecDepth 100000 in
set_option maxHeartbeats 1600000 in
theorem readRom (B sb : Nat) (vR vM : Value) (rom ram : List UInt8) (a : Int) (ha : 0 ≤ a) (ha' : a < 32768) (hr : a < rom.length) (w : World) (h : SpI B sb vR vM rom w ram) :
    Calls Tryz.prog 41 #[.int .u16 a, .pointer (some ⟨sb, 0, none⟩)] w fun e w' => e = .returned (.int .u8 (rom.getD a.toNat 0).toNat) ∧ Below w.heap.size w w' := by
  obtain ⟨n, rfl⟩ := Int.eq_ofNat_of_zero_le ha
  obtain ⟨g, c, rfl, hg, _, hc⟩ := own_at h.hrom (i := n) (by omega)
  obtain ⟨c0, c1, hb⟩ := h.cells
  simp only [Int.toNat_natCast]
  clear h
  go_enter Tryz.func41, Tryz.ntmps41
  go_wp2
  go_ret
  exact ⟨rfl, st0 w⟩
set_option maxRecDepth 100000 in
set_option maxHeartbeats 1600000 in
theorem readNo (B sb : Nat) (vR vM : Value) (rom ram : List UInt8) (a : Int) (ha : 0 ≤ a) (ha' : a ≤ 65535) (hr : inRom rom.length a = false) (hm : inRam ram.length a = false) (w : World) (h : SpI B sb vR vM rom w ram) :
    Calls Tryz.prog 41 #[.int .u16 a, .pointer (some ⟨sb, 0, none⟩)] w fun e w' => e = .returned (.int .u8 255) ∧ Below w.heap.size w w' := by
  obtain ⟨aR, cR, rfl⟩ := own_slice h.hrom
  obtain ⟨aM, cM, rfl⟩ := own_slice h.hram
  obtain ⟨c0, c1, hb⟩ := h.cells
  have H := fun W : World => hid (hasRam_any aM ram.length cM a ha ha' W aR rom.length cR)
  rw [hm] at H
  clear h hm
  unfold inRom at hr
  by_cases h1 : a < 32768
  · have h2 : ¬ a < (rom.length : Int) := by simpa [h1] using hr
    clear hr
    go_enter Tryz.func41, Tryz.ntmps41
    go_wp2_with (go_at_call 42; refine (H _).out.mono ?_; rintro e w1 ⟨rfl, hb1⟩)
    go_ret
    exact ⟨rfl, hb1⟩
  · clear hr
    go_enter Tryz.func41, Tryz.ntmps41
    go_wp2_with (go_at_call 42; refine (H _).out.mono ?_; rintro e w1 ⟨rfl, hb1⟩)
    go_ret
    exact ⟨rfl, hb1⟩
theorem inRam_iff {n : Nat} {a : Int} (h : inRam n a = true) : 32768 ≤ a ∧ a ≤ 49151 ∧ 0 < n := by
  unfold inRam at h
  simpa [and_assoc] using h
set_option maxRecDepth 100000 in
set_option maxHeartbeats 1600000 in
theorem readRam (B sb : Nat) (vR vM : Value) (rom ram : List UInt8) (a : Int) (ha : 0 ≤ a) (ha' : a ≤ 65535) (hm : inRam ram.length a = true) (w : World) (h : SpI B sb vR vM rom w ram) :
    Calls Tryz.prog 41 #[.int .u16 a, .pointer (some ⟨sb, 0, none⟩)] w fun e w' => e = .returned (.int .u8 (ram.getD ((a - 32768) % ram.length).toNat 0).toNat) ∧ Below w.heap.size w w' := by
  obtain ⟨m1, m2, m3⟩ := inRam_iff hm
  obtain ⟨i, hi⟩ := Int.eq_ofNat_of_zero_le (show 0 ≤ (a - 32768) % (ram.length : Int) from Int.emod_nonneg _ (by omega))
  have hil : i < ram.length := by have := Int.emod_lt_of_pos (a - 32768) (show (0 : Int) < ram.length by omega); omega
  obtain ⟨aR, cR, rfl⟩ := own_slice h.hrom
  obtain ⟨g, cM, rfl, hg, _, hc⟩ := own_at h.hram hil
  obtain ⟨c0, c1, hb⟩ := h.cells
  have H := fun W : World => hid (hasRam_any (some ⟨g, 0, none⟩) ram.length cM a ha ha' W aR rom.length cR)
  rw [hm] at H
  have H2 := fun W : World => hid (ramIndex_any (some ⟨g, 0, none⟩) ram.length cM a m1 m2 m3 h.few.2 W aR rom.length cR)
  rw [hi] at H2
  rw [hi]
  simp only [Int.toNat_natCast]
  have h1 : ¬ a < 32768 := by omega
  have hi0 : (i : Int) < ram.length := by omega
  generalize ram.getD i 0 = u at hc ⊢
  clear h hm hi
  go_enter Tryz.func41, Tryz.ntmps41
  go_wp2_with (go_at_call 42; refine (H _).out.mono ?_; rintro e w1 ⟨rfl, hb1⟩; obtain ⟨k1, f1⟩ := bcell hb1; have z1 := Nat.lt_of_lt_of_le hb hb1.size; have z2 := Nat.lt_of_lt_of_le hg hb1.size; have q0 := (k1 _ 0 hb).trans c0; have q1 := (k1 _ 1 hb).trans c1; have qc := (k1 _ i hg).trans hc; clear k1 f1)
  go_region_held3 (fun w' => w'.cell? ⟨sb, 0, none⟩ = some (.slice aR rom.length cR) ∧ w'.cell? ⟨sb, 1, none⟩ = some (.slice (some ⟨g, 0, none⟩) ram.length cM) ∧ w'.cell? ⟨g, i, none⟩ = some (.int .u8 u.toNat))
    ((go_keep; done))
    ((go_at_call 43; refine (H2 _).out.mono ?_; rintro e w2 ⟨rfl, hb2⟩; obtain ⟨k2, f2⟩ := bcell hb2; have r0 := (k2 _ 0 z1).trans q0; have r1 := (k2 _ 1 z1).trans q1; have rc := (k2 _ i z2).trans qc; have z3 := Nat.lt_of_lt_of_le z2 hb2.size; clear k2 f2))
  go_wp2
  go_ret
  exact ⟨rfl, stp hb1.drew hb2⟩
theorem read_any1 (B sb : Nat) (vR vM : Value) (rom ram : List UInt8) (a : Int) (ha : 0 ≤ a) (ha' : a ≤ 65535) (w : World) (h : SpI B sb vR vM rom w ram) :
    Calls Tryz.prog 41 #[.int .u16 a, .pointer (some ⟨sb, 0, none⟩)] w fun e w' => e = .returned (.int .u8 ((spc rom).rd ram a).1) ∧ Below w.heap.size w w' := by
  unfold spc
  simp only
  cases hr : inRom rom.length a
  · rw [if_neg (by simp)]
    cases hm : inRam ram.length a
    · rw [if_neg (by simp)]; exact readNo B sb vR vM rom ram a ha ha' hr hm w h
    · rw [if_pos rfl]; exact readRam B sb vR vM rom ram a ha ha' hm w h
  · rw [if_pos rfl]
    have hr' : a < 32768 ∧ a < (rom.length : Int) := by unfold inRom at hr; simpa using hr
    exact readRom B sb vR vM rom ram a ha hr'.1 hr'.2 w h
set_option maxRecDepth 100000 in
set_option maxHeartbeats 1600000 in
theorem writeNo (B sb : Nat) (vR vM : Value) (rom ram : List UInt8) (a b : Int) (ha : 0 ≤ a) (ha' : a ≤ 65535) (hm : inRam ram.length a = false) (w : World) (h : SpI B sb vR vM rom w ram) :
    Calls Tryz.prog 44 #[.int .u16 a, .int .u8 b, .pointer (some ⟨sb, 0, none⟩)] w fun e w' => e = .returned (.tuple #[]) ∧ Below w.heap.size w w' := by
  obtain ⟨aR, cR, rfl⟩ := own_slice h.hrom
  obtain ⟨aM, cM, rfl⟩ := own_slice h.hram
  obtain ⟨c0, c1, hb⟩ := h.cells
  have H := fun W : World => hid (hasRam_any aM ram.length cM a ha ha' W aR rom.length cR)
  rw [hm] at H
  clear h hm
  go_enter Tryz.func44, Tryz.ntmps44
  go_wp2_with (go_at_call 42; refine (H _).out.mono ?_; rintro e w1 ⟨rfl, hb1⟩)
  go_end0
  exact ⟨rfl, hb1⟩
set_option maxRecDepth 100000 in
set_option maxHeartbeats 1600000 in
theorem writeRam (B sb : Nat) (vR vM : Value) (rom ram : List UInt8) (a b : Int) (ha : 0 ≤ a) (ha' : a ≤ 65535) (hb0 : 0 ≤ b) (hb1' : b ≤ 255) (hm : inRam ram.length a = true) (w : World) (h : SpI B sb vR vM rom w ram) :
    Calls Tryz.prog 44 #[.int .u16 a, .int .u8 b, .pointer (some ⟨sb, 0, none⟩)] w fun e w' => e = .returned (.tuple #[]) ∧ SpI B sb vR vM rom w' (ram.set ((a - 32768) % ram.length).toNat (UInt8.ofNat b.toNat)) ∧ Mv B (spT sb vR vM ram) (spT sb vR vM ram) w w' := by
  obtain ⟨m1, m2, m3⟩ := inRam_iff hm
  obtain ⟨i, hi⟩ := Int.eq_ofNat_of_zero_le (show 0 ≤ (a - 32768) % (ram.length : Int) from Int.emod_nonneg _ (by omega))
  have hil : i < ram.length := by have := Int.emod_lt_of_pos (a - 32768) (show (0 : Int) < ram.length by omega); omega
  obtain ⟨aR, cR, rfl⟩ := own_slice h.hrom
  obtain ⟨g, cM, rfl, hg, hfz, hc⟩ := own_at h.hram hil
  obtain ⟨c0, c1, hb⟩ := h.cells
  have H := fun W : World => hid (hasRam_any (some ⟨g, 0, none⟩) ram.length cM a ha ha' W aR rom.length cR)
  rw [hm] at H
  have H2 := fun W : World => hid (ramIndex_any (some ⟨g, 0, none⟩) ram.length cM a m1 m2 m3 h.few.2 W aR rom.length cR)
  rw [hi] at H2
  rw [hi]
  simp only [Int.toNat_natCast]
  have hi0 : (i : Int) < ram.length := by omega
  have HS := hid h
  have hgs : g ≠ sb := (h.ne g rfl).2.1
  generalize ram.getD i 0 = u at hc
  clear h hm hi
  go_enter Tryz.func44, Tryz.ntmps44
  go_wp2_with (go_at_call 42; refine (H _).out.mono ?_; rintro e w1 ⟨rfl, hb1⟩; obtain ⟨k1, f1⟩ := bcell hb1; have z1 := Nat.lt_of_lt_of_le hb hb1.size; have z2 := Nat.lt_of_lt_of_le hg hb1.size; have q0 := (k1 _ 0 hb).trans c0; have q1 := (k1 _ 1 hb).trans c1; have qc := (k1 _ i hg).trans hc; have qf := (f1 _ i hg).trans hfz; clear k1 f1)
  have HK : Hid (∀ (W : World) (x : Value), (W.cell? ⟨sb, 0, none⟩ = some (.slice aR rom.length cR) ∧ W.cell? ⟨sb, 1, none⟩ = some (.slice (some ⟨g, 0, none⟩) ram.length cM)) → ((W.setCell ⟨g, i, none⟩ x).cell? ⟨sb, 0, none⟩ = some (.slice aR rom.length cR) ∧ (W.setCell ⟨g, i, none⟩ x).cell? ⟨sb, 1, none⟩ = some (.slice (some ⟨g, 0, none⟩) ram.length cM))) := fun W x ⟨x1, x2⟩ => ⟨(World.cell?_setCell_far _ _ _ _ hgs).trans x1, (World.cell?_setCell_far _ _ _ _ hgs).trans x2⟩
  go_region_held3 (fun w' => w'.cell? ⟨sb, 0, none⟩ = some (.slice aR rom.length cR) ∧ w'.cell? ⟨sb, 1, none⟩ = some (.slice (some ⟨g, 0, none⟩) ram.length cM))
    (first | (go_keep; done) | exact HK.out _ _ (by assumption))
    ((go_at_call 43; refine (H2 _).out.mono ?_; rintro e w2 ⟨rfl, hb2⟩; obtain ⟨k2, f2⟩ := bcell hb2; have r0 := (k2 _ 0 z1).trans q0; have r1 := (k2 _ 1 z1).trans q1; have rc := (k2 _ i z2).trans qc; have rf := (f2 _ i z2).trans qf; have z3 := Nat.lt_of_lt_of_le z2 hb2.size; clear k2 f2))
  go_wp2
  go_end0
  have hbw := stp hb1.drew hb2
  have h2 := HS.out.keep hbw.size (fun k hk => hbw.block k (HS.out.lt k hk))
  obtain ⟨h3, hB⟩ := h2.put rfl hil b ⟨hb0, hb1'⟩
  exact ⟨rfl, h3, (Mv.of_below HS.out.big hbw).setCell hB (Or.inl (Or.inr (Or.inr (Or.inr rfl)))) _⟩
abbrev rdV (sb : Nat) : Value := fv 41 #[.pointer (some ⟨sb, 0, none⟩)]
abbrev wrV (sb : Nat) : Value := fv 44 #[.pointer (some ⟨sb, 0, none⟩)]
theorem SpI.kept {B sb : Nat} {vR vM : Value} {rom ram : List UInt8} {w w' : World} (h : SpI B sb vR vM rom w ram) (hb : Below w.heap.size w w') : SpI B sb vR vM rom w' ram := h.keep hb.size (fun k hk => hb.block k (h.lt k hk))
theorem eq_fn (n : Nat) (cs : Array Value) (w : World) : (binOp .eql 39 (.func (.func n) #[] cs) .nilFunc).run Tryz.prog w = .ok (.bool false) w := by kernel_rfl
theorem ne_fn (n : Nat) (cs : Array Value) (w : World) : (binOp .neq 40 (.func (.func n) #[] cs) .nilFunc).run Tryz.prog w = .ok (.bool true) w := by kernel_rfl
set_option maxRecDepth 100000 in
theorem byteAt_sp (B sb : Nat) (vR vM : Value) (rom ram : List UInt8) (a : Int) (ha : 0 ≤ a) (ha' : a ≤ 65535) (w : World) (h : SpI B sb vR vM rom w ram) :
    Calls Tryz.prog 65 #[.agg #[rdV sb, wrV sb], .int .u16 a] w fun e w' => e = .returned (.int .u8 ((spc rom).rd ram a).1) ∧ SpI B sb vR vM rom w' ram ∧ Mv B (spT sb vR vM ram) (spT sb vR vM ram) w w' := by
  have HS := hid h
  have hq := eq_fn
  clear h
  go_enter Tryz.func65, Tryz.ntmps65
  go_wp2_with (go_at_call 41; refine (read_any1 B sb vR vM rom ram a ha ha' _ (HS.out.kept (stA (st0 _) _))).mono ?_; rintro e w1 ⟨rfl, hb1⟩)
  go_ret
  exact ⟨rfl, HS.out.kept (stp (stA (st0 _) _) hb1), Mv.of_below HS.out.big (stp (stA (st0 _) _) hb1)⟩
set_option maxRecDepth 100000 in
theorem putByte_sp (B sb : Nat) (vR vM : Value) (rom ram : List UInt8) (a b : Int) (ha : 0 ≤ a) (ha' : a ≤ 65535) (hb0 : 0 ≤ b) (hb1 : b ≤ 255) (w : World) (h : SpI B sb vR vM rom w ram) :
    Calls Tryz.prog 81 #[.agg #[rdV sb, wrV sb], .int .u16 a, .int .u8 b] w fun e w' => e = .returned (.tuple #[]) ∧ SpI B sb vR vM rom w' ((spc rom).wr ram a b) ∧ Mv B (spT sb vR vM ram) (spT sb vR vM ((spc rom).wr ram a b)) w w' := by
  have HS := hid h
  have HW : Hid (∀ W : World, SpI B sb vR vM rom W ram → Calls Tryz.prog 44 #[.int .u16 a, .int .u8 b, .pointer (some ⟨sb, 0, none⟩)] W fun e w' => e = .returned (.tuple #[]) ∧ SpI B sb vR vM rom w' ((spc rom).wr ram a b) ∧ Mv B (spT sb vR vM ram) (spT sb vR vM ram) W w') := by
    intro W hW
    unfold spc
    simp only
    cases hm : inRam ram.length a
    · rw [if_neg (by simp)]
      exact (writeNo B sb vR vM rom ram a b ha ha' hm W hW).mono fun e w' hh => ⟨hh.1, hW.kept hh.2, Mv.of_below hW.big hh.2⟩
    · rw [if_pos rfl]
      exact writeRam B sb vR vM rom ram a b ha ha' hb0 hb1 hm W hW
  clear h
  generalize (spc rom).wr ram a b = ram' at HW ⊢
  have hq := ne_fn
  go_enter Tryz.func81, Tryz.ntmps81
  go_wp2_with (go_at_call 44; refine (HW.out _ (HS.out.kept (stA (st0 _) _))).mono ?_; rintro e w1 ⟨rfl, hI1, hm1⟩)
  go_end0
  exact ⟨rfl, hI1, hm1.unbox HS.out.big⟩
theorem space_rs (B sb : Nat) (vR vM : Value) (rom : List UInt8) : RS (spc rom) B 41 44 #[.pointer (some ⟨sb, 0, none⟩)] #[.pointer (some ⟨sb, 0, none⟩)] (SpI B sb vR vM rom) (spT sb vR vM) where
  lt := fun h k hk => h.lt k hk
  keep := fun h hs e => h.keep hs e
  shapes := fun h => h.shapes
  gT := Or.inl rfl
  byte := fun s a => spc_byte rom s a
  big := fun h => h.big
  read := fun w s a ha ha' h => byteAt_sp B sb vR vM rom s a ha ha' w h
  write := fun w s a b ha ha' hb hb' h => putByte_sp B sb vR vM rom s a b ha ha' hb hb' w h
set_option maxRecDepth 100000 in
theorem reachOf_any (x y : Value) (a1 a2 : Option Addr) (n1 n2 k1 k2 : Nat) (hx : x = .slice a1 n1 k1) (hy : y = .slice a2 n2 k2) (w : World) : Calls Tryz.prog 20 #[.agg #[x, y]] w fun e w' => e = .returned (.agg #[rdV w.heap.size, wrV w.heap.size]) ∧ w'.heap[w.heap.size]? = some (.cells #[x, y] 28 (0, 0)) ∧ Below w.heap.size w w' := by
  subst hx hy
  go_enter Tryz.func20, Tryz.ntmps20
  go_wp2
  refine bodyPost_ret (v := .agg #[rdV w.heap.size, wrV w.heap.size]) (by simp [results, Tryz.results20, go_sem]) rfl ⟨rfl, ?_, stA (stA (st0 w) _) _⟩
  exact (heap_alloc_old _ _ (by simp)).trans (heap_alloc_new w _)
set_option maxRecDepth 100000 in
theorem chk_any (a1 a2 : Option Addr) (n1 n2 k1 k2 : Nat) (w : World) : Calls Tryz.prog 8 #[.agg #[.slice a1 n1 k1, .slice a2 n2 k2]] w fun e w' => e = .returned (.int .i64 (if 1024 < n1 ∨ 256 < n2 then 2 else 0)) ∧ Below w.heap.size w w' := by
  by_cases h1 : 1024 < n1
  · have h1' : (1024 : Int) < n1 := by omega
    rw [if_pos (Or.inl h1)]
    go_enter Tryz.func8, Tryz.ntmps8
    go_wp2
    go_ret
    exact ⟨rfl, stA (st0 w) _⟩
  · have h1' : ¬ (1024 : Int) < n1 := by omega
    by_cases h2 : 256 < n2
    · have h2' : (256 : Int) < n2 := by omega
      rw [if_pos (Or.inr h2)]
      go_enter Tryz.func8, Tryz.ntmps8
      go_wp2
      go_ret
      exact ⟨rfl, stA (st0 w) _⟩
    · have h2' : ¬ (256 : Int) < n2 := by omega
      rw [if_neg (fun h => h.elim h1 h2)]
      go_enter Tryz.func8, Tryz.ntmps8
      go_wp2
      go_ret
      exact ⟨rfl, stA (st0 w) _⟩
/-- A copy of a space, in memory of its own. -/
def Cop (B : Nat) (rom ram : List UInt8) (w' : World) (vR vM : Value) : Prop := w'.ownsRow B 5 1 vR rom.length (bcs rom) ∧ w'.ownsRow B 5 1 vM ram.length (bcs ram) ∧ ∀ k, vM.ownBlock = some k → vR.ownBlock ≠ some k
theorem own_mono {w : World} {b b' : Nat} {v : Value} {n : Nat} {xs : List Value} (h : w.ownsRow b 5 1 v n xs) (hb : b' ≤ b) : w.ownsRow b' 5 1 v n xs := by
  refine ⟨h.1, ?_⟩
  rcases h.2 with h2 | ⟨g, cap, cur, rfl, hg, r⟩
  · exact Or.inl h2
  · exact Or.inr ⟨g, cap, cur, rfl, Nat.le_trans hb hg, r⟩
theorem own_kept {w w' : World} {b : Nat} {v : Value} {n : Nat} {xs : List Value} (h : w.ownsRow b 5 1 v n xs) (hb : Below w.heap.size w w') : w'.ownsRow b 5 1 v n xs := own_of_block h (fun k hk => hb.block k (h.lt k hk).2)
theorem cop_ab {B b1 : Nat} {rom ram : List UInt8} {w1 w2 : World} {vR vM : Value} (h1 : w1.ownsRow b1 5 1 vR rom.length (bcs rom)) (h2 : w2.ownsRow w1.heap.size 5 1 vM ram.length (bcs ram)) (hb : Below w1.heap.size w1 w2) (hB : B ≤ b1) (hB1 : b1 ≤ w1.heap.size) : Cop B rom ram w2 vR vM :=
  ⟨own_mono (own_kept h1 hb) hB, own_mono h2 (Nat.le_trans hB hB1), fun k hk hk' => by have a := (h1.lt k hk').2; have b := (h2.lt k hk).1; omega⟩
theorem cop_ba {B b1 : Nat} {rom ram : List UInt8} {w1 w2 : World} {vR vM : Value} (h1 : w1.ownsRow b1 5 1 vM ram.length (bcs ram)) (h2 : w2.ownsRow w1.heap.size 5 1 vR rom.length (bcs rom)) (hb : Below w1.heap.size w1 w2) (hB : B ≤ b1) (hB1 : b1 ≤ w1.heap.size) : Cop B rom ram w2 vR vM :=
  ⟨own_mono h2 (Nat.le_trans hB hB1), own_mono (own_kept h1 hb) hB, fun k hk hk' => by have a := (h1.lt k hk).2; have b := (h2.lt k hk').1; omega⟩
theorem cop_set {B : Nat} {rom ram : List UInt8} {w : World} {vR vM : Value} (h : Cop B rom ram w vR vM) {k : Nat} (hk : k < B) (i : Nat) (u : Value) : Cop B rom ram (w.setCell ⟨k, i, none⟩ u) vR vM :=
  ⟨own_of_block h.1 (fun j hj => Below.heap_setCell _ _ _ _ (by have := (h.1.lt j hj).1; show j ≠ k; omega)), own_of_block h.2.1 (fun j hj => Below.heap_setCell _ _ _ _ (by have := (h.2.1.lt j hj).1; show j ≠ k; omega)), h.2.2⟩
theorem cop_mono {B B' : Nat} {rom ram : List UInt8} {w : World} {vR vM : Value} (h : Cop B rom ram w vR vM) (hb : B' ≤ B) : Cop B' rom ram w vR vM := ⟨own_mono h.1 hb, own_mono h.2.1 hb, h.2.2⟩
set_option maxRecDepth 100000 in
set_option maxHeartbeats 1600000 in
theorem copyOf_any (v1 v2 : Value) (rom ram : List UInt8) (w : World) (h1 : sliceAt w v1 rom) (h2 : sliceAt w v2 ram) (hl1 : rom.length ≤ 1024) (hl2 : ram.length ≤ 256) :
    Calls Tryz.prog 18 #[.agg #[v1, v2]] w fun e w' => ∃ vR vM, e = .returned (.agg #[vR, vM]) ∧ Cop w.heap.size rom ram w' vR vM ∧ Below w.heap.size w w' := by
  have H1 := hid (fun W (hb : Below w.heap.size w W) => clone_any v1 rom W (h1.kept hb) (by omega))
  have H2 := hid (fun W (hb : Below w.heap.size w W) => clone_any v2 ram W (h2.kept hb) (by omega))
  obtain ⟨a1, k1, x1⟩ := slice_len h1
  obtain ⟨a2, k2, x2⟩ := slice_len h2
  have HB := hid (stA (stA (st0 w) (.cells #[v1, v2] 28)) (.cells #[.slice none 0 0, .slice none 0 0] 28)).drew
  clear h1 h2
  subst x1 x2
  go_enter Tryz.func18, Tryz.ntmps18
  go_wp2
  go_region_with (first
    | (go_at_call_of 39 (Value.slice a1 rom.length k1); refine (H1.out _ ?_).mono ?_; (first | exact HBa.out | exact HB.out); rintro e wa ⟨va, rfl, hoa, hba⟩; obtain ⟨aa, ca, rfl⟩ := own_slice hoa; obtain ⟨ka, fa⟩ := bcell hba; have sa : w.heap.size + 1 < wa.heap.size := Nat.lt_of_lt_of_le (by first | exact sb | simp) hba.size; have HBb : Hid (Below w.heap.size w wa) := (by first | exact stp HBa.out hba | exact stp HB.out hba); have HOA := hid hoa; clear hoa)
    | (go_at_call_of 39 (Value.slice a2 ram.length k2); refine (H2.out _ ?_).mono ?_; (first | exact HBb.out | exact HB.out); rintro e wb ⟨vb, rfl, hob, hbb⟩; obtain ⟨ab, cb, rfl⟩ := own_slice hob; obtain ⟨kb, fb⟩ := bcell hbb; have sb : w.heap.size + 1 < wb.heap.size := Nat.lt_of_lt_of_le (by first | exact sa | simp) hbb.size; have HBa : Hid (Below w.heap.size w wb) := (by first | exact stp HBb.out hbb | exact stp HB.out hbb); have HOB := hid hob; clear hob))
  all_goals go_wp2
  all_goals
    refine bodyPost_ret (v := .agg #[.slice aa rom.length ca, .slice ab ram.length cb]) (by simp [results, Tryz.results18, go_sem, *]) rfl ⟨_, _, rfl, ?_, ?_⟩
    · refine cop_mono (B := w.heap.size + 2) (cop_set (cop_set ?_ (by omega) _ _) (by omega) _ _) (by omega)
      first
        | exact cop_ab HOA.out HOB.out hbb (by simp) hba.size
        | exact cop_ba HOB.out HOA.out hba (by simp) hbb.size
    · first
        | exact (HBa.out.setCell (by simp) _).setCell (by simp) _
        | exact (HBb.out.setCell (by simp) _).setCell (by simp) _
theorem cop_sp {B sb : Nat} {rom ram : List UInt8} {w : World} {vR vM : Value} (h : Cop B rom ram w vR vM) (hs : shapesAt w) (hg : 2 < B) (hb : w.heap[sb]? = some (.cells #[vR, vM] 28 (0, 0))) (hB : B ≤ w.heap.size) (hf : rom.length ≤ 1024 ∧ ram.length ≤ 256) : SpI B sb vR vM rom w ram := by
  refine ⟨hs, hB, hb, h.1, h.2.1, fun k hk => ⟨h.2.2 k hk, fun e => ?_, fun e => ?_⟩, hf⟩
  · subst e
    rcases h.2.1.2 with ⟨h1, _⟩ | ⟨g, cap, cur, h1, _, hg', _⟩
    · rw [h1] at hk; cases hk
    · rw [h1] at hk
      have : g = k := Option.some.inj hk
      subst this
      rw [hg'] at hb
      simp at hb
  · subst e
    have := (h.2.1.lt _ hk).1
    omega
theorem spT_no {B sb : Nat} {rom ram ram' : List UInt8} {W : World} {vR vM : Value} (h : Cop B rom ram W vR vM) {k : Nat} (hk : k < B) (hg : 2 < k) (hs : k < sb) : ¬ spT sb vR vM ram' k := by
  rintro (x | x | x | x)
  · omega
  · omega
  · have := (h.1.lt k x).1; omega
  · have := (h.2.1.lt k x).1; omega
theorem mv_cells {B b2 : Nat} {rom ram : List UInt8} {W w3 w4 : World} {vR vM : Value} {T' : Nat → Prop} (h : Cop B rom ram W vR vM) (hm : Mv B (spT W.heap.size vR vM ram) T' w3 w4) (hb : Below W.drew.heap.size W.drew w3) (hz : b2 < W.heap.size) (hB : B ≤ b2) : (∀ k o, k < B → 2 < k → w4.cell? ⟨k, o, none⟩ = W.cell? ⟨k, o, none⟩) ∧ (∀ k o, k < B → 2 < k → w4.frozen? ⟨k, o, none⟩ = W.frozen? ⟨k, o, none⟩) := by
  have hs : W.heap.size ≤ w3.heap.size := hb.size
  refine ⟨fun k o hk hg => ?_, fun k o hk hg => ?_⟩
  · exact (hm.cell (by omega) (spT_no h hk hg (by omega)) o).trans (hb.cell (p := ⟨k, o, none⟩) (show k < W.heap.size by omega))
  · exact (hm.froz (by omega) (spT_no h hk hg (by omega)) o).trans (hb.frozen (p := ⟨k, o, none⟩) (show k < W.heap.size by omega))
theorem info_space : (Tryz.prog.info? 28).map (·.size) = some 2 := by kernel_rfl
theorem step_fin {w X : World} {B : Nat} {vR vM : Value} {rom ram : List UInt8} (L : List Value) (hb : Below w.heap.size w X) (hR : X.ownsRow B 5 1 vR rom.length (bcs rom)) (hM : X.ownsRow B 5 1 vM ram.length (bcs ram)) (hth : X.there (w.heap.size + 1 + 1) 0 L.length) (hB : w.heap.size + 1 + 1 + 1 < B) {z0 z1 : Value} (h0 : X.cell? ⟨w.heap.size + 1 + 1 + 1, 0, none⟩ = some z0) (h1 : X.cell? ⟨w.heap.size + 1 + 1 + 1, 1, none⟩ = some z1) :
    Below w.heap.size w (((X.setCells (w.heap.size + 1 + 1) 0 L).setCell ⟨w.heap.size + 1 + 1 + 1, 0, none⟩ vR).setCell ⟨w.heap.size + 1 + 1 + 1, 1, none⟩ vM).drew ∧ sliceAt (((X.setCells (w.heap.size + 1 + 1) 0 L).setCell ⟨w.heap.size + 1 + 1 + 1, 0, none⟩ vR).setCell ⟨w.heap.size + 1 + 1 + 1, 1, none⟩ vM).drew vR rom ∧ sliceAt (((X.setCells (w.heap.size + 1 + 1) 0 L).setCell ⟨w.heap.size + 1 + 1 + 1, 0, none⟩ vR).setCell ⟨w.heap.size + 1 + 1 + 1, 1, none⟩ vM).drew vM ram ∧
      (((X.setCells (w.heap.size + 1 + 1) 0 L).setCell ⟨w.heap.size + 1 + 1 + 1, 0, none⟩ vR).setCell ⟨w.heap.size + 1 + 1 + 1, 1, none⟩ vM).drew.rangeAt (w.heap.size + 1 + 1) 0 L ∧ (((X.setCells (w.heap.size + 1 + 1) 0 L).setCell ⟨w.heap.size + 1 + 1 + 1, 0, none⟩ vR).setCell ⟨w.heap.size + 1 + 1 + 1, 1, none⟩ vM).drew.rangeAt (w.heap.size + 1 + 1 + 1) 0 [vR, vM] := by
  have hh := setCells_heap (w.heap.size + 1 + 1) L 0 X
  have hbl := below_setCells (n := w.heap.size) (a := w) (b := w.heap.size + 1 + 1) (by omega) L 0 X hb
  have hr := World.rangeAt_setCells_same X (w.heap.size + 1 + 1) 0 L hth
  have c0 : (X.setCells (w.heap.size + 1 + 1) 0 L).cell? ⟨w.heap.size + 1 + 1 + 1, 0, none⟩ = some z0 := (World.cell?_of_block (w := X) (hh (w.heap.size + 1 + 1 + 1) (by omega))).trans h0
  have c1 : (X.setCells (w.heap.size + 1 + 1) 0 L).cell? ⟨w.heap.size + 1 + 1 + 1, 1, none⟩ = some z1 := (World.cell?_of_block (w := X) (hh (w.heap.size + 1 + 1 + 1) (by omega))).trans h1
  generalize X.setCells (w.heap.size + 1 + 1) 0 L = U at hh hbl hr c0 c1 ⊢
  have ho : ∀ k, k ≠ w.heap.size + 1 + 1 → k ≠ w.heap.size + 1 + 1 + 1 → (((U.setCell ⟨w.heap.size + 1 + 1 + 1, 0, none⟩ vR).setCell ⟨w.heap.size + 1 + 1 + 1, 1, none⟩ vM).drew).heap[k]? = X.heap[k]? := fun k a b => (Below.heap_setCell _ _ _ _ b).trans ((Below.heap_setCell _ _ _ _ b).trans (hh k a))
  refine ⟨((hbl.setCell (by simp; omega) _).setCell (by simp; omega) _).drew, slice_of_own (own_of_block hR (fun k hk => ho k (by have := (hR.lt k hk).1; omega) (by have := (hR.lt k hk).1; omega))), slice_of_own (own_of_block hM (fun k hk => ho k (by have := (hM.lt k hk).1; omega) (by have := (hM.lt k hk).1; omega))), fun j v hj => ?_, fun j v hj => ?_⟩
  · exact (World.cell?_setCell_far _ _ _ _ (by simp)).trans ((World.cell?_setCell_far _ _ _ _ (by simp)).trans (hr j v hj))
  · have e0 := World.cell?_setCell_same U _ vR c0
    have e1 : (U.setCell ⟨w.heap.size + 1 + 1 + 1, 0, none⟩ vR).cell? ⟨w.heap.size + 1 + 1 + 1, 1, none⟩ = some z1 := (World.cell?_setCell_other _ _ _ _ (by simp)).trans c1
    match j, hj with
    | 0, hj => cases hj; exact (World.cell?_setCell_other _ _ _ _ (by simp)).trans e0
    | 1, hj => cases hj; exact World.cell?_setCell_same _ _ _ e1
theorem fnew (W : World) (b i : Nat) (cs : Array Value) {t : TypeId} (h : b = W.heap.size) : (W.alloc (.cells cs t)).frozen? ⟨b, i, none⟩ = false := by
  subst h
  exact Lib.frozen_of_heap (heap_alloc_new W _) i
theorem c4 (w : World) (cs : Array Value) (t : TypeId) (o1 o2 o3 : Obj) (n : Nat) : ((((w.alloc (.cells cs t)).alloc o1).alloc o2).alloc o3).cell? ⟨w.heap.size, n, none⟩ = cs[n]? := by
  rw [World.cell?_alloc_lt _ _ _ (by simp <;> omega), World.cell?_alloc_lt _ _ _ (by simp <;> omega), World.cell?_alloc_lt _ _ _ (by simp)]
  exact cell_new _ _ _ _ rfl
theorem f4 (w : World) (cs : Array Value) (t : TypeId) (o1 o2 o3 : Obj) (n : Nat) : ((((w.alloc (.cells cs t)).alloc o1).alloc o2).alloc o3).frozen? ⟨w.heap.size, n, none⟩ = false := by
  refine (World.frozen?_of_block (w := w.alloc (.cells cs t)) ?_).trans (Lib.frozen_of_heap (heap_alloc_new w _) n)
  exact (heap_alloc_old _ _ (by simp <;> omega)).trans ((heap_alloc_old _ _ (by simp <;> omega)).trans (heap_alloc_old _ _ (by simp)))
set_option maxRecDepth 100000 in
set_option maxHeartbeats 3200000 in
theorem step_ok (c : C.Cpu) (hc : c.ok) (v1 v2 : Value) (rom ram : List UInt8) (r : Bool) (w : World) (h1 : sliceAt w v1 rom) (h2 : sliceAt w v2 ram) (hl1 : rom.length ≤ 1024) (hl2 : ram.length ≤ 256) (hs : shapesAt w) :
    Calls Tryz.prog 6 #[cpuV c, .agg #[v1, v2], .bool r] w fun e w' => ∃ vR vM, e = .returned (.tuple #[cpuV (C.step (spc rom) c ram r).c, .agg #[vR, vM], .int .i64 (C.step (spc rom) c ram r).n, .int .i64 0]) ∧ sliceAt w' vR rom ∧ sliceAt w' vM (C.step (spc rom) c ram r).s ∧ (C.step (spc rom) c ram r).c.ok ∧ Below w.heap.size w w' := by
  obtain ⟨y, hy⟩ : ∃ y, C.step (spc rom) c ram r = y := ⟨_, rfl⟩
  rw [hy]
  have HY := hid hy
  clear hy
  have H1 := hid h1
  have H2 := hid h2
  obtain ⟨a1, k1, x1⟩ := slice_len h1
  obtain ⟨a2, k2, x2⟩ := slice_len h2
  subst x1 x2
  have HS := hid hs
  have HC := hid hc
  have HCK := fun W : World => hid (chk_any a1 a2 rom.length ram.length k1 k2 W)
  rw [if_neg (by omega)] at HCK
  clear h1 h2 hs hc
  go_enter Tryz.func6, Tryz.ntmps6
  go_wp2_with (first
    | (go_at_call 8; refine (HCK _).out.mono ?_; rintro e w1 ⟨rfl, hb1⟩; have hbA := hid (stp (stA (stA (stA (stA (st0 w) _) _) _) _) hb1); obtain ⟨kk1, ff1⟩ := bcell hb1; have z1 : w.heap.size + 1 + 1 + 1 < w1.heap.size := Nat.lt_of_lt_of_le (by simp) hb1.size)
    | (go_at_call 18; refine (copyOf_any _ _ rom ram _ (H1.out.kept hbA.out) (H2.out.kept hbA.out) hl1 hl2).mono ?_; rintro e w2 ⟨vR, vM, rfl, hcop, hb2⟩; obtain ⟨aR, cR, rfl⟩ := own_slice hcop.1; obtain ⟨aM, cM, rfl⟩ := own_slice hcop.2.1; have HCOP := hid hcop; have hbB := hid (stp hbA.out hb2); obtain ⟨kk2, ff2⟩ := bcell hb2; have z2 := Nat.lt_of_lt_of_le z1 hb2.size; clear hcop))
  have hg := HS.out.lt
  refine cutW (fun W => Below w.heap.size w W ∧ Cop w1.heap.size rom ram W (.slice aR rom.length cR) (.slice aM ram.length cM) ∧ w2.heap.size < W.heap.size ∧ W.cell? ⟨w2.heap.size, 0, none⟩ = some (.slice aR rom.length cR) ∧ W.cell? ⟨w2.heap.size, 1, none⟩ = some (.slice aM ram.length cM) ∧ (∀ k o, k < w1.heap.size → W.cell? ⟨k, o, none⟩ = w1.cell? ⟨k, o, none⟩) ∧ (∀ k o, k < w1.heap.size → W.frozen? ⟨k, o, none⟩ = w1.frozen? ⟨k, o, none⟩) ∧ (∀ k, (Value.slice aR rom.length cR).ownBlock = some k ∨ (Value.slice aM ram.length cM).ownBlock = some k → k < w2.heap.size)) ⟨stA hbB.out _, ⟨own_kept HCOP.out.1 (stA (st0 _) _), own_kept HCOP.out.2.1 (stA (st0 _) _), HCOP.out.2.2⟩, by simp, by simp, by simp, fun k o hk => (World.cell?_alloc_lt _ _ _ (Nat.lt_of_lt_of_le hk hb2.size)).trans (kk2 k o hk), fun k o hk => (World.frozen?_of_block (w := w2) (heap_alloc_old _ _ (Nat.lt_of_lt_of_le hk hb2.size))).trans (ff2 k o hk), fun k hk => hk.elim (fun x => (HCOP.out.1.lt k x).2) (fun x => (HCOP.out.2.1.lt k x).2)⟩ ?_
  have hz4 : w.heap.size < ((((w.alloc (.cells #[.int .u16 (c.r 0), .int .u16 (c.r 1), .int .u16 (c.r 2), .int .u16 (c.r 3), .int .u16 (c.r 4), .int .u16 (c.r 5), .int .u16 (c.r 6), .int .u16 (c.r 7), .int .u16 c.PC, .bool c.Z, .bool c.N, .bool c.C, .bool c.V, .bool c.May, .bool c.Waits] 25)).alloc (.cells #[.slice a1 rom.length k1, .slice a2 ram.length k2] 28)).alloc (.cells #[.int .u16 0, .int .u16 0, .int .u16 0, .int .u16 0, .int .u16 0, .int .u16 0, .int .u16 0, .int .u16 0, .int .u16 0, .bool false, .bool false, .bool false, .bool false, .bool false, .bool false] 25)).alloc (.cells #[.slice none 0 0, .slice none 0 0] 28)).heap.size := by simp <;> omega
  have hs12 := hb2.size
  have HK1 := hid kk1
  have HF1 := hid ff1
  clear kk2 ff2 kk1 ff1 hb2 HCOP hbB
  rintro W ⟨hbW, hcop, hzW, o0, o1, hcW, hfW, hrows⟩
  have HRW := hid hrows
  clear hrows
  have HBW := hid hbW
  have HCOP := hid hcop
  have HCW := hid hcW
  have HFW := hid hfW
  have e0 : W.cell? ⟨w.heap.size, 0, none⟩ = some (.int .u16 (c.r 0)) := (hcW (w.heap.size) 0 (by omega)).trans ((HK1.out (w.heap.size) 0 hz4).trans (c4 _ _ _ _ _ _ _))
  have e1 : W.cell? ⟨w.heap.size, 1, none⟩ = some (.int .u16 (c.r 1)) := (hcW (w.heap.size) 1 (by omega)).trans ((HK1.out (w.heap.size) 1 hz4).trans (c4 _ _ _ _ _ _ _))
  have e2 : W.cell? ⟨w.heap.size, 2, none⟩ = some (.int .u16 (c.r 2)) := (hcW (w.heap.size) 2 (by omega)).trans ((HK1.out (w.heap.size) 2 hz4).trans (c4 _ _ _ _ _ _ _))
  have e3 : W.cell? ⟨w.heap.size, 3, none⟩ = some (.int .u16 (c.r 3)) := (hcW (w.heap.size) 3 (by omega)).trans ((HK1.out (w.heap.size) 3 hz4).trans (c4 _ _ _ _ _ _ _))
  have e4 : W.cell? ⟨w.heap.size, 4, none⟩ = some (.int .u16 (c.r 4)) := (hcW (w.heap.size) 4 (by omega)).trans ((HK1.out (w.heap.size) 4 hz4).trans (c4 _ _ _ _ _ _ _))
  have e5 : W.cell? ⟨w.heap.size, 5, none⟩ = some (.int .u16 (c.r 5)) := (hcW (w.heap.size) 5 (by omega)).trans ((HK1.out (w.heap.size) 5 hz4).trans (c4 _ _ _ _ _ _ _))
  have e6 : W.cell? ⟨w.heap.size, 6, none⟩ = some (.int .u16 (c.r 6)) := (hcW (w.heap.size) 6 (by omega)).trans ((HK1.out (w.heap.size) 6 hz4).trans (c4 _ _ _ _ _ _ _))
  have e7 : W.cell? ⟨w.heap.size, 7, none⟩ = some (.int .u16 (c.r 7)) := (hcW (w.heap.size) 7 (by omega)).trans ((HK1.out (w.heap.size) 7 hz4).trans (c4 _ _ _ _ _ _ _))
  have e8 : W.cell? ⟨w.heap.size, 8, none⟩ = some (.int .u16 c.PC) := (hcW (w.heap.size) 8 (by omega)).trans ((HK1.out (w.heap.size) 8 hz4).trans (c4 _ _ _ _ _ _ _))
  have e9 : W.cell? ⟨w.heap.size, 9, none⟩ = some (.bool c.Z) := (hcW (w.heap.size) 9 (by omega)).trans ((HK1.out (w.heap.size) 9 hz4).trans (c4 _ _ _ _ _ _ _))
  have e10 : W.cell? ⟨w.heap.size, 10, none⟩ = some (.bool c.N) := (hcW (w.heap.size) 10 (by omega)).trans ((HK1.out (w.heap.size) 10 hz4).trans (c4 _ _ _ _ _ _ _))
  have e11 : W.cell? ⟨w.heap.size, 11, none⟩ = some (.bool c.C) := (hcW (w.heap.size) 11 (by omega)).trans ((HK1.out (w.heap.size) 11 hz4).trans (c4 _ _ _ _ _ _ _))
  have e12 : W.cell? ⟨w.heap.size, 12, none⟩ = some (.bool c.V) := (hcW (w.heap.size) 12 (by omega)).trans ((HK1.out (w.heap.size) 12 hz4).trans (c4 _ _ _ _ _ _ _))
  have e13 : W.cell? ⟨w.heap.size, 13, none⟩ = some (.bool c.May) := (hcW (w.heap.size) 13 (by omega)).trans ((HK1.out (w.heap.size) 13 hz4).trans (c4 _ _ _ _ _ _ _))
  have e14 : W.cell? ⟨w.heap.size, 14, none⟩ = some (.bool c.Waits) := (hcW (w.heap.size) 14 (by omega)).trans ((HK1.out (w.heap.size) 14 hz4).trans (c4 _ _ _ _ _ _ _))
  have ef : ∀ o, W.frozen? ⟨w.heap.size, o, none⟩ = false := fun o => (hfW (w.heap.size) o (by omega)).trans ((HF1.out (w.heap.size) o hz4).trans (f4 _ _ _ _ _ _ _))
  clear hbW hcop hcW hfW
  have HD := hid (fun (sb : Nat) (X : World) (hI : SpI w1.heap.size sb (.slice aR rom.length cR) (.slice aM ram.length cM) rom X ram) => do_any (space_rs w1.heap.size sb (.slice aR rom.length cR) (.slice aM ram.length cM) rom) r X c ram HC.out hI)
  rw [HY.out] at HD
  have HSW : Hid (shapesAt W) := HS.out.kept HBW.out
  go_region_with (first
    | (go_at_call 20; refine (reachOf_any _ _ aR aM rom.length ram.length cR cM rfl rfl _).mono ?_; rintro e w3 ⟨rfl, hx3, hb3⟩; obtain ⟨k3, f3⟩ := bcell hb3; have z3 := Nat.lt_of_lt_of_le hzW hb3.size; have z30 : w.heap.size < W.heap.size := Nat.lt_trans (by omega) hzW; have z33 : w.heap.size < w3.heap.size := Nat.lt_of_lt_of_le z30 hb3.size; have q0 := (k3 (w.heap.size) 0 z30).trans e0; have q1 := (k3 (w.heap.size) 1 z30).trans e1; have q2 := (k3 (w.heap.size) 2 z30).trans e2; have q3 := (k3 (w.heap.size) 3 z30).trans e3; have q4 := (k3 (w.heap.size) 4 z30).trans e4; have q5 := (k3 (w.heap.size) 5 z30).trans e5; have q6 := (k3 (w.heap.size) 6 z30).trans e6; have q7 := (k3 (w.heap.size) 7 z30).trans e7; have q8 := (k3 (w.heap.size) 8 z30).trans e8; have q9 := (k3 (w.heap.size) 9 z30).trans e9; have q10 := (k3 (w.heap.size) 10 z30).trans e10; have q11 := (k3 (w.heap.size) 11 z30).trans e11; have q12 := (k3 (w.heap.size) 12 z30).trans e12; have q13 := (k3 (w.heap.size) 13 z30).trans e13; have q14 := (k3 (w.heap.size) 14 z30).trans e14; have HX3 := hid hx3; clear hx3 k3 f3)
    | (go_at_call 19; refine (HD.out W.heap.size _ ?_).mono ?_; (exact cop_sp ⟨own_kept HCOP.out.1 (stp (st0 W).drew hb3), own_kept HCOP.out.2.1 (stp (st0 W).drew hb3), HCOP.out.2.2⟩ (HSW.out.kept (stp (st0 W).drew hb3)) (by omega) HX3.out (by omega) ⟨hl1, hl2⟩); rintro e w4 ⟨rfl, hI4, hm4, hok4⟩; have hMc := mv_cells HCOP.out hm4 hb3 hzW hs12; have p0 := (hMc.1 (w.heap.size) 0 (by omega) (by omega)).trans e0; have p1 := (hMc.1 (w.heap.size) 1 (by omega) (by omega)).trans e1; have p2 := (hMc.1 (w.heap.size) 2 (by omega) (by omega)).trans e2; have p3 := (hMc.1 (w.heap.size) 3 (by omega) (by omega)).trans e3; have p4 := (hMc.1 (w.heap.size) 4 (by omega) (by omega)).trans e4; have p5 := (hMc.1 (w.heap.size) 5 (by omega) (by omega)).trans e5; have p6 := (hMc.1 (w.heap.size) 6 (by omega) (by omega)).trans e6; have p7 := (hMc.1 (w.heap.size) 7 (by omega) (by omega)).trans e7; have p8 := (hMc.1 (w.heap.size) 8 (by omega) (by omega)).trans e8; have p9 := (hMc.1 (w.heap.size) 9 (by omega) (by omega)).trans e9; have p10 := (hMc.1 (w.heap.size) 10 (by omega) (by omega)).trans e10; have p11 := (hMc.1 (w.heap.size) 11 (by omega) (by omega)).trans e11; have p12 := (hMc.1 (w.heap.size) 12 (by omega) (by omega)).trans e12; have p13 := (hMc.1 (w.heap.size) 13 (by omega) (by omega)).trans e13; have p14 := (hMc.1 (w.heap.size) 14 (by omega) (by omega)).trans e14; have pf := fun o => (hMc.2 (w.heap.size) o (by omega) (by omega)).trans (ef o); have z4 : w.heap.size < w4.heap.size := Nat.lt_of_lt_of_le (Nat.lt_of_lt_of_le z30 hb3.size) hm4.size; have HMC := hid hMc; have HM4 := hid hm4; have HI4 := hid hI4; clear hMc hm4 hI4))
  all_goals go_wp2
  all_goals
    rw [nested_eq]
    refine cutW (fun X => Below w.heap.size w X ∧ X.ownsRow w1.heap.size 5 1 (.slice aR rom.length cR) rom.length (bcs rom) ∧ X.ownsRow w1.heap.size 5 1 (.slice aM ram.length cM) y.s.length (bcs y.s) ∧ X.there (w.heap.size + 1 + 1) 0 15 ∧ w.heap.size + 1 + 1 + 1 < X.heap.size ∧ w2.heap.size < X.heap.size ∧ X.cell? ⟨w2.heap.size, 0, none⟩ = some (.slice aR rom.length cR) ∧ X.cell? ⟨w2.heap.size, 1, none⟩ = some (.slice aM ram.length cM) ∧ X.cell? ⟨w.heap.size + 1 + 1 + 1, 0, none⟩ = some (.slice none 0 0) ∧ X.cell? ⟨w.heap.size + 1 + 1 + 1, 1, none⟩ = some (.slice none 0 0) ∧ (∀ o, X.frozen? ⟨w.heap.size + 1 + 1, o, none⟩ = false) ∧ (∀ o, X.frozen? ⟨w.heap.size + 1 + 1 + 1, o, none⟩ = false) ∧ (X.cell? ⟨w.heap.size, 0, none⟩ = some (.int .u16 (y.c.r 0)) ∧ X.cell? ⟨w.heap.size, 1, none⟩ = some (.int .u16 (y.c.r 1)) ∧ X.cell? ⟨w.heap.size, 2, none⟩ = some (.int .u16 (y.c.r 2)) ∧ X.cell? ⟨w.heap.size, 3, none⟩ = some (.int .u16 (y.c.r 3)) ∧ X.cell? ⟨w.heap.size, 4, none⟩ = some (.int .u16 (y.c.r 4)) ∧ X.cell? ⟨w.heap.size, 5, none⟩ = some (.int .u16 (y.c.r 5)) ∧ X.cell? ⟨w.heap.size, 6, none⟩ = some (.int .u16 (y.c.r 6)) ∧ X.cell? ⟨w.heap.size, 7, none⟩ = some (.int .u16 (y.c.r 7)) ∧ X.cell? ⟨w.heap.size, 8, none⟩ = some (.int .u16 y.c.PC) ∧ X.cell? ⟨w.heap.size, 9, none⟩ = some (.bool y.c.Z) ∧ X.cell? ⟨w.heap.size, 10, none⟩ = some (.bool y.c.N) ∧ X.cell? ⟨w.heap.size, 11, none⟩ = some (.bool y.c.C) ∧ X.cell? ⟨w.heap.size, 12, none⟩ = some (.bool y.c.V) ∧ X.cell? ⟨w.heap.size, 13, none⟩ = some (.bool y.c.May) ∧ X.cell? ⟨w.heap.size, 14, none⟩ = some (.bool y.c.Waits)) ∧ (X.cell? ⟨w.heap.size + 1 + 1, 0, none⟩ = some (.int .u16 0) ∧ X.cell? ⟨w.heap.size + 1 + 1, 1, none⟩ = some (.int .u16 0) ∧ X.cell? ⟨w.heap.size + 1 + 1, 2, none⟩ = some (.int .u16 0) ∧ X.cell? ⟨w.heap.size + 1 + 1, 3, none⟩ = some (.int .u16 0) ∧ X.cell? ⟨w.heap.size + 1 + 1, 4, none⟩ = some (.int .u16 0) ∧ X.cell? ⟨w.heap.size + 1 + 1, 5, none⟩ = some (.int .u16 0) ∧ X.cell? ⟨w.heap.size + 1 + 1, 6, none⟩ = some (.int .u16 0) ∧ X.cell? ⟨w.heap.size + 1 + 1, 7, none⟩ = some (.int .u16 0) ∧ X.cell? ⟨w.heap.size + 1 + 1, 8, none⟩ = some (.int .u16 0) ∧ X.cell? ⟨w.heap.size + 1 + 1, 9, none⟩ = some (.bool false) ∧ X.cell? ⟨w.heap.size + 1 + 1, 10, none⟩ = some (.bool false) ∧ X.cell? ⟨w.heap.size + 1 + 1, 11, none⟩ = some (.bool false) ∧ X.cell? ⟨w.heap.size + 1 + 1, 12, none⟩ = some (.bool false) ∧ X.cell? ⟨w.heap.size + 1 + 1, 13, none⟩ = some (.bool false) ∧ X.cell? ⟨w.heap.size + 1 + 1, 14, none⟩ = some (.bool false))) ?_ ?_
    · have hg1 : 2 < w.heap.size := hg
      have hzA : ∀ k, k < w.heap.size + 1 + 1 + 1 + 1 → k < (((((w.alloc (.cells #[.int .u16 (c.r 0), .int .u16 (c.r 1), .int .u16 (c.r 2), .int .u16 (c.r 3), .int .u16 (c.r 4), .int .u16 (c.r 5), .int .u16 (c.r 6), .int .u16 (c.r 7), .int .u16 c.PC, .bool c.Z, .bool c.N, .bool c.C, .bool c.V, .bool c.May, .bool c.Waits] 25)).alloc (.cells #[.slice a1 rom.length k1, .slice a2 ram.length k2] 28))).alloc (.cells #[.int .u16 0, .int .u16 0, .int .u16 0, .int .u16 0, .int .u16 0, .int .u16 0, .int .u16 0, .int .u16 0, .int .u16 0, .bool false, .bool false, .bool false, .bool false, .bool false, .bool false] 25)).alloc (.cells #[.slice none 0 0, .slice none 0 0] 28)).heap.size := fun k hk => by simp <;> omega
      have hcell : ∀ k o, w.heap.size ≤ k → k < w.heap.size + 1 + 1 + 1 + 1 → w4.cell? ⟨k, o, none⟩ = (((((w.alloc (.cells #[.int .u16 (c.r 0), .int .u16 (c.r 1), .int .u16 (c.r 2), .int .u16 (c.r 3), .int .u16 (c.r 4), .int .u16 (c.r 5), .int .u16 (c.r 6), .int .u16 (c.r 7), .int .u16 c.PC, .bool c.Z, .bool c.N, .bool c.C, .bool c.V, .bool c.May, .bool c.Waits] 25)).alloc (.cells #[.slice a1 rom.length k1, .slice a2 ram.length k2] 28))).alloc (.cells #[.int .u16 0, .int .u16 0, .int .u16 0, .int .u16 0, .int .u16 0, .int .u16 0, .int .u16 0, .int .u16 0, .int .u16 0, .bool false, .bool false, .bool false, .bool false, .bool false, .bool false] 25)).alloc (.cells #[.slice none 0 0, .slice none 0 0] 28)).cell? ⟨k, o, none⟩ := fun k o h1 h2 => (HMC.out.1 k o (by omega) (by omega)).trans ((HCW.out k o (by omega)).trans (HK1.out k o (hzA k h2)))
      have hfroz : ∀ k o, w.heap.size ≤ k → k < w.heap.size + 1 + 1 + 1 + 1 → w4.frozen? ⟨k, o, none⟩ = (((((w.alloc (.cells #[.int .u16 (c.r 0), .int .u16 (c.r 1), .int .u16 (c.r 2), .int .u16 (c.r 3), .int .u16 (c.r 4), .int .u16 (c.r 5), .int .u16 (c.r 6), .int .u16 (c.r 7), .int .u16 c.PC, .bool c.Z, .bool c.N, .bool c.C, .bool c.V, .bool c.May, .bool c.Waits] 25)).alloc (.cells #[.slice a1 rom.length k1, .slice a2 ram.length k2] 28))).alloc (.cells #[.int .u16 0, .int .u16 0, .int .u16 0, .int .u16 0, .int .u16 0, .int .u16 0, .int .u16 0, .int .u16 0, .int .u16 0, .bool false, .bool false, .bool false, .bool false, .bool false, .bool false] 25)).alloc (.cells #[.slice none 0 0, .slice none 0 0] 28)).frozen? ⟨k, o, none⟩ := fun k o h1 h2 => (HMC.out.2 k o (by omega) (by omega)).trans ((HFW.out k o (by omega)).trans (HF1.out k o (hzA k h2)))
      have hth : w4.there w.heap.size 0 (cpuL y.c).length := fun j hj => by
        rw [hcell _ _ (Nat.le_refl _) (by omega), hfroz _ _ (Nat.le_refl _) (by omega), c4, f4]
        have hj' : j < 15 := hj
        refine ⟨?_, rfl⟩
        rw [Array.getElem?_eq_getElem (by simp; omega)]
        rfl
      have hr := World.rangeAt_setCells_same w4 w.heap.size 0 (cpuL y.c) hth
      have hout : ∀ k o, k ≠ w.heap.size → (w4.setCells w.heap.size 0 (cpuL y.c)).cell? ⟨k, o, none⟩ = w4.cell? ⟨k, o, none⟩ := fun k o h => World.cell?_setCells_out _ _ _ _ _ (fun e => absurd e h)
      have hoh := setCells_heap w.heap.size (cpuL y.c) 0 w4
      have hos := setCells_size w.heap.size (cpuL y.c) 0 w4
      have hbl := below_setCells (n := w.heap.size) (a := w) (b := w.heap.size) (Nat.le_refl _) (cpuL y.c) 0 w4 ((stp HBW.out.drew hb3).trans (HM4.out.below.mono (by omega)))
      generalize w4.setCells w.heap.size 0 (cpuL y.c) = X at hr hout hoh hos hbl ⊢
      have hs4 : w3.heap.size ≤ w4.heap.size := HM4.out.size
      have hs3 : W.heap.size ≤ w3.heap.size := hb3.size
      have hnT : ¬ spT W.heap.size (.slice aR rom.length cR) (.slice aM ram.length cM) ram w2.heap.size := by
        rintro (x | x | x | x)
        · omega
        · omega
        · have := HRW.out _ (Or.inl x); omega
        · have := HRW.out _ (Or.inr x); omega
      have hoc : ∀ o, X.cell? ⟨w2.heap.size, o, none⟩ = W.cell? ⟨w2.heap.size, o, none⟩ := fun o => (hout _ o (by omega)).trans ((HM4.out.cell (by omega) hnT o).trans (hb3.cell (p := ⟨w2.heap.size, o, none⟩) (show w2.heap.size < W.heap.size from hzW)))
      have hz2 : ∀ o v, (#[.int .u16 0, .int .u16 0, .int .u16 0, .int .u16 0, .int .u16 0, .int .u16 0, .int .u16 0, .int .u16 0, .int .u16 0, .bool false, .bool false, .bool false, .bool false, .bool false, .bool false] : Array Value)[o]? = some v → X.cell? ⟨w.heap.size + 1 + 1, o, none⟩ = some v := fun o v hv => (hout _ o (by omega)).trans ((hcell _ o (by omega) (by omega)).trans ((qz _ _ _ _ _ (by simp)).trans hv))
      have hz3 : ∀ o v, (#[.slice none 0 0, .slice none 0 0] : Array Value)[o]? = some v → X.cell? ⟨w.heap.size + 1 + 1 + 1, o, none⟩ = some v := fun o v hv => (hout _ o (by omega)).trans ((hcell _ o (by omega) (by omega)).trans ((cell_new _ _ _ _ (by simp)).trans hv))
      have hf2 : ∀ o, X.frozen? ⟨w.heap.size + 1 + 1, o, none⟩ = false := fun o => (World.frozen?_of_block (w := w4) (hoh (w.heap.size + 1 + 1) (by omega))).trans ((hfroz _ o (by omega) (by omega)).trans (qzf _ _ _ _ _ (by simp)))
      have hf3 : ∀ o, X.frozen? ⟨w.heap.size + 1 + 1 + 1, o, none⟩ = false := fun o => (World.frozen?_of_block (w := w4) (hoh (w.heap.size + 1 + 1 + 1) (by omega))).trans ((hfroz _ o (by omega) (by omega)).trans (fnew _ _ _ _ (by simp)))
      have hth2 : X.there (w.heap.size + 1 + 1) 0 15 := fun j hj => ⟨by rw [Nat.zero_add, hz2 j _ (Array.getElem?_eq_getElem (by simp; omega))]; rfl, by rw [Nat.zero_add]; exact hf2 j⟩
      exact ⟨hbl, own_of_block HI4.out.hrom (fun k hk => hoh k (by have := (HI4.out.hrom.lt k hk).1; omega)), own_of_block HI4.out.hram (fun k hk => hoh k (by have := (HI4.out.hram.lt k hk).1; omega)), hth2, by omega, by omega, (hoc 0).trans o0, (hoc 1).trans o1, hz3 0 _ rfl, hz3 1 _ rfl, hf2, hf3, ⟨hr 0 _ rfl, hr 1 _ rfl, hr 2 _ rfl, hr 3 _ rfl, hr 4 _ rfl, hr 5 _ rfl, hr 6 _ rfl, hr 7 _ rfl, hr 8 _ rfl, hr 9 _ rfl, hr 10 _ rfl, hr 11 _ rfl, hr 12 _ rfl, hr 13 _ rfl, hr 14 _ rfl⟩, ⟨hz2 0 _ rfl, hz2 1 _ rfl, hz2 2 _ rfl, hz2 3 _ rfl, hz2 4 _ rfl, hz2 5 _ rfl, hz2 6 _ rfl, hz2 7 _ rfl, hz2 8 _ rfl, hz2 9 _ rfl, hz2 10 _ rfl, hz2 11 _ rfl, hz2 12 _ rfl, hz2 13 _ rfl, hz2 14 _ rfl⟩⟩
    · clear e0 e1 e2 e3 e4 e5 e6 e7 e8 e9 e10 e11 e12 e13 e14 ef p0 p1 p2 p3 p4 p5 p6 p7 p8 p9 p10 p11 p12 p13 p14 pf q0 q1 q2 q3 q4 q5 q6 q7 q8 q9 q10 q11 q12 q13 q14 o0 o1 HMC HM4 HI4 hb3 HX3 HK1 HF1 HCW HFW HCOP HD
      rintro X ⟨hbX, hsR, hsM, hth2, hX3, hX2, r0, r1, s0, s1, gf2, gf3, ⟨u0, u1, u2, u3, u4, u5, u6, u7, u8, u9, u10, u11, u12, u13, u14⟩, ⟨t0, t1, t2, t3, t4, t5, t6, t7, t8, t9, t10, t11, t12, t13, t14⟩⟩
      have HBX := hid hbX
      have HSR := hid hsR
      have HSM := hid hsM
      have HT2 := hid hth2
      have HG3 := hid gf3
      have HS0 := hid s0
      have HS1 := hid s1
      have n1 : w.heap.size ≠ w.heap.size + 1 + 1 := by omega
      have n2 : w2.heap.size ≠ w.heap.size + 1 + 1 := by omega
      have n3 : w2.heap.size ≠ w.heap.size + 1 + 1 + 1 := by omega
      have m1 : ¬ (w.heap.size + 1 + 1 = w.heap.size) := by omega
      have m2 : ¬ (w.heap.size + 1 + 1 = w2.heap.size) := by omega
      have m3 : ¬ (w.heap.size + 1 + 1 + 1 = w.heap.size) := by omega
      have m4 : ¬ (w.heap.size + 1 + 1 + 1 = w2.heap.size) := by omega
      have n4 : w.heap.size < X.heap.size := by omega
      have n5 : w.heap.size + 1 + 1 < X.heap.size := by omega
      clear hbX hsR hsM hth2
      go_region_held3 (fun w' => w'.cell? ⟨w.heap.size, 0, none⟩ = some (.int .u16 (y.c.r 0)) ∧ w'.cell? ⟨w.heap.size, 1, none⟩ = some (.int .u16 (y.c.r 1)) ∧ w'.cell? ⟨w.heap.size, 2, none⟩ = some (.int .u16 (y.c.r 2)) ∧ w'.cell? ⟨w.heap.size, 3, none⟩ = some (.int .u16 (y.c.r 3)) ∧ w'.cell? ⟨w.heap.size, 4, none⟩ = some (.int .u16 (y.c.r 4)) ∧ w'.cell? ⟨w.heap.size, 5, none⟩ = some (.int .u16 (y.c.r 5)) ∧ w'.cell? ⟨w.heap.size, 6, none⟩ = some (.int .u16 (y.c.r 6)) ∧ w'.cell? ⟨w.heap.size, 7, none⟩ = some (.int .u16 (y.c.r 7)) ∧ w'.cell? ⟨w.heap.size, 8, none⟩ = some (.int .u16 y.c.PC) ∧ w'.cell? ⟨w.heap.size, 9, none⟩ = some (.bool y.c.Z) ∧ w'.cell? ⟨w.heap.size, 10, none⟩ = some (.bool y.c.N) ∧ w'.cell? ⟨w.heap.size, 11, none⟩ = some (.bool y.c.C) ∧ w'.cell? ⟨w.heap.size, 12, none⟩ = some (.bool y.c.V) ∧ w'.cell? ⟨w.heap.size, 13, none⟩ = some (.bool y.c.May) ∧ w'.cell? ⟨w.heap.size, 14, none⟩ = some (.bool y.c.Waits) ∧ w'.cell? ⟨w2.heap.size, 0, none⟩ = some (.slice aR rom.length cR) ∧ w'.cell? ⟨w2.heap.size, 1, none⟩ = some (.slice aM ram.length cM))
        ((go_keep; done))
        (fail)
      go_wp2
      rw [nested_eq]
      refine cutB (fun Y => Below w.heap.size w Y ∧ sliceAt Y (.slice aR rom.length cR) rom ∧ sliceAt Y (.slice aM ram.length cM) y.s ∧ Y.rangeAt (w.heap.size + 1 + 1) 0 (cpuL y.c) ∧ Y.rangeAt (w.heap.size + 1 + 1 + 1) 0 [(.slice aR rom.length cR), (.slice aM ram.length cM)]) (step_fin (cpuL y.c) HBX.out HSR.out HSM.out HT2.out (by omega) HS0.out HS1.out) ?_
      rintro Y ⟨hbY, hsR, hsM, hrA, hrB⟩
      have hl := load_cpu Y _ y.c hrA
      have hl2 := run_loadVar_mid (P := Tryz.prog) Y _ 0 28 _ _ hrB Tryz.underlying28 rfl info_space
      refine bodyPost_ret (v := .tuple #[cpuV y.c, .agg #[(.slice aR rom.length cR), (.slice aM ram.length cM)], .int .i64 y.n, .int .i64 0]) ?_ rfl ⟨_, _, rfl, hsR, hsM, hok4, hbY⟩
      simp only [results, Tryz.results6]
      simp
      show (Result.andThen (Sem.run Tryz.prog (loadVar 25 ⟨w.heap.size + 1 + 1, 0, none⟩) Y) _) = _
      rw [hl]
      show (Result.andThen (Sem.run Tryz.prog (loadVar 28 ⟨w.heap.size + 1 + 1 + 1, 0, none⟩) Y) _) = _
      rw [hl2]
      rfl
end Go.Proofs.YtombboeonffejaaGreatDoor
