/-
  What package asm's reader lays for the names that are used, where each of them stands somewhere.
-/
import Derived.Test.YtdjhlfoapieohaaGreatDoorAsmN
import Derived.Deep.RegionHeld3
import Derived.Deep.QuietTactic
import Derived.BigQuiet
namespace Go.Proofs.YtdjhlfoapieohaaGreatDoor
open Go.ChangeShapes Go.WideShapes Go.ChangeAt Go.RowKit
set_option linter.unusedVariables false

/-! ### what holds of what a reader has read -/
def Inv (st : S.St) : Prop := st.rom.length ≤ 1024 ∧ (∀ u ∈ st.uses, u.2.1 + 2 ≤ st.rom.length) ∧ ∀ p ∈ st.places, p.2 ≤ 1024
theorem inv_put {ws : List Int} {nm : S.By} {ln : Nat} {st st' : S.St} (hi : Inv st) (h0 : 0 < ws.length) (h : S.put ws nm ln st = .ok st') : Inv st' := by
  obtain ⟨hm, rfl⟩ := put_spec h
  obtain ⟨i1, i2, i3⟩ := hi
  refine ⟨by simp [bytesOf_len]; exact hm, fun u hu => ?_, i3⟩
  simp only [List.length_append, bytesOf_len] at hu ⊢
  split at hu
  · have := i2 u hu; omega
  · rcases List.mem_append.1 hu with hu | hu
    · have := i2 u hu; omega
    · simp at hu; subst hu; simp only; omega
theorem inv_line {l : S.By} {ln : Nat} {st st' : S.St} (hi : Inv st) (h : S.readLine l ln st = .ok st') : Inv st' := by
  unfold S.readLine at h
  split at h
  · obtain ⟨_, _, rfl⟩ := place_inv h
    obtain ⟨i1, i2, i3⟩ := hi
    refine ⟨i1, i2, fun p hp => ?_⟩
    rcases List.mem_append.1 hp with hp | hp
    · exact i3 p hp
    · simp at hp; subst hp; exact i1
  · split at h
    · match hp : S.partsOf (Lib.cut l [32]).2.1, h with
      | [p], h => obtain ⟨v, nm, _, _, _, hput⟩ := word_inv h; exact inv_put hi (by simp) hput
      | [], h => cases h
      | _ :: _ :: _, h => cases h
    · obtain ⟨k, o, nm, _, _, _, _, _, _, hput⟩ := order_inv h
      exact inv_put hi (words_pos k o) hput
theorem inv_lines : ∀ (f : Nat) (s : S.By) (ln : Nat) (st stF : S.St), Inv st → S.readLines f s ln st = .ok stF → Inv stF
  | 0, s, ln, st, stF, hi, h => by cases h; exact hi
  | f + 1, s, ln, st, stF, hi, h => by
    by_cases hs : s = []
    · subst hs; rw [S.readLines_nil] at h; cases h; exact hi
    · obtain ⟨_, st', hl, hn⟩ := lines_inv hs h
      exact inv_lines f _ _ _ _ (inv_line hi hl) hn
theorem inv_zero : Inv S.St.zero := ⟨by simp [S.St.zero], by simp [S.St.zero], by simp [S.St.zero]⟩

section
variable {w : World} {B b mo mp : Nat} {ua : Option Addr} {uc rc rg : Nat} {st : S.St} {ln : Nat}
theorem Rd.set_rom (h : Rd w B b mo mp ua uc (some ⟨rg, 0, none⟩) rc st ln) (i : Nat) (x : UInt8) : Rd (w.setCell ⟨rg, i, none⟩ (.int .u8 x.toNat)) B b mo mp ua uc (some ⟨rg, 0, none⟩) rc { st with rom := st.rom.set i x } ln := by
  obtain ⟨hs, hg⟩ := h.rom.stored i (.int .u8 x.toNat)
  have hb : (Value.slice (some ⟨rg, 0, none⟩) st.rom.length rc).ownBlock = some rg := rfl
  refine ⟨h.hB, ?_, h.ops.of_block (grown_blk hg h.ops.lt (fun e => h.rom_mo (hb.trans e.symm))), h.places.of_block (grown_blk hg h.places.lt (fun e => h.rom_mp (hb.trans e.symm))), h.hmp, h.ne, h.uses.kept hg (h.rows.imp id (fun hh => by rw [hb] at hh; exact hh)), ?_⟩
  · simp only [List.length_set]
    exact (grown_blk hg h.lt (fun e => h.rom_b (hb.trans e.symm))).trans h.blk
  · simp only [List.length_set]
    have e : Lib.byteCells (st.rom.set i x) = (Lib.byteCells st.rom).set i (.int .u8 x.toNat) := by unfold Lib.byteCells; rw [List.map_set]
    rw [e]; exact hs
theorem Rd.rg_ne (h : Rd w B b mo mp ua uc (some ⟨rg, 0, none⟩) rc st ln) : rg ≠ b ∧ rg < w.heap.size ∧ B ≤ rg := by
  have h1 := h.rom_b
  have h2 := h.rom.lt rg rfl
  exact ⟨fun e => h1 (by rw [e]; rfl), h2.2, h2.1⟩
end
theorem useCells_at : ∀ (us : List (S.By × Nat × Nat)) (j : Nat) (u : S.By × Nat × Nat), us[j]? = some u → (useCells us)[j * 3]? = some (.string (mk u.1)) ∧ (useCells us)[j * 3 + 1]? = some (.int .i64 u.2.1) ∧ (useCells us)[j * 3 + 2]? = some (.int .i64 u.2.2)
  | [], j, u, h => by simp at h
  | v :: us, 0, u, h => by simp at h; subst h; exact ⟨rfl, rfl, rfl⟩
  | v :: us, j + 1, u, h => by
    have ih := useCells_at us j u (by simpa using h)
    rw [show (j + 1) * 3 = j * 3 + 3 by omega, show j * 3 + 3 + 1 = (j * 3 + 1) + 3 by omega, show j * 3 + 3 + 2 = (j * 3 + 2) + 3 by omega]
    exact ih
theorem layPlaces_0 (w : World) (B b mo mp : Nat) (ua ra : Option Addr) (uc rc : Nat) (st : S.St) (ln : Nat) (hR : Rd w B b mo mp ua uc ra rc st ln) (hu : st.uses = []) :
    Calls Tryz.prog 31 #[.pointer (some ⟨b, 0, none⟩)] w fun e w' => e = .returned (.tuple #[]) ∧ w' = w := by
  have c2 : w.cell? ⟨b, 2, none⟩ = some (.slice ua 0 uc) := by have := hR.cell 2; rw [hu] at this; exact this
  have hlt := hR.lt
  clear hR
  go_enter Tryz.func31, Tryz.ntmps31
  go_wp2
  go_loop [11] (fun i => i = .int .i64 0) (fun _ => 0)
  case atStart => rfl
  case round =>
    subst hrel
    go_wp2
    go_end0
    exact ⟨rfl, rfl⟩
theorem lookup_place {w : World} {mp : Nat} {ps : List (S.By × Nat)} (h : mapS w mp (pl ps)) (c : S.By) (p : S.By × Nat) (hf : ps.find? (fun p => p.1 == c) = some p) : (Instr.lookup 32 (.map (some mp)) (.string (mk c)) true).run Tryz.prog w = .ok (.tuple #[.int .i64 p.2, .bool true]) w := by
  have := lookup_s (P := Tryz.prog) Tryz.underlying32 Tryz.underlying9 h (mk c) (zero_int w)
  rw [pl_find, bs_mk, hf] at this
  exact this
theorem lay_inv {ps : List (S.By × Nat)} {u : S.By × Nat × Nat} {us : List (S.By × Nat × Nat)} {rom romF : S.By} (h : S.lay ps (u :: us) rom = .ok romF) : ∃ p, ps.find? (fun p => p.1 == u.1) = some p ∧ S.lay ps us ((rom.set u.2.1 (UInt8.ofNat (p.2 / 256))).set (u.2.1 + 1) (UInt8.ofNat (p.2 % 256))) = .ok romF := by
  unfold S.lay at h
  split at h
  · cases h
  · rename_i p hp
    exact ⟨p, hp, h⟩
set_option maxRecDepth 100000 in
set_option maxHeartbeats 1600000 in
theorem layPlaces_n (w : World) (B b mo mp ug uc rg rc : Nat) (st : S.St) (ln : Nat) (hR : Rd w B b mo mp (some ⟨ug, 0, none⟩) uc (some ⟨rg, 0, none⟩) rc st ln) (hu : 0 < st.uses.length) (hul : st.uses.length ≤ 100000) (hi : Inv st) (romF : S.By) (hS : S.lay st.places st.uses st.rom = .ok romF) (hBw : B ≤ w.heap.size) :
    Calls Tryz.prog 31 #[.pointer (some ⟨b, 0, none⟩)] w fun e w' => e = .returned (.tuple #[]) ∧ Rd w' B b mo mp (some ⟨ug, 0, none⟩) uc (some ⟨rg, 0, none⟩) rc { st with rom := romF } ln ∧ Below B w w' := by
  have c2 : w.cell? ⟨b, 2, none⟩ = some (.slice (some ⟨ug, 0, none⟩) st.uses.length uc) := hR.cell 2
  have hlt := hR.lt
  have hBb := hR.hB
  have HR := hid hR
  have HS := hid hS
  have HI := hid hi
  clear hR hS hi
  go_enter Tryz.func31, Tryz.ntmps31
  go_wp2
  go_loopw [11] (fun i wr => ∃ (j : Nat) (rom : S.By), j ≤ st.uses.length ∧ i = .int .i64 j ∧ rom.length = st.rom.length ∧ S.lay st.places (st.uses.drop j) rom = .ok romF ∧ Rd wr B b mo mp (some ⟨ug, 0, none⟩) uc (some ⟨rg, 0, none⟩) rc { st with rom := rom } ln ∧ Below B w wr) (fun i _ => st.uses.length - (intOf i).toNat)
  case atStart => exact ⟨0, st.rom, by omega, rfl, rfl, HS.out, HR.out, Below.refl _ _⟩
  case round =>
    obtain ⟨j, rom, hj, rfl, hrl, hlay, hR1, hbl⟩ := hrel
    have hszr := Nat.le_trans hBw hbl.size
    by_cases hlt2 : j < st.uses.length
    · have hjI : (j : Int) < st.uses.length := by omega
      obtain ⟨u, huj⟩ : ∃ u, st.uses[j]? = some u := ⟨_, List.getElem?_eq_getElem hlt2⟩
      rw [drop_at huj] at hlay
      obtain ⟨p, hfp, hnext⟩ := lay_inv hlay
      obtain ⟨nm, at', ul⟩ := u
      obtain ⟨pn, pv⟩ := p
      obtain ⟨i1, i2, i3⟩ := HI.out
      have hat := i2 _ (List.mem_of_getElem? huj)
      have hpv := i3 _ (List.mem_of_find?_eq_some hfp)
      simp only at hat hpv hnext hfp
      obtain ⟨k0, k1, k2⟩ := useCells_at _ _ _ huj
      have hug := hR1.uses.lt ug rfl
      have u0 : wr.cell? ⟨ug, j * 3, none⟩ = some (.string (mk nm)) := by rw [hR1.uses.cellAt (j * 3) (by simp only; omega)]; exact k0
      have u1' : wr.cell? ⟨ug, j * 3 + 1, none⟩ = some (.int .i64 at') := by rw [hR1.uses.cellAt (j * 3 + 1) (by simp only; omega)]; exact k1
      have u2' : wr.cell? ⟨ug, j * 3 + 2, none⟩ = some (.int .i64 ul) := by rw [hR1.uses.cellAt (j * 3 + 2) (by simp only; omega)]; exact k2
      have hugr : ug < wr.heap.size := hug.2
      have c1 : wr.cell? ⟨b, 1, none⟩ = some (.map (some mp)) := hR1.cell 1
      have c3 : wr.cell? ⟨b, 3, none⟩ = some (.slice (some ⟨rg, 0, none⟩) st.rom.length rc) := by have := hR1.cell 3; simp only [hrl] at this; exact this
      have hbr := hR1.lt
      obtain ⟨hgb, hgl, hgB⟩ := hR1.rg_ne
      have hRa := hid (hR1.kept (stA (st0 wr) (.cells #[.string (mk nm), .int .i64 at', .int .i64 ul] 95)))
      have hlk : ∀ q, (Instr.lookup 32 (.map (some mp)) (.string (mk nm)) true).run Tryz.prog ((wr.alloc (.cells #[.string (mk nm), .int .i64 at', .int .i64 ul] 95)).drewN q) = .ok (.tuple #[.int .i64 pv, .bool true]) ((wr.alloc (.cells #[.string (mk nm), .int .i64 at', .int .i64 ul] 95)).drewN q) := fun q =>
        lookup_place ((hRa.out.kept (st_drewN (st0 _) q)).places) nm (pn, pv) hfp
      have HN := hid hnext
      have HFP := hid hfp
      have HRr := hid hR1
      have hr1 : st.rom.length ≤ 1024 := i1
      clear hlay hnext hfp huj k0 k1 k2 i1 i2 i3 hR1
      have hatI : (at' : Int) < st.rom.length := by omega
      have hatJ : (at' : Int) + 1 < st.rom.length := by omega
      have hatK : (0 : Int) ≤ (at' : Int) + 1 := by omega
      have hatL : (0 : Int) ≤ (at' : Int) := by omega
      have hn1 : rg ≠ wr.heap.size := by omega
      obtain ⟨va, da⟩ : ∃ v, wr.cell? ⟨rg, at', none⟩ = some v := ⟨_, (HRr.out.rom.cellAt at' (by simp only; omega)).trans (List.getElem?_eq_getElem (by rw [byteCells_len]; simp only; omega))⟩
      obtain ⟨vb, db⟩ : ∃ v, wr.cell? ⟨rg, at' + 1, none⟩ = some v := ⟨_, (HRr.out.rom.cellAt (at' + 1) (by simp only; omega)).trans (List.getElem?_eq_getElem (by rw [byteCells_len]; simp only; omega))⟩
      have fa : wr.frozen? ⟨rg, at', none⟩ = false := HRr.out.rom.frozenAt at'
      have fb : wr.frozen? ⟨rg, at' + 1, none⟩ = false := HRr.out.rom.frozenAt (at' + 1)
      have hpvI : (pv : Int) ≤ 65535 := by omega
      have hwp : IntKind.u16.wrap (pv : Int) = pv := by rw [IntKind.wrap_u16]; omega
      have hwa : IntKind.i64.wrap ((at' : Int) + 1) = (at' : Int) + 1 := by rw [IntKind.wrap_i64]; omega
      go_wp2
      go_quiet (fail)
      go_wp2
      go_region_held3 (fun w' => w'.cell? ⟨b, 3, none⟩ = some (.slice (some ⟨rg, 0, none⟩) st.rom.length rc) ∧ w'.cell? ⟨wr.heap.size, 1, none⟩ = some (.int .i64 at'))
        (first
          | go_keep
          | (go_split_ands
             refine ⟨?_, ?_⟩
             · (rw [World.cell?_setCell_other _ _ _ _ (by simp; omega)]; assumption)
             · (rw [World.cell?_setCell_other _ _ _ _ (by simp; omega)]; assumption)))
        ((go_at_call 54; refine (bytesW_any pv _ (by omega) (by omega)).mono ?_; rintro e w' ⟨rfl, rfl⟩))
      go_wp2
      have e1 : (.int .u8 ((pv : Int) / 256) : Value) = .int .u8 ((UInt8.ofNat (pv / 256)).toNat : Nat) := by rw [show (UInt8.ofNat (pv / 256)).toNat = pv / 256 by simp; omega]; rfl
      have e2 : (.int .u8 ((pv : Int) % 256) : Value) = .int .u8 ((UInt8.ofNat (pv % 256)).toNat : Nat) := by rw [show (UInt8.ofNat (pv % 256)).toNat = pv % 256 by simp]; rfl
      rw [e1, e2]
      refine ⟨⟨j + 1, (rom.set at' (UInt8.ofNat (pv / 256))).set (at' + 1) (UInt8.ofNat (pv % 256)), by omega, by simp, by simp [hrl], HN.out, ((hRa.out.kept (st_drewN (st0 _) (nq + 1))).set_rom at' _).set_rom (at' + 1) _, ?_⟩, by simp [intOf]; omega⟩
      have hd : Below B w ((wr.alloc (.cells #[.string (mk nm), .int .i64 at', .int .i64 ul] 95)).drewN (nq + 1)) := (hbl.alloc hszr _).trans (bB (by simp; omega) (st_drewN (st0 _) (nq + 1)))
      exact (hd.setCell hgB _).setCell hgB _
    · have hjn : j = st.uses.length := by omega
      subst hjn
      rw [List.drop_length] at hlay
      cases hlay
      go_wp2
      go_end0
      exact ⟨rfl, hR1, hbl⟩
theorem layPlaces_ok (w : World) (B b mo mp : Nat) (ua ra : Option Addr) (uc rc : Nat) (st : S.St) (ln : Nat) (hR : Rd w B b mo mp ua uc ra rc st ln) (hul : st.uses.length ≤ 100000) (hi : Inv st) (romF : S.By) (hS : S.lay st.places st.uses st.rom = .ok romF) (hBw : B ≤ w.heap.size) :
    Calls Tryz.prog 31 #[.pointer (some ⟨b, 0, none⟩)] w fun e w' => e = .returned (.tuple #[]) ∧ Rd w' B b mo mp ua uc ra rc { st with rom := romF } ln ∧ Below B w w' := by
  by_cases hu : st.uses = []
  · rw [hu] at hS
    cases hS
    exact (layPlaces_0 w B b mo mp ua ra uc rc st ln hR hu).mono fun e w' hh => ⟨hh.1, hh.2 ▸ hR, hh.2 ▸ Below.refl _ _⟩
  · have hup : 0 < st.uses.length := by cases h : st.uses <;> simp_all
    obtain ⟨u, hu0⟩ : ∃ u, u ∈ st.uses := by cases h : st.uses with
      | nil => exact absurd h hu
      | cons a l => exact ⟨a, by simp⟩
    have hrl := hi.2.1 u hu0
    have hua : ∃ ug, ua = some ⟨ug, 0, none⟩ := by
      rcases hR.uses.2 with ⟨h, h0⟩ | ⟨g, cap, cur, h, _⟩
      · omega
      · exact ⟨g, by injection h⟩
    have hra : ∃ rg, ra = some ⟨rg, 0, none⟩ := by
      rcases hR.rom.2 with ⟨h, h0⟩ | ⟨g, cap, cur, h, _⟩
      · omega
      · exact ⟨g, by injection h⟩
    obtain ⟨ug, rfl⟩ := hua
    obtain ⟨rg, rfl⟩ := hra
    exact layPlaces_n w B b mo mp ug uc rg rc st ln hR hup hul hi romF hS hBw
end Go.Proofs.YtdjhlfoapieohaaGreatDoor
