/-
  What package asm's reader lays behind its program: put, where there is room.
-/
import Derived.Test.YtdjhlfoapieohaaGreatDoorAsmI
import Derived.Deep.RegionLaw
import Derived.BigRegion
namespace Go.Proofs.YtdjhlfoapieohaaGreatDoor
open Go.ChangeShapes Go.WideShapes Go.ChangeAt Go.RowKit
set_option linter.unusedVariables false

theorem bytesW_any (a : Int) (w : World) (ha : 0 ≤ a) (ha' : a ≤ 65535) :
    Calls Tryz.prog 54 #[.int .u16 a] w fun e w' => e = .returned (.tuple #[.int .u8 (a / 256), .int .u8 (a % 256)]) ∧ w = w' := by
  go_enter Tryz.func54, Tryz.ntmps54
  go_wp2
  go_ret2
  exact ⟨rfl, rfl⟩
theorem info_u8 : (Tryz.prog.info? 5).map (fun i => (i.zero, i.size, i.bytes)) = some (some (.int .u8 0), 1, 1) := by kernel_rfl
theorem info_use : (Tryz.prog.info? 95).map (fun i => (i.zero, i.size, i.bytes)) = some (some (.agg #[.string ⟨#[]⟩, .int .i64 0, .int .i64 0]), 3, 32) := by kernel_rfl
theorem bytesOf_step {ws : List Int} {j : Nat} {x : Int} (h : ws[j]? = some x) : S.bytesOf (ws.take (j + 1)) = S.bytesOf (ws.take j) ++ [UInt8.ofNat (x / 256).toNat, UInt8.ofNat (x % 256).toNat] := by
  have app : ∀ a b : List Int, S.bytesOf (a ++ b) = S.bytesOf a ++ S.bytesOf b := fun a b => by
    induction a with
    | nil => rfl
    | cons y a ih => simp [S.bytesOf, ih]
  rw [List.take_add_one, h, app]; rfl
theorem bytesOf_len : ∀ ws : List Int, (S.bytesOf ws).length = 2 * ws.length
  | [] => rfl
  | x :: ws => by simp [S.bytesOf, bytesOf_len ws]; omega
theorem byte_cells (x : Int) (h0 : 0 ≤ x) (h1 : x ≤ 65535) : Lib.byteCells [UInt8.ofNat (x / 256).toNat, UInt8.ofNat (x % 256).toNat] = [.int .u8 (x / 256), .int .u8 (x % 256)] := by
  have e1 : (UInt8.ofNat (x / 256).toNat).toNat = (x / 256).toNat := by simp; omega
  have e2 : (UInt8.ofNat (x % 256).toNat).toNat = (x % 256).toNat := by simp; omega
  simp only [Lib.byteCells, List.map_cons, List.map_nil, e1, e2]
  rw [show (((x / 256).toNat : Nat) : Int) = x / 256 by omega, show (((x % 256).toNat : Nat) : Int) = x % 256 by omega]
theorem mk_empty (l : S.By) : (mk l).toList.isEmpty = l.isEmpty := by rw [Lib.toList_data]; rfl
theorem wordsAt.block {w w' : World} {g : Nat} {l : List Int} (h : wordsAt w g l) (e : w'.heap[g]? = w.heap[g]?) : wordsAt w' g l := fun i hi => (World.cell?_of_block (w := w) e).trans (h i hi)
section
variable {w w1 : World} {B b mo mp : Nat} {ua ra : Option Addr} {uc rc : Nat} {st : S.St} {ln : Nat}
theorem Rd.rom_grown (h : Rd w B b mo mp ua uc ra rc st ln) (hg : w.grownBy w1 (Value.slice ra st.rom.length rc).ownBlock) (i : Nat) : w1.frozen? ⟨b, i, none⟩ = false ∧ b < w1.heap.size ∧ (w1.cell? ⟨b, i, none⟩).isSome = (w.cell? ⟨b, i, none⟩).isSome := by
  have hb1 := grown_blk hg h.lt (Ne.symm h.rom_b)
  exact ⟨Lib.frozen_of_heap (hb1.trans h.blk) i, Nat.lt_of_lt_of_le h.lt hg.size, by rw [World.cell?_of_block (w := w) (a := ⟨b, i, none⟩) hb1]⟩
end
set_option maxRecDepth 100000 in
set_option maxHeartbeats 1600000 in
theorem put_ok (w : World) (B b mo mp : Nat) (ua ra : Option Addr) (uc rc : Nat) (st : S.St) (ln : Nat) (hR : Rd w B b mo mp ua uc ra rc st ln) (g c : Nat) (ws : List Int) (nm : S.By) (hw : wordsAt w g ws) (hg : g < w.heap.size)
    (hgr : (Value.slice ra st.rom.length rc).ownBlock ≠ some g) (hgb : g ≠ b) (hws : ∀ x ∈ ws, 0 ≤ x ∧ x ≤ 65535) (hw0 : 0 < ws.length) (hm : st.rom.length + 2 * ws.length ≤ 1024) (hc : ws.length ≤ c) (hBw : B ≤ w.heap.size) (hul0 : st.uses.length + 1 ≤ 1000000) :
    Calls Tryz.prog 105 #[.pointer (some ⟨b, 0, none⟩), .slice (some ⟨g, 0, none⟩) ws.length c, .string (mk nm)] w fun e w' =>
      e = .returned (.tuple #[]) ∧ (∃ ua' uc' ra' rc', Rd w' B b mo mp ua' uc' ra' rc' ⟨st.rom ++ S.bytesOf ws, st.places, if nm = [] then st.uses else st.uses ++ [(nm, st.rom.length + 2 * ws.length - 2, ln)]⟩ ln) ∧ Below B w w' := by
  obtain ⟨i0, hi0, hz0, hz1, hz2⟩ := info_parts info_u8
  have hlt := hR.lt
  have hBb := hR.hB
  have c3 : w.cell? ⟨b, 3, none⟩ = some (.slice ra st.rom.length rc) := hR.cell 3
  have HR := hid hR
  have HW := hid hws
  have HWA := hid hw
  have hm1 : ¬ (1024 : Int) < st.rom.length + 2 * ws.length := by omega
  clear hR hws hw
  go_enter Tryz.func105, Tryz.ntmps105
  go_wp2
  go_loopw [24] (fun i wr => ∃ (j : Nat) (ra' : Option Addr) (rc' : Nat), j ≤ ws.length ∧ i = .int .i64 j ∧ Rd wr B b mo mp ua uc ra' rc' { st with rom := st.rom ++ S.bytesOf (ws.take j) } ln ∧ Below B w wr ∧ wordsAt wr g ws ∧ g < wr.heap.size ∧ (Value.slice ra' (st.rom ++ S.bytesOf (ws.take j)).length rc').ownBlock ≠ some g) (fun i _ => ws.length - (intOf i).toNat)
  case atStart => exact ⟨0, ra, rc, by omega, rfl, by simpa [S.bytesOf] using HR.out, Below.refl _ _, HWA.out, hg, by simpa [S.bytesOf] using hgr⟩
  case round =>
    obtain ⟨j, ra', rc', hj, rfl, hR1, hbl, hw1, hg1, hgr1⟩ := hrel
    have hszr := Nat.le_trans hBw hbl.size
    by_cases hlt2 : j < ws.length
    · have hlt' : (j : Int) < ws.length := by omega
      obtain ⟨x, hx⟩ : ∃ x, ws[j]? = some x := ⟨_, List.getElem?_eq_getElem hlt2⟩
      obtain ⟨x0, x1⟩ := HW.out x (List.mem_of_getElem? hx)
      have cw : wr.cell? ⟨g, j, none⟩ = some (.int .u16 x) := by
        have := hw1 j hlt2
        rw [show ws.getD j 0 = x by simp [List.getD, hx]] at this
        exact this
      obtain ⟨L, hL⟩ : ∃ L : Nat, L = (st.rom ++ S.bytesOf (ws.take j)).length := ⟨_, rfl⟩
      have hLb : L = st.rom.length + 2 * j := by rw [hL, List.length_append, bytesOf_len, List.length_take]; omega
      have c3r : wr.cell? ⟨b, 3, none⟩ = some (.slice ra' L rc') := by rw [hL]; exact hR1.cell 3
      have hbr := hR1.lt
      have hRa := hid (hR1.kept (stA (st0 wr) (.cells #[.int .u8 (x / 256), .int .u8 (x % 256)] 5)))
      have hrow : (wr.alloc (.cells #[.int .u8 (x / 256), .int .u8 (x % 256)] 5)).ownsRow B 5 1 (.slice ra' L rc') L (Lib.byteCells (st.rom ++ S.bytesOf (ws.take j))) := by rw [hL]; exact hRa.out.rom
      have HX := hid hx
      have HROW := hid hrow
      have HL := hid hL
      have HLB := hid hLb
      have hLm : L + 2 ≤ 1024 := by omega
      have hgf : Hid (∀ w3, (wr.alloc (.cells #[.int .u8 (x / 256), .int .u8 (x % 256)] 5)).grownBy w3 (Value.slice ra' L rc').ownBlock → w3.frozen? ⟨b, 3, none⟩ = false ∧ b < w3.heap.size ∧ w3.cell? ⟨b, 3, none⟩ = some (.slice ra' L rc')) := fun w3 hg3 => by
        rw [hL] at hg3 ⊢
        have hb1 := (grown_blk hg3 hRa.out.lt (Ne.symm hRa.out.rom_b)).trans hRa.out.blk
        exact ⟨Lib.frozen_of_heap hb1 3, Nat.lt_of_lt_of_le hRa.out.lt hg3.size, Lib.cell_of_heap hb1 3⟩
      clear hx c3 hL hLb hrow hR1
      go_wp2_with (first
        | (go_at_call 54; refine (bytesW_any x _ x0 x1).mono ?_; rintro e w' ⟨rfl, rfl⟩)
        | (at_builtin; refine wpList_append_lies _ (by rfl) _ _ _ (by rfl) B 5 i0 _ 1 1 Tryz.underlying22 hi0 hz0 hz1 hz2 rfl (by omega) _ L _ (by rfl) HROW.out ⟨wr.heap.size, 0, none⟩ 2 2 [.int .u8 (x / 256), .int .u8 (x % 256)] (by rfl) (by rfl) (World.news_of_block (cs := #[.int .u8 (x / 256), .int .u8 (x % 256)]) (t := 5) (fr := (0, 0)) (heap_alloc_new wr _)) (by simp [Value.oneCell']) (by omega) (by unfold maxLen; omega) (by omega) (by simp; omega) (wr.heap.size + 1) (by simp) ?_; intro gg cp w3 hown3 hgrow hat hlt3; obtain ⟨f3, z3, d3⟩ := hgf.out w3 hgrow))
      have e2 : st.rom ++ S.bytesOf (ws.take (j + 1)) = (st.rom ++ S.bytesOf (ws.take j)) ++ [UInt8.ofNat (x / 256).toNat, UInt8.ofNat (x % 256).toNat] := by rw [bytesOf_step HX.out, List.append_assoc]
      have hl2 : (st.rom ++ S.bytesOf (ws.take (j + 1))).length = L + 2 := by rw [e2, List.length_append, ← HL.out]; rfl
      have hcells : Lib.byteCells (st.rom ++ S.bytesOf (ws.take (j + 1))) = Lib.byteCells (st.rom ++ S.bytesOf (ws.take j)) ++ [.int .u8 (x / 256), .int .u8 (x % 256)] := by rw [e2, ← byteCells_append, byte_cells x x0 x1]
      have hput := hRa.out.put_rom (ra' := some ⟨gg, 0, none⟩) (rc' := cp) (rom' := st.rom ++ S.bytesOf (ws.take (j + 1))) (by rw [HL.out] at hgrow; exact hgrow) (by rw [hl2, hcells]; exact hown3)
      rw [hl2] at hput
      have hgr2 : (Value.slice ra' L rc').ownBlock ≠ some g := by rw [HL.out]; exact hgr1
      refine ⟨⟨j + 1, some ⟨gg, 0, none⟩, cp, by omega, by simp, hput, (((hbl.alloc hszr _).grown hgrow (by simp; omega) (fun k hk => (HROW.out.lt k hk).1)).setCell hBb _), ?_, ?_, ?_⟩, by simp [intOf]; omega⟩
      · refine hw1.block ((Below.heap_setCell _ _ _ _ hgb).trans ((grown_blk hgrow (by simp; omega) (Ne.symm hgr2)).trans (heap_alloc_old _ _ hg1)))
      · have := hgrow.size; simp at this ⊢; omega
      · simp only [Value.ownBlock, ne_eq, Option.some.injEq]
        rcases hat with h | h
        · intro e; rw [e] at h; exact hgr2 h
        · omega
    · have hjn : j = ws.length := by omega
      subst hjn
      rw [List.take_length] at hR1
      by_cases hnm : nm = []
      · subst hnm
        have he : (mk []).toList.isEmpty = true := mk_empty []
        go_wp2
        go_end0
        exact ⟨rfl, ⟨ua, uc, ra', rc', hR1⟩, hbl⟩
      · have he : (mk nm).toList.isEmpty = false := by rw [mk_empty]; cases nm <;> simp_all
        obtain ⟨i1, hj0, hy0, hy1, hy2⟩ := info_parts info_use
        obtain ⟨M, hM⟩ : ∃ M : Nat, (st.rom ++ S.bytesOf ws).length = M + 2 := ⟨st.rom.length + 2 * ws.length - 2, by rw [List.length_append, bytesOf_len]; omega⟩
        have hMb : M = st.rom.length + 2 * ws.length - 2 := by rw [List.length_append, bytesOf_len] at hM; omega
        have c2 : wr.cell? ⟨b, 2, none⟩ = some (.slice ua st.uses.length uc) := hR1.cell 2
        have c3r : wr.cell? ⟨b, 3, none⟩ = some (.slice ra' (M + 2) rc') := by rw [← hM]; exact hR1.cell 3
        have c4 : wr.cell? ⟨b, 4, none⟩ = some (.int .i64 ln) := hR1.cell 4
        have hbr := hR1.lt
        have hM1 : M ≤ 1022 := by omega
        have hRa := hid (hR1.kept (stA (st0 wr) (.cells #[.string (mk nm), .int .i64 M, .int .i64 ln] 95)).drew)
        have hU : Hid (((wr.alloc (.cells #[.string (mk nm), .int .i64 M, .int .i64 ln] 95)).drew).ownsRow B 95 3 (.slice ua st.uses.length uc) st.uses.length (useCells st.uses)) := hRa.out.uses
        have hN : Hid (∀ j u, ([.string (mk nm), .int .i64 M, .int .i64 ln] : List Value)[j]? = some u → ((wr.alloc (.cells #[.string (mk nm), .int .i64 M, .int .i64 ln] 95)).drew).cell? ((⟨wr.heap.size, 0, none⟩ : Addr).add j) = some u) := World.news_of_block (cs := #[.string (mk nm), .int .i64 M, .int .i64 ln]) (t := 95) (fr := (0, 0)) (heap_alloc_new wr _)
        have hO : Hid (∀ u ∈ ([.string (mk nm), .int .i64 M, .int .i64 ln] : List Value), u.oneCell' = true) := by intro u hu; simp at hu; rcases hu with rfl | rfl | rfl <;> rfl
        have hul : Hid (st.uses.length + 1 ≤ 1000000) := hul0
        have hgf : Hid (∀ w3, ((wr.alloc (.cells #[.string (mk nm), .int .i64 M, .int .i64 ln] 95)).drew).grownBy w3 (Value.slice ua st.uses.length uc).ownBlock → w3.frozen? ⟨b, 2, none⟩ = false ∧ b < w3.heap.size ∧ w3.cell? ⟨b, 2, none⟩ = some (.slice ua st.uses.length uc)) := fun w3 hg3 => by
          have hb1 := (grown_blk hg3 hRa.out.lt (Ne.symm hRa.out.uses_b)).trans hRa.out.blk
          exact ⟨Lib.frozen_of_heap hb1 2, Nat.lt_of_lt_of_le hRa.out.lt hg3.size, Lib.cell_of_heap hb1 2⟩
        have hbs : Hid (B ≤ ((wr.alloc (.cells #[.string (mk nm), .int .i64 M, .int .i64 ln] 95)).drew).heap.size) := by show B ≤ _; simp; omega
        have h63 : Hid (st.uses.length + 1 ≤ maxLen) := by show _ ≤ _; unfold maxLen; omega
        have hby : Hid ((st.uses.length + 1) * 32 ≤ 140737488355328) := by show _ ≤ _; omega
        have HK : Hid (∀ (gg cp : Nat) (w3 : World), w3.ownsRow B 95 3 (.slice (some ⟨gg, 0, none⟩) (st.uses.length + 1) cp) (st.uses.length + 1) (useCells st.uses ++ [.string (mk nm), .int .i64 M, .int .i64 ln]) → ((wr.alloc (.cells #[.string (mk nm), .int .i64 M, .int .i64 ln] 95)).drew).grownBy w3 (Value.slice ua st.uses.length uc).ownBlock →
            Rd (w3.setCell ⟨b, 2, none⟩ (.slice (some ⟨gg, 0, none⟩) (st.uses.length + 1) cp)) B b mo mp (some ⟨gg, 0, none⟩) cp ra' rc' ⟨st.rom ++ S.bytesOf ws, st.places, st.uses ++ [(nm, st.rom.length + 2 * ws.length - 2, ln)]⟩ ln ∧ Below B w (w3.setCell ⟨b, 2, none⟩ (.slice (some ⟨gg, 0, none⟩) (st.uses.length + 1) cp))) := fun gg cp w3 hown hg3 => by
          have hl : (st.uses ++ [(nm, M, ln)]).length = st.uses.length + 1 := by simp
          have := hRa.out.put_uses (us' := st.uses ++ [(nm, M, ln)]) (ua' := some ⟨gg, 0, none⟩) (uc' := cp) hg3 (by rw [hl, useCells_snoc]; exact hown)
          rw [hl] at this
          rw [← hMb]
          exact ⟨this, ((((hbl.alloc hszr _).drew).grown hg3 hbs.out (fun k hk => (hRa.out.uses.lt k hk).1)).setCell hBb _)⟩
        have hwr : IntKind.i64.wrap (M : Int) = M := by rw [IntKind.wrap_i64]; omega
        have HM := hid hM
        have HMB := hid hMb
        clear hR1 c3 hM hMb
        go_wp2
        go_region_law (refine step_append_lies _ (by rfl) (.tmp 51) (.tmp 64) 60 (by rfl) B 95 i1 _ 3 32 Tryz.underlying60 hj0 hy0 hy1 hy2 rfl (by omega) (.slice ua st.uses.length uc) st.uses.length (useCells st.uses) (by simp [Act.eval]) hU.out ⟨wr.heap.size, 0, none⟩ 1 1 [.string (mk nm), .int .i64 M, .int .i64 ln] (by simp [Act.eval]) rfl hN.out hO.out (by omega) h63.out hby.out hbs.out (wr.heap.size + 1) (by simp) ?_; intro gg cp w3 hown3 hgrow hat hlt3; obtain ⟨f3, z3, d3⟩ := hgf.out w3 hgrow)
        all_goals
          go_wp2
          go_end0
          obtain ⟨k1, k2⟩ := HK.out gg cp w3 hown3 hgrow
          exact ⟨rfl, ⟨_, _, _, _, k1⟩, k2⟩
end Go.Proofs.YtdjhlfoapieohaaGreatDoor
