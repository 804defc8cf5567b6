/-
  What package asm's reader does with a line that tells a word, or a place, where nothing is wrong.
-/
import Derived.Test.YtdjhlfoapieohaaGreatDoorAsmJ
namespace Go.Proofs.YtdjhlfoapieohaaGreatDoor
open Go.ChangeShapes Go.WideShapes Go.ChangeAt Go.RowKit
set_option linter.unusedVariables false

theorem put_spec {ws : List Int} {nm : S.By} {ln : Nat} {st st' : S.St} (h : S.put ws nm ln st = .ok st') : st.rom.length + 2 * ws.length ≤ 1024 ∧ st' = ⟨st.rom ++ S.bytesOf ws, st.places, if nm = [] then st.uses else st.uses ++ [(nm, st.rom.length + 2 * ws.length - 2, ln)]⟩ := by
  unfold S.put at h
  split at h
  · cases h
  · cases h
    exact ⟨by omega, rfl⟩
theorem putS_ok (w : World) (B b mo mp : Nat) (ua ra : Option Addr) (uc rc : Nat) (st st' : S.St) (ln : Nat) (hR : Rd w B b mo mp ua uc ra rc st ln) (g c : Nat) (ws : List Int) (nm : S.By) (hS : S.put ws nm ln st = .ok st') (hw : wordsAt w g ws) (hg : g < w.heap.size)
    (hgr : (Value.slice ra st.rom.length rc).ownBlock ≠ some g) (hgb : g ≠ b) (hws : ∀ x ∈ ws, 0 ≤ x ∧ x ≤ 65535) (hw0 : 0 < ws.length) (hc : ws.length ≤ c) (hBw : B ≤ w.heap.size) (hul0 : st.uses.length + 1 ≤ 1000000) :
    Calls Tryz.prog 105 #[.pointer (some ⟨b, 0, none⟩), .slice (some ⟨g, 0, none⟩) ws.length c, .string (mk nm)] w fun e w' =>
      e = .returned (.tuple #[]) ∧ (∃ ua' uc' ra' rc', Rd w' B b mo mp ua' uc' ra' rc' st' ln) ∧ Below B w w' := by
  obtain ⟨h1, h2⟩ := put_spec hS
  subst h2
  exact put_ok w B b mo mp ua ra uc rc st ln hR g c ws nm hw hg hgr hgb hws hw0 h1 hc hBw hul0
/-- Below what was there when the reader began, by what the reader's calls leave. -/
theorem bB {B : Nat} {w w' : World} (hB : B ≤ w.heap.size) (h : Below w.heap.size w w') : Below B w w' := h.mono hB
theorem word_inv {p : S.By} {ln : Nat} {st st' : S.St} (h : S.readWord [p] ln st = .ok st') : ∃ v nm, S.wordOrName p = some (v, nm) ∧ 0 ≤ v ∧ v ≤ 65535 ∧ S.put [v] nm ln st = .ok st' := by
  unfold S.readWord at h
  simp only at h
  split at h
  · rename_i v nm hv
    split at h
    · cases h
    · exact ⟨v, nm, hv, by omega, by omega, h⟩
  · cases h
theorem putNew (w1 : World) (B b mo mp : Nat) (ua ra : Option Addr) (uc rc : Nat) (st st' : S.St) (ln : Nat) (hR : Rd w1 B b mo mp ua uc ra rc st ln) (v : Int) (nm : S.By) (hS : S.put [v] nm ln st = .ok st') (v0 : 0 ≤ v) (v1 : v ≤ 65535) (hBw : B ≤ w1.heap.size) (hul0 : st.uses.length + 1 ≤ 1000000) :
    Calls Tryz.prog 105 #[.pointer (some ⟨b, 0, none⟩), .slice (some ⟨w1.heap.size, 0, none⟩) 1 1, .string (mk nm)] (w1.alloc (.cells #[.int .u16 v] 40)) fun e w' =>
      e = .returned (.tuple #[]) ∧ (∃ ua' uc' ra' rc', Rd w' B b mo mp ua' uc' ra' rc' st' ln) ∧ Below B w1 w' := by
  have hlt := hR.lt
  refine (putS_ok _ B b mo mp ua ra uc rc st st' ln (hR.kept (stA (st0 _) _)) w1.heap.size 1 [v] nm hS ?_ (by simp) (fun h => ?_) (by omega) (by simp; omega) (by simp) (by simp) (by simp; omega) hul0).mono fun e w' ⟨he, h1, h2⟩ => ⟨he, h1, ((Below.refl _ _).alloc hBw _).trans h2⟩
  · intro i hi
    obtain rfl : i = 0 := by simpa using hi
    exact cell_new _ _ _ _ rfl
  · have := (hR.rom.lt _ h).2; omega
set_option maxRecDepth 100000 in
set_option maxHeartbeats 1600000 in
theorem readWord_ok (w : World) (B b mo mp : Nat) (ua ra : Option Addr) (uc rc : Nat) (st st' : S.St) (ln : Nat) (hR : Rd w B b mo mp ua uc ra rc st ln) (g c : Nat) (p : S.By) (hp : p.length ≤ 4000) (hcell : w.cell? ⟨g, 0, none⟩ = some (.string (mk p))) (hg : g < w.heap.size) (hc : 1 ≤ c)
    (hS : S.readWord [p] ln st = .ok st') (hBw : B ≤ w.heap.size) (hul0 : st.uses.length + 1 ≤ 1000000) (hF : AF w) :
    Calls Tryz.prog 79 #[.pointer (some ⟨b, 0, none⟩), .slice (some ⟨g, 0, none⟩) 1 c] w fun e w' =>
      e = .returned (.tuple #[]) ∧ (∃ ua' uc' ra' rc', Rd w' B b mo mp ua' uc' ra' rc' st' ln) ∧ Below B w w' := by
  obtain ⟨v, nm, hv, v0, v1, hput⟩ := word_inv hS
  have HW := hid (wordOrName_ok (some ⟨b, 0, none⟩) (mk p) (v, nm) (by rw [mk_size]; omega) hv w hF)
  have HR := hid hR
  have HP := hid hput
  have v0' : ¬ v < 0 := by omega
  have v1' : ¬ 65535 < v := by omega
  clear hR hput hS hv hF
  go_enter Tryz.func79, Tryz.ntmps79
  go_wp2_with (first
    | (go_at_call 104; refine HW.out.mono ?_; rintro e w1 ⟨rfl, hb1⟩; have hR1 := HR.out.kept (stA hb1 (.cells #[.int .u16 v] 40)); have hBw1 := Nat.le_trans hBw hb1.size)
    | (go_at_call 105; refine (putNew w1 B b mo mp ua ra uc rc st st' ln (HR.out.kept hb1) v nm HP.out v0 v1 hBw1 hul0).mono ?_; rintro e w2 ⟨rfl, hR2, hb2⟩))
  go_end0
  exact ⟨rfl, hR2, (bB hBw hb1).trans hb2⟩
theorem place_inv {name : S.By} {st st' : S.St} (h : S.readPlace name st = .ok st') : S.nameOk name = true ∧ st.places.find? (fun p => p.1 == name) = none ∧ st' = { st with places := st.places ++ [(name, st.rom.length)] } := by
  unfold S.readPlace at h
  split at h
  · rename_i hn
    split at h
    · cases h
    · rename_i hf
      cases h
      exact ⟨hn, hf, rfl⟩
  · cases h
theorem asmName_at (s : ByteArray) (w : World) : Calls Tryz.prog 7 #[.string s] w fun e w' => e = .returned (.bool (S.nameOk (bs s))) ∧ w = w' := (asmName_any s w).mono fun e w' hh => ⟨hh.1, hh.2.symm⟩
theorem zero_int (w : World) : (zeroValue 3).run Tryz.prog w = .ok (.int .i64 0) w := by kernel_rfl
theorem pl_snoc (l : List (S.By × Nat)) (a : S.By) (n : Nat) : pl (l ++ [(a, n)]) = pl l ++ [(mk a, (n : Int))] := by unfold pl; simp
set_option maxRecDepth 100000 in
set_option maxHeartbeats 1600000 in
theorem readPlace_ok (w : World) (B b mo mp : Nat) (ua ra : Option Addr) (uc rc : Nat) (st st' : S.St) (ln : Nat) (hR : Rd w B b mo mp ua uc ra rc st ln) (name : S.By) (hS : S.readPlace name st = .ok st') (hBw : B ≤ w.heap.size) :
    Calls Tryz.prog 78 #[.pointer (some ⟨b, 0, none⟩), .string (mk name)] w fun e w' =>
      e = .returned (.tuple #[]) ∧ (∃ ua' uc' ra' rc', Rd w' B b mo mp ua' uc' ra' rc' st' ln) ∧ Below B w w' := by
  obtain ⟨hn, hf, hst⟩ := place_inv hS
  have HN := hid (asmName_at (mk name) w)
  rw [bs_mk, hn] at HN
  have hfp : (pl st.places).find? (fun p => p.1 == mk name) = none := by rw [pl_find, bs_mk, hf]; rfl
  have hlk := lookup_s (P := Tryz.prog) Tryz.underlying32 Tryz.underlying9 hR.places (mk name) (zero_int w)
  rw [hfp] at hlk
  simp only [Option.map_none, Option.getD_none, Option.isSome_none] at hlk
  obtain ⟨w1, hrun, hm1, hg1⟩ := insert_s (P := Tryz.prog) (w := w.drew) Tryz.underlying32 Tryz.underlying9 hR.places (mk name) (st.rom.length : Int) hfp
  have c1 : w.cell? ⟨b, 1, none⟩ = some (.map (some mp)) := hR.cell 1
  have c3 : w.cell? ⟨b, 3, none⟩ = some (.slice ra st.rom.length rc) := hR.cell 3
  have hlt := hR.lt
  have HR := hid hR
  have HM := hid hm1
  have HG := hid hg1
  have HST := hid hst
  clear hR hS hn hf hst hfp hm1 hg1
  go_enter Tryz.func78, Tryz.ntmps78
  go_wp2_with (go_at_call 7; refine HN.out.mono ?_; rintro e w' ⟨rfl, rfl⟩)
  go_region
  go_wp2
  all_goals
    go_end0
    rw [HST.out]
    refine ⟨rfl, ⟨ua, uc, ra, rc, ?_⟩, ?_⟩
    · exact Rd.put_place (w := w.drew) (HR.out.kept (st0 w).drew) HG.out (by rw [pl_snoc]; exact HM.out)
    · exact ((Below.refl B w).drew).grown HG.out hBw (fun k hk => by cases hk; exact HR.out.hmp)
end Go.Proofs.YtdjhlfoapieohaaGreatDoor
