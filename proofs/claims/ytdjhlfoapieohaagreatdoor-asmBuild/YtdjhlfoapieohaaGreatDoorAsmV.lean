/-
  From a row's listed variables, and a slice of bytes that came in, to what the walks on package asm ask.
-/
import Derived.Test.YtdjhlfoapieohaaGreatDoorAsmT
import Derived.Lib.LaidTab
namespace Go.Proofs.YtdjhlfoapieohaaGreatDoor
open Go.ChangeShapes Go.WideShapes Go.ChangeAt Go.RowKit
set_option linter.unusedVariables false

theorem pow_of_laid {W : World} {l : List (String × DataW Unit)} (h : laidMet Tryz.prog l W) (hm : ("internal/strconv.uint64pow10", Rows.laid_internal_strconv_uint64pow10) ∈ l) :
    Lib.TabIs Tryz.prog W "internal/strconv.uint64pow10" .u64 Lib.pow10Tab := by
  obtain ⟨g, t, cs, fuel, p, hg, ht, hv, hd⟩ := Lib.laidMet.reads h hm
  have e2 : (Tryz.prog.globals[6]?).map (·.type) = some 168 := by kernel_rfl
  obtain rfl := Option.some.inj (g_pow.symm.trans hg)
  obtain rfl := Option.some.inj (e2.symm.trans ht)
  have e3 : (Rows.laid_internal_strconv_uint64pow10 : DataW Unit) = Lib.tabData .u64 Lib.pow10Tab := by kernel_rfl
  rw [e3] at hd
  unfold Lib.TabIs
  rw [hv, ← Lib.cells_of_tab Tryz.underlying168 Tryz.underlying128 (by kernel_rfl) (by kernel_rfl) hd]
theorem af_of {W : World} {l : List (String × DataW Unit)} (h : laidMet Tryz.prog l W) (hs : W.ShapedOpen Tryz.prog) (h1 : ("internal/strconv.uint64pow10", Rows.laid_internal_strconv_uint64pow10) ∈ l) (h2 : ("marquee/order.shapes", Rows.laid_marquee_order_shapes) ∈ l) : AF W :=
  ⟨pow_of_laid h h1, maxLen_cell hs, shapes_of_laid h h2⟩
theorem spot_none {w : World} {a : Addr} {v : Value} (h : w.cell? a = some v) : a.spot = none := by
  unfold World.cell? at h
  split at h
  · split at h
    · cases h
    · rename_i hs
      cases hh : a.spot with
      | none => rfl
      | some x => rw [hh] at hs; simp at hs
  · cases h
set_option maxRecDepth 100000 in
/-- Bytes that came in. -/
theorem open_bytes {H : Type} {enc : TypeId × Value → H} {W : World} {base : Nat} {v : Value} {d : DataW H} {p : List MemPlace} {t : TypeId} (ht : Tryz.prog.underlying t = some (.slice 5)) (hv : Value.okWide Tryz.prog W .any base t v) (hd : DataW.Trod enc Tryz.prog W 0 (fun _ => true) true t v d p) : ∃ l, sliceAt W v l := by
  obtain ⟨a, len, cap, rfl⟩ := okWide_slice ht hv
  obtain ⟨fuel, hf⟩ := hd
  have c1 : Tryz.prog.cellsOf 5 = 1 := by kernel_rfl
  rcases open_ints ht Tryz.underlying5 c1 hf with ⟨hc, _⟩ | ⟨ad, len', cap', zs, hc, _, hl, _, hz, _, hcell, hwf⟩
  · have e : (Value.slice a len cap) = .slice none 0 0 := by simpa [Value.cells] using hc
    rw [e]
    exact ⟨[], Or.inl ⟨none, 0, rfl, rfl⟩⟩
  · have e : (Value.slice a len cap) = .slice (some ad) len' cap' := by simpa [Value.cells] using hc
    rw [e]
    simp only [if_true] at hz
    by_cases h0 : len' = 0
    · subst h0
      exact ⟨[], Or.inl ⟨some ad, cap', rfl, rfl⟩⟩
    · have hs := spot_none (by simpa [Addr.add] using hcell 0 (by omega))
      obtain ⟨g, o, sp⟩ := ad
      simp only at hs
      subst hs
      have hadd : ∀ j, (⟨g, o, none⟩ : Addr).add j = ⟨g, o + j, none⟩ := fun j => by unfold Addr.add; split <;> simp_all
      refine ⟨(zs.take len').map (fun z => UInt8.ofNat z.toNat), Or.inr ⟨g, o, cap', by rw [List.length_map, List.length_take, Nat.min_eq_left (by omega)], by rw [List.length_map, List.length_take]; omega, World.block_lt_of_cell? W _ (hcell 0 (by omega)), fun j c hj => ?_⟩⟩
      rw [List.getElem?_map] at hj
      obtain ⟨z, hz1, hz2⟩ := Option.map_eq_some_iff.1 hj
      have hjl : j < len' := by
        have := (List.getElem?_eq_some_iff.1 hz1).1
        rw [List.length_take] at this; omega
      rw [List.getElem?_take_of_lt hjl] at hz1
      have hzj : j < zs.length := (List.getElem?_eq_some_iff.1 hz1).1
      have hw := bounds_u8 (hwf z (List.mem_of_getElem? hz1))
      have := hcell j hzj
      rw [hadd, show zs.getD j 0 = z by simp [List.getD, hz1]] at this
      rw [this, ← hz2]
      rw [show (UInt8.ofNat z.toNat).toNat = z.toNat by simp; omega, show ((z.toNat : Nat) : Int) = z by omega]
end Go.Proofs.YtdjhlfoapieohaaGreatDoor
