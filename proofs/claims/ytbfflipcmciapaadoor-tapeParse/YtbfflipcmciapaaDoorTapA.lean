/-
  Buttons as plain data: eight bytes of a byte, and back.
-/
import Derived.Test.YtbfflipcmciapaaDoorByt
namespace Go.Proofs.YtbfflipcmciapaaDoor
open Go.ChangeShapes Go.WideShapes Go.ChangeAt Go.RowKit
set_option linter.unusedVariables false
set_option maxRecDepth 100000

/-- The letters, that of the highest bit first. -/
def Tp.lts : List UInt8 := [117, 100, 108, 114, 97, 98, 115, 116]
def Tp.lt (i : Nat) : UInt8 := Tp.lts.getD i 0
def Tp.bt (d i : Nat) : UInt8 := if d / 2 ^ (7 - i) % 2 = 0 then 46 else Tp.lt i
def Tp.btn (d : Nat) : List UInt8 := [Tp.bt d 0, Tp.bt d 1, Tp.bt d 2, Tp.bt d 3, Tp.bt d 4, Tp.bt d 5, Tp.bt d 6, Tp.bt d 7]
/-- The byte of which this is the text. -/
def Tp.ofb (l : List UInt8) : Option Nat := (List.range 256).find? (fun d => Tp.btn d == l)
theorem Tp.btn_len (d : Nat) : (Tp.btn d).length = 8 := rfl
theorem Tp.btn_at (d i : Nat) (h : i < 8) : (Tp.btn d)[i]? = some (Tp.bt d i) := by
  match i, h with
  | 0, _ => rfl
  | 1, _ => rfl
  | 2, _ => rfl
  | 3, _ => rfl
  | 4, _ => rfl
  | 5, _ => rfl
  | 6, _ => rfl
  | 7, _ => rfl
def Tp.un (l : List UInt8) : Nat := l.foldl (fun a c => 2 * a + (if c = 46 then 0 else 1)) 0
theorem Tp.un_btn : ∀ d : Fin 256, Tp.un (Tp.btn d.1) = d.1 := by decide +kernel
theorem Tp.btn_inj {d e : Nat} (hd : d < 256) (he : e < 256) (h : Tp.btn d = Tp.btn e) : d = e := by
  have h1 := Tp.un_btn ⟨d, hd⟩
  have h2 := Tp.un_btn ⟨e, he⟩
  simp only at h1 h2
  rw [← h1, ← h2, h]
theorem Tp.ofb_btn {d : Nat} (h : d < 256) : Tp.ofb (Tp.btn d) = some d := by
  unfold Tp.ofb
  cases hf : (List.range 256).find? (fun e => Tp.btn e == Tp.btn d) with
  | none =>
    have := List.find?_eq_none.1 hf d (List.mem_range.2 h)
    simp at this
  | some e =>
    have h1 := List.find?_some hf
    have h2 := List.mem_range.1 (List.mem_of_find?_eq_some hf)
    have h3 : e = d := Tp.btn_inj h2 h (by simpa using h1)
    rw [h3]
theorem Tp.ofb_some {l : List UInt8} {d : Nat} (h : Tp.ofb l = some d) : d < 256 ∧ Tp.btn d = l :=
  ⟨List.mem_range.1 (List.mem_of_find?_eq_some h), by simpa using List.find?_some h⟩
theorem Tp.ofb_none {l : List UInt8} (h : Tp.ofb l = none) {d : Nat} (hd : d < 256) : Tp.btn d ≠ l := fun e => by
  have := List.find?_eq_none.1 h d (List.mem_range.2 hd)
  simp [e] at this
theorem Tp.ofb_no {l : List UInt8} (h : ∀ d, d < 256 → Tp.btn d ≠ l) : Tp.ofb l = none :=
  List.find?_eq_none.2 fun d hd => by simpa using h d (List.mem_range.1 hd)
/-- One letter more. -/
theorem Tp.or_more : ∀ i : Fin 8, ∀ d : Fin 256, d.1 % 2 ^ (8 - i.1) = 0 → bits .or .u8 (d.1 : Int) ((128 / 2 ^ i.1 : Nat) : Int) = ((d.1 + 128 / 2 ^ i.1 : Nat) : Int) ∧ d.1 + 128 / 2 ^ i.1 < 256 ∧ (d.1 + 128 / 2 ^ i.1) % 2 ^ (7 - i.1) = 0 ∧ Tp.bt (d.1 + 128 / 2 ^ i.1) i.1 = Tp.lt i.1 ∧ Tp.bt d.1 i.1 = 46 ∧ d.1 % 2 ^ (7 - i.1) = 0 ∧ ∀ j : Fin 8, j.1 < i.1 → Tp.bt (d.1 + 128 / 2 ^ i.1) j.1 = Tp.bt d.1 j.1 := by decide +kernel
theorem Tp.and_bit : ∀ i : Fin 8, ∀ d : Fin 256, (bits .and .u8 (d.1 : Int) ((128 / 2 ^ i.1 : Nat) : Int) == 0) = (Tp.bt d.1 i.1 == 46) ∧ ((bits .and .u8 (d.1 : Int) ((128 / 2 ^ i.1 : Nat) : Int) == 0) = false → Tp.bt d.1 i.1 = Tp.lt i.1) := by decide +kernel
theorem Tp.bt_two (d i : Nat) : Tp.bt d i = 46 ∨ Tp.bt d i = Tp.lt i := by unfold Tp.bt; split <;> simp
/-- A row of cells that may be written. -/
structure Tp.Row (W : World) (b : Nat) (L : List Value) : Prop where
  z : b < W.heap.size
  c : W.rangeAt b 0 L
  f : ∀ o, o < L.length → W.frozen? ⟨b, o, none⟩ = false
theorem Tp.Row.at {W : World} {b : Nat} {L : List Value} (h : Tp.Row W b L) (i : Nat) (v : Value) (e : L[i]? = some v) : W.cell? ⟨b, i, none⟩ = some v := by have := h.c i v e; rwa [Nat.zero_add] at this
theorem Tp.Row.set {W : World} {b : Nat} {L : List Value} (h : Tp.Row W b L) (i : Nat) (v : Value) (hi : i < L.length) : Tp.Row (W.setCell ⟨b, i, none⟩ v) b (L.set i v) := by
  refine ⟨by simpa using h.z, fun j x hj => ?_, fun o ho => by simpa using h.f o (by simpa using ho)⟩
  rw [Nat.zero_add]
  by_cases e : i = j
  · subst e
    rw [List.getElem?_set_self hi] at hj
    have hs : (W.cell? ⟨b, i, none⟩).isSome := by rw [h.at i _ (List.getElem?_eq_getElem hi)]; rfl
    rw [← hj]
    exact World.cell?_setCell_same' _ _ _ hs
  · rw [List.getElem?_set_ne e] at hj
    exact (World.cell?_setCell_other _ _ _ _ (by intro x; exact e (congrArg Addr.off x))).trans (h.at j x hj)
/-- While Buttons runs: so many bytes are settled. -/
def Tp.pre (d j : Nat) : List UInt8 := (Tp.btn d).take j ++ Tp.lts.drop j
theorem Tp.pre_len (d j : Nat) : (Tp.pre d j).length = 8 := by
  unfold Tp.pre
  rw [List.length_append, List.length_take, List.length_drop, Tp.btn_len, show Tp.lts.length = 8 from rfl]
  omega
theorem Tp.pre_next : ∀ j : Fin 8, ∀ d : Fin 256, Tp.pre d.1 (j.1 + 1) = (Tp.pre d.1 j.1).set j.1 (Tp.bt d.1 j.1) ∧ (Tp.pre d.1 j.1)[j.1]? = some (Tp.lt j.1) := by decide +kernel
theorem Tp.pre_8 (d : Nat) : Tp.pre d 8 = Tp.btn d := by
  unfold Tp.pre
  rw [List.take_of_length_le (by rw [Tp.btn_len]; exact Nat.le_refl _), show Tp.lts.drop 8 = [] from rfl, List.append_nil]
end Go.Proofs.YtbfflipcmciapaaDoor
