/-
  A memory that was made; the closed fact of the laws on pictures.
-/
import Derived.Test.YtcdemkafbphdbaaPicH
namespace Go.Proofs.Ytcdemkafbphdbaa
open Go.ChangeShapes Go.WideShapes Go.ChangeAt Go.RowKit
set_option linter.unusedVariables false

/-- A memory in a box. -/
structure Mb (W : World) (b : Nat) (M : List UInt8) : Prop where
  b : Bx W b (bcs M)
  l : M.length = 256
section
variable {W w1 : World} {b : Nat} {M : List UInt8}
theorem bcs_at {M : List UInt8} {i : Nat} (h : i < M.length) : (bcs M)[i]? = some (.int .u8 (gb M i)) := by
  unfold bcs gb
  rw [List.getElem?_map, List.getElem?_eq_getElem h]
  simp [List.getD, List.getElem?_eq_getElem h]
theorem bcs_len (M : List UInt8) : (bcs M).length = M.length := by simp [bcs]
theorem bcs_set (M : List UInt8) (i n : Nat) (hn : n < 256) : (bcs M).set i (.int .u8 n) = bcs (M.set i (UInt8.ofNat n)) := by
  unfold bcs
  rw [List.map_set]
  congr 2
  show (n : Int) = ((UInt8.ofNat n).toNat : Int)
  rw [UInt8.toNat_ofNat', Nat.mod_eq_of_lt (by simpa using hn)]
theorem Mb.kept (h : Mb W b M) (hb : Below W.heap.size W w1) : Mb w1 b M := ⟨h.b.kept hb, h.l⟩
theorem Mb.over (h : Mb W b M) (o : Obj) : Mb (W.alloc o) b M := h.kept (stA (st0 W) o)
theorem Mb.drew (h : Mb W b M) : Mb W.drew b M := ⟨h.b.drew, h.l⟩
theorem Mb.set (h : Mb W b M) (i n : Nat) (hi : i < 256) (hn : n < 256) : Mb (W.setCell ⟨b, i, none⟩ (.int .u8 n)) b (M.set i (UInt8.ofNat n)) :=
  ⟨bcs_set M i n hn ▸ h.b.set i (.int .u8 n) (by rw [bcs_len, h.l]; exact hi), by rw [List.length_set]; exact h.l⟩
theorem Mb.far (h : Mb W b M) {b' o' : Nat} (hne : b' ≠ b) (v : Value) : Mb (W.setCell ⟨b', o', none⟩ v) b M := ⟨h.b.far hne v, h.l⟩
theorem Mb.at (h : Mb W b M) (i : Nat) (hi : i < 256) : W.cell? ⟨b, i, none⟩ = some (.int .u8 (gb M i)) := h.b.at i _ (bcs_at (by rw [h.l]; exact hi))
theorem Mb.mm (h : Mb W b M) (c : Nat) : Mm W M (.slice (some ⟨b, 0, none⟩) 256 c) b 0 c := ⟨rfl, h.l, h.b.z, fun i hi => by rw [Nat.zero_add]; exact h.at i hi⟩
end
theorem gb_set_same (M : List UInt8) (i n : Nat) (hi : i < M.length) (hn : n < 256) : gb (M.set i (UInt8.ofNat n)) i = n := by
  unfold gb
  rw [List.getD_eq_getElem?_getD, List.getElem?_set_self hi]
  show (UInt8.ofNat n).toNat = n
  rw [UInt8.toNat_ofNat', Nat.mod_eq_of_lt (by simpa using hn)]
theorem gb_set_ne (M : List UInt8) (i j n : Nat) (h : i ≠ j) : gb (M.set i (UInt8.ofNat n)) j = gb M j := by
  unfold gb
  rw [List.getD_eq_getElem?_getD, List.getD_eq_getElem?_getD, List.getElem?_set_ne h]
/-- Sixteen numbers as bytes. -/
def l16 (f : Nat → Nat) : List UInt8 := (List.range 16).map fun x => UInt8.ofNat (f x)
theorem l16_slice {W : World} {b c : Nat} {f : Nat → Nat} (h : Bx W b (row16 f)) (hf : ∀ x, f x < 256) (hc : 16 ≤ c) : sliceAt W (.slice (some ⟨b, 0, none⟩) 16 c) (l16 f) := by
  refine Or.inr ⟨b, 0, c, by simp [l16], by simpa [l16] using hc, h.z, fun j u hj => ?_⟩
  have hjl : j < 16 := by
    have := (List.getElem?_eq_some_iff.1 hj).1
    simpa [l16] using this
  have : (l16 f)[j]? = some (UInt8.ofNat (f j)) := by unfold l16; rw [List.getElem?_map, List.getElem?_range hjl]; rfl
  rw [this] at hj
  cases hj
  rw [h.c j _ (row16_at f hjl)]
  rw [UInt8.toNat_ofNat', Nat.mod_eq_of_lt (by simpa using hf j)]
theorem bx_slice {W : World} {b c n : Nat} {M : List UInt8} (h : Bx W b (bcs M)) (hn : n = M.length) (hc : M.length ≤ c) : sliceAt W (.slice (some ⟨b, 0, none⟩) n c) M := by
  subst hn
  refine Or.inr ⟨b, 0, c, rfl, hc, h.z, fun j u hj => ?_⟩
  refine h.c j _ ?_
  unfold bcs
  rw [List.getElem?_map, hj]
  rfl
theorem lit16 (W : World) {b : Nat} (hb : b = W.heap.size) : sliceAt (W.alloc (.cells #[.int .u8 10, .int .u8 11, .int .u8 12, .int .u8 13, .int .u8 10, .int .u8 11, .int .u8 12, .int .u8 13, .int .u8 10, .int .u8 11, .int .u8 12, .int .u8 13, .int .u8 10, .int .u8 11, .int .u8 12, .int .u8 13] 5)) (.slice (some ⟨b, 0, none⟩) 16 16) [10, 11, 12, 13, 10, 11, 12, 13, 10, 11, 12, 13, 10, 11, 12, 13] :=
  bx_slice (Bx.new W (bcs [10, 11, 12, 13, 10, 11, 12, 13, 10, 11, 12, 13, 10, 11, 12, 13]) _ hb) rfl (by decide)
/-- So many sprites lie nowhere. -/
def nowh (M : List UInt8) : Nat → List UInt8
  | 0 => M
  | n + 1 => (nowh M n).set (128 + 4 * n) (UInt8.ofNat 200)
theorem nowh_len (M : List UInt8) (n : Nat) : (nowh M n).length = M.length := by
  induction n with
  | zero => rfl
  | succ n ih => rw [nowh, List.length_set]; exact ih
/-- Nothing but zeros. -/
def Z256 : List UInt8 := List.replicate 256 0
theorem made256 : (madeCells (Value.int .u8 0).cells (256 * 1)).toList = bcs Z256 := by kernel_rfl
theorem mk256 {w : World} {ops : Array Oper} {rest : List Oper} {o : Oper} {a : Act} {Q : Exit → Act → World → Prop} (hg : o.guard = none) (l c : Operand) (hop : o.op = Op.makeSlice 22 l c) (hl : a.eval l = .int .i64 256) (hc : a.eval c = .int .i64 256)
    (h : ∀ w', Mb w' w.heap.size Z256 → Below w.heap.size w w' → wpList Try.prog ops Q rest (a.put o.dst (.slice (some ⟨w.heap.size, 0, none⟩) 256 256)) w') : wpList Try.prog ops Q (o :: rest) a w := by
  obtain ⟨i0, hi0, hz0, hz1, hz2⟩ := info_parts info_byte
  refine wpList_make_full w hg l c 22 hop w.heap.size 5 i0 _ 1 Try.underlying22 hi0 hz0 hz1 .i64 .i64 256 256 256 hl hc rfl rfl (by rw [hz2]; omega) (by unfold maxLen; omega) (Nat.le_refl _) ?_
  intro w1 hown hgrow
  refine h w1 ⟨?_, by unfold Z256; rw [List.length_replicate]⟩ ((Below.refl _ w).grown hgrow (Nat.le_refl _) (fun k hk => by cases hk))
  have := own_bx hown
  rwa [made256] at this
/-- The memory of the closed fact. -/
def M0 : List UInt8 := ((((Z256.set 16 (UInt8.ofNat 27)).set 160 (UInt8.ofNat 10)).set 161 (UInt8.ofNat 11)).set 162 (UInt8.ofNat 12)).set 163 (UInt8.ofNat 13)
theorem M0_line : l16 (px (nowh M0 8) 0) = [10, 11, 12, 13, 10, 11, 12, 13, 10, 11, 12, 13, 10, 11, 12, 13] := by decide +kernel
set_option maxRecDepth 100000 in
set_option maxHeartbeats 1600000 in
theorem drawnLaw (w : World) : Calls Try.prog 9 #[] w fun e w' => e = .returned (.bool true) ∧ Below w.heap.size w w' := by
  go_enter Try.func9, Try.ntmps9
  go_wp2_with (first
    | (at_make; refine mk256 (by rfl) _ _ (by rfl) (by rfl) (by rfl) ?_; intro w1 hM hb; have HM := hid hM; have HB := hid hb; clear hM hb; have c16 := HM.out.at 16 (by decide); have c160 := HM.out.at 160 (by decide); have c161 := HM.out.at 161 (by decide); have c162 := HM.out.at 162 (by decide); have c163 := HM.out.at 163 (by decide); have fz := HM.out.b.f))
  have HM1 := hid (((((HM.out.set 16 27 (by decide) (by decide)).set 160 10 (by decide) (by decide)).set 161 11 (by decide) (by decide)).set 162 12 (by decide) (by decide)).set 163 13 (by decide) (by decide))
  have HB1 := hid (Bl.set (o := 163) (Bl.set (o := 162) (Bl.set (o := 161) (Bl.set (o := 160) (Bl.set (o := 16) HB.out (Nat.le_refl _) (.int .u8 27)) (Nat.le_refl _) (.int .u8 10)) (Nat.le_refl _) (.int .u8 11)) (Nat.le_refl _) (.int .u8 12)) (Nat.le_refl _) (.int .u8 13))
  clear HM HB c16 c160 c161 c162 c163 fz
  go_loopw [16] (fun i W => ∃ j : Nat, j ≤ 8 ∧ i = .int .i64 j ∧ Mb W w.heap.size (nowh M0 j) ∧ Below w.heap.size w W) (fun i _ => 8 - (intOf i).toNat)
  case atStart => exact ⟨0, Nat.zero_le _, rfl, HM1.out, HB1.out⟩
  case round =>
    clear HM1 HB1
    obtain ⟨j, hj, rfl, hM, hbl⟩ := hrel
    have HM := hid hM
    have HB := hid hbl
    clear hM hbl
    by_cases h8 : j < 8
    · have h8' : (j : Int) < 8 := by omega
      have c0 := HM.out.at (128 + 4 * j) (by omega)
      have f0 := HM.out.b.f (128 + 4 * j)
      go_wp2
      exact ⟨⟨j + 1, h8, by go_num, HM.out.set (128 + 4 * j) 200 (by omega) (by decide), Bl.set HB.out (Nat.le_refl _) _⟩, by simp [intOf]; omega⟩
    · have h9 : ¬ (j : Int) < 8 := by omega
      have e8 : j = 8 := by omega
      subst e8
      have HE : Hid ((l16 (px (nowh M0 8) 0) == [10, 11, 12, 13, 10, 11, 12, 13, 10, 11, 12, 13, 10, 11, 12, 13]) = true) := by rw [M0_line]; rfl
      go_wp2_with (first
        | (go_at_call 6; refine (line_ok (nowh M0 8) _ _ _ _ 0 _ (HM.out.mm 256) (by decide)).mono ?_; rintro e w2 ⟨rfl, hb2⟩; have HB2 := hid (stp HB.out hb2); clear hb2)
        | (refine st16 rfl _ _ rfl w2.heap.size (px (nowh M0 8) 0) (fun _ => 0) rfl rfl (Bx.new w2 (row16 fun _ => 0) _ rfl) ?_; rintro w3 hw3 hB3; have HB3 := hid hB3; have HW3 := hid hw3; clear hB3 hw3)
        | (go_at_call 17; refine (equal_any _ _ (l16 (px (nowh M0 8) 0)) [10, 11, 12, 13, 10, 11, 12, 13, 10, 11, 12, 13, 10, 11, 12, 13] _ ((l16_slice HB3.out (px_lt _ _) (by decide)).kept (stA (st0 w3) _)) (lit16 w3 rfl)).mono ?_; rw [HE.out]; rintro e w4 ⟨rfl, rfl⟩))
      go_ret
      refine ⟨rfl, stA ?_ _⟩
      rw [HW3.out]
      exact Bl.puts (stA HB2.out _) (by have := HB2.out.size; exact this) _
end Go.Proofs.Ytcdemkafbphdbaa
