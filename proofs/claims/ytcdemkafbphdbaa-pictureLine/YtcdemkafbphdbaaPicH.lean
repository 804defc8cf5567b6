/-
  Package picture: Whole.
-/
import Derived.Test.YtcdemkafbphdbaaPicG
import Derived.Deep.OwnRows
namespace Go.Proofs.Ytcdemkafbphdbaa
open Go.ChangeShapes Go.WideShapes Go.ChangeAt Go.RowKit
set_option linter.unusedVariables false

theorem putL_get (L : List Value) (o : Nat) (vs : List Value) (j : Nat) : (putL L o vs)[j]? = if o ≤ j ∧ j < o + vs.length ∧ j < L.length then vs[j - o]? else L[j]? := by
  induction vs generalizing L o with
  | nil => rw [putL, if_neg]; rintro ⟨h1, h2, _⟩; simp at h2; omega
  | cons v vs ih =>
    rw [putL, ih]
    simp only [List.length_set, List.length_cons]
    by_cases e : j = o
    · subst e
      rw [if_neg (by omega)]
      by_cases hl : j < L.length
      · rw [if_pos (by omega), List.getElem?_set_self hl, Nat.sub_self]; rfl
      · rw [if_neg (by omega), List.getElem?_eq_none (by simp; omega), List.getElem?_eq_none (by omega)]
    · by_cases h : o + 1 ≤ j ∧ j < o + 1 + vs.length ∧ j < L.length
      · rw [if_pos h, if_pos (by omega), show j - o = (j - (o + 1)) + 1 by omega]; rfl
      · rw [if_neg h, if_neg (by omega), List.getElem?_set_ne (Ne.symm e)]
/-- So many lines lie there. -/
structure RwW (W : World) (b : Nat) (m : List UInt8) (n : Nat) : Prop where
  b : ∃ L, L.length = 128 ∧ Bx W b L ∧ ∀ k, k < n → ∀ x, x < 16 → L[k * 16 + x]? = some (.int .u8 (px m k x))
theorem RwW.kept {W w1 : World} {b : Nat} {m : List UInt8} {n : Nat} (h : RwW W b m n) (hb : Below W.heap.size W w1) : RwW w1 b m n := by
  obtain ⟨L, h1, h2, h3⟩ := h.b
  exact ⟨L, h1, h2.kept hb, h3⟩
theorem RwW.z {W : World} {b : Nat} {m : List UInt8} {n : Nat} (h : RwW W b m n) : b < W.heap.size := by
  obtain ⟨L, h1, h2, h3⟩ := h.b
  exact h2.z
theorem RwW.row {W : World} {b : Nat} {m : List UInt8} {n : Nat} (h : RwW W b m n) (k : Nat) (hk : k < n) : W.rangeAt b (k * 16) (row16 (px m k)) := fun j v hj => by
  obtain ⟨L, h1, h2, h3⟩ := h.b
  have hjl := (List.getElem?_eq_some_iff.1 hj).1
  rw [row16_len] at hjl
  rw [row16_at _ hjl] at hj
  rw [← hj]
  have := h2.at (k * 16 + j) _ (h3 k hk j hjl)
  rw [this]
theorem RwW.there {W : World} {b : Nat} {m : List UInt8} {n : Nat} (h : RwW W b m n) (k : Nat) (hk : k < 8) : W.there b (k * 16) 16 := by
  obtain ⟨L, h1, h2, h3⟩ := h.b
  exact h2.there (k * 16) 16 (by omega)
theorem RwW.put {W : World} {b : Nat} {m : List UInt8} {n : Nat} (h : RwW W b m n) (hn : n < 8) : RwW (W.setCells b (n * 16) (row16 (px m n))) b m (n + 1) := by
  obtain ⟨L, h1, h2, h3⟩ := h.b
  refine ⟨putL L (n * 16) (row16 (px m n)), by rw [puts_len]; exact h1, h2.puts _ _ (by rw [row16_len]; omega), fun k hk x hx => ?_⟩
  rw [putL_get, row16_len]
  by_cases e : k = n
  · subst e
    rw [if_pos (by omega), show k * 16 + x - k * 16 = x by omega]
    exact row16_at _ hx
  · rw [if_neg (by omega)]
    exact h3 k (by omega) x hx
theorem info_line : (Try.prog.info? 23).map (fun i => (i.zero, i.size, i.bytes)) = some (some (.agg (row16 fun _ => 0).toArray), 16, 16) := by kernel_rfl
theorem own_bx {W : World} {B b s n c : Nat} {e : TypeId} {xs : List Value} (h : W.ownsRow B e s (.slice (some ⟨b, 0, none⟩) n c) n xs) : Bx W b xs := by
  rcases h.2 with ⟨h1, _⟩ | ⟨g, cap, cur, h1, hb, hg, hn, hm, hs, ht⟩
  · cases h1
  · simp only [Value.slice.injEq, Option.some.injEq, Addr.mk.injEq] at h1
    obtain ⟨⟨rfl, _⟩, _⟩ := h1
    refine ⟨(Array.getElem?_eq_some_iff.1 hg).1, fun j v hj => ?_, fun o => Lib.frozen_of_heap hg o⟩
    have hjl := (List.getElem?_eq_some_iff.1 hj).1
    rw [h.1] at hjl
    rw [Nat.zero_add, Lib.cell_of_heap hg j, ← hj, ← ht, List.getElem?_take, if_pos hjl]
    simp
/-- An array of sixteen is stored, in the midst. -/
theorem st16o {ops : Array Oper} {rest : List Oper} {op : Oper} {a : Act} {w : World} {Q : Exit → Act → World → Prop} (hgd : op.guard = none) (x z : Operand) (ho : op.op = .store 23 x z) (b o : Nat) (f : Nat → Nat) (hx : a.eval x = .pointer (some ⟨b, o, none⟩)) (hz : a.eval z = .agg (row16 f).toArray) (hb : w.there b o 16)
    (h : ∀ w', w' = w.setCells b o (row16 f) → wpList Try.prog ops Q rest (a.put op.dst undef) w') : wpList Try.prog ops Q (op :: rest) a w := by
  refine wpList_store_mid hgd 23 x z ho b o (row16 f).toArray hx hz ?_ (by simp only [List.size_toArray, row16_len]; exact info16) (row16_one f) ?_
  · simp only [List.size_toArray, row16_len]; exact hb
  · exact h _ rfl
set_option maxRecDepth 100000 in
theorem whole_err (a : Option Addr) (n c : Nat) (w : World) (h : n ≠ 256) :
    Calls Try.prog 8 #[.slice a n c] w fun e w' => e = .returned (.tuple #[.slice none 0 0, .int .i64 4]) ∧ w = w' := by
  have he : ckP n 0 = 4 := by unfold ckP; rw [if_neg h]
  have HE := hid he
  clear he
  go_enter Try.func8, Try.ntmps8
  go_wp2_with (first
    | (go_at_call 14; refine (check_any _ _ _ _ _).mono ?_; rw [HE.out]; rintro e w1 ⟨rfl, rfl⟩))
  refine bodyPost_ret (v := .tuple #[.slice none 0 0, .int .i64 4]) (by simp [results, Try.results8, go_sem]) rfl ⟨rfl, rfl⟩
set_option maxRecDepth 100000 in
set_option maxHeartbeats 1600000 in
theorem whole_ok (m : List UInt8) (v : Value) (g o c : Nat) (w : World) (h : Mm w m v g o c) :
    Calls Try.prog 8 #[v] w fun e w' => ∃ b, e = .returned (.tuple #[.slice (some ⟨b, 0, none⟩) 8 8, .int .i64 0]) ∧ RwW w' b m 8 ∧ Below w.heap.size w w' := by
  have H := hid h
  obtain ⟨rfl, hl, hz, hc⟩ := h
  have he : ckP 256 0 = 0 := by unfold ckP; rw [if_pos rfl, if_pos (by omega)]
  have HE := hid he
  clear hc he
  go_enter Try.func8, Try.ntmps8
  obtain ⟨i0, hi0, hz0, hz1, hz2⟩ := info_parts info_line
  have HI : Hid (Try.prog.info? 23 = some i0 ∧ i0.zero = some (.agg (row16 fun _ => 0).toArray) ∧ i0.size = 16 ∧ i0.bytes * 8 ≤ 281474976710656) := ⟨hi0, hz0, hz1, by rw [hz2]; omega⟩
  clear hi0 hz0 hz1 hz2
  go_wp2_with (first
    | (go_at_call 14; refine (check_any _ _ _ _ _).mono ?_; rw [HE.out]; rintro e w1 ⟨rfl, rfl⟩)
    | (at_make; refine wpList_make_full _ (by rfl) _ _ 30 (by rfl) w.heap.size 23 i0 _ 16 Try.underlying30 HI.out.1 HI.out.2.1 HI.out.2.2.1 .i64 .i64 8 8 8 (by rfl) (by rfl) rfl rfl HI.out.2.2.2 (by unfold maxLen; omega) (Nat.le_refl _) ?_; intro w1 hown hgrow; have HOwn := hid hown; have HGr := hid hgrow; clear hown hgrow))
  have HB1 : Hid (Below w.heap.size w w1) := (Below.refl _ w).grown HGr.out (Nat.le_refl _) (fun k hk => by cases hk)
  have HR0 : Hid (RwW w1 w.heap.size m 0) := ⟨_, HOwn.out.1, own_bx HOwn.out, fun k hk => by omega⟩
  clear HOwn HGr HI
  go_loopw [15] (fun i W => ∃ j : Nat, j ≤ 8 ∧ i = .int .i64 j ∧ RwW W w.heap.size m j ∧ Below w.heap.size w W) (fun i _ => 8 - (intOf i).toNat)
  case atStart => exact ⟨0, Nat.zero_le _, rfl, HR0.out, HB1.out⟩
  case round =>
    clear HR0 HB1
    obtain ⟨j, hj, rfl, hR, hbl⟩ := hrel
    have HR := hid hR
    have HB := hid hbl
    clear hR hbl
    by_cases h8 : j < 8
    · have h8' : (j : Int) < 8 := by omega
      go_wp2_with (first
        | (go_at_call 15; refine (pixels_any m _ g o c j _ (H.out.kept HB.out) h8).mono ?_; rintro e w2 ⟨rfl, hb2⟩; have HR2 := hid (HR.out.kept hb2); have HB2 := hid (stp HB.out hb2); clear hb2)
        | (refine st16o rfl _ _ rfl w.heap.size (j * 16) (px m j) rfl rfl (HR2.out.there j h8) ?_; rintro w3 hw3; have HW3 := hid hw3; clear hw3))
      refine ⟨⟨j + 1, h8, by go_num, ?_, ?_⟩, by simp [intOf]; omega⟩
      · rw [HW3.out]; exact HR2.out.put h8
      · rw [HW3.out]; exact Bl.puts HB2.out (Nat.le_refl _) _
    · have h9 : ¬ (j : Int) < 8 := by omega
      have e8 : j = 8 := by omega
      subst e8
      go_wp2
      exact bodyPost_ret (v := .tuple #[.slice (some ⟨w.heap.size, 0, none⟩) 8 8, .int .i64 0]) (by simp [results, Try.results8, go_sem]) rfl ⟨_, rfl, HR.out, HB.out⟩
end Go.Proofs.Ytcdemkafbphdbaa
