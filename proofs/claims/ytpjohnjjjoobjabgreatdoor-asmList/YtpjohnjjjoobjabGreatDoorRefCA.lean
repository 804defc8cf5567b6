/-
  What the reference's IsOp answers, and what its CheckOrder reads, round by round; nothing old is written.
-/
import Derived.Test.YtpjohnjjjoobjabGreatDoorKindsA
import Derived.Test.YtpjohnjjjoobjabGreatDoorOrdB
import Derived.Deep.DeepCutAuto
namespace Go.Proofs.YtpjohnjjjoobjabGreatDoor
open Go.ChangeShapes Go.WideShapes Go.ChangeAt Go.RowKit
set_option linter.unusedVariables false

theorem isOp_any (op : Int) (w : World) : Calls Tryz.prog 52 #[.int .i64 op] w fun e w' => e = .returned (.bool (O.isOp op)) ∧ w' = w := by
  have e : ∀ b, O.isOp op = b → Hid (O.isOp op = b) := fun _ h => h
  by_cases h1 : 0 ≤ op
  · by_cases h2 : op ≤ 31
    · by_cases h3 : op = 30
      · subst h3
        have e := e false (by decide)
        go_enter Tryz.func52, Tryz.ntmps52
        go_wp2
        go_ret
        rw [e.out]
        exact ⟨rfl, rfl⟩
      · have e := e true ((O.isOp_iff op).2 ⟨h1, h2, h3⟩)
        have h3' : (op != 30) = true := by simpa using h3
        go_enter Tryz.func52, Tryz.ntmps52
        go_wp2
        go_ret
        rw [e.out]
        exact ⟨rfl, rfl⟩
    · have e := e false (by rw [Bool.eq_false_iff]; intro h; exact h2 ((O.isOp_iff op).1 h).2.1)
      go_enter Tryz.func52, Tryz.ntmps52
      go_wp2
      go_ret
      rw [e.out]
      exact ⟨rfl, rfl⟩
  · have e := e false (by rw [Bool.eq_false_iff]; intro h; exact h1 ((O.isOp_iff op).1 h).1)
    go_enter Tryz.func52, Tryz.ntmps52
    go_wp2
    go_ret
    rw [e.out]
    exact ⟨rfl, rfl⟩
theorem facts_alloc {w : World} (h : Facts w) {o : Obj} : Facts (w.alloc o) := h.kept (stA (st0 _) _)
theorem facts_drew {w : World} (h : Facts w) : Facts w.drew := h.kept (st0 _).drew
/-- Block b holds the kind of order k, block c the order that came in. -/
structure refAt (w : World) (b c k : Nat) (d s n ww : Int) : Prop where
  k0 : w.cell? ⟨b, 0, none⟩ = some (.string (K.name k))
  k1 : w.cell? ⟨b, 1, none⟩ = some (.string (K.has k))
  k2 : w.cell? ⟨b, 2, none⟩ = some (.int .i64 (K.cyc k))
  o0 : w.cell? ⟨c, 0, none⟩ = some (.int .i64 k)
  o1 : w.cell? ⟨c, 1, none⟩ = some (.int .i64 d)
  o2 : w.cell? ⟨c, 2, none⟩ = some (.int .i64 s)
  o3 : w.cell? ⟨c, 3, none⟩ = some (.int .i64 n)
  o4 : w.cell? ⟨c, 4, none⟩ = some (.int .i64 ww)
  blt : b < w.heap.size
  clt : c < w.heap.size
theorem boxKept {w X w1 : World} {k : Nat} {d s n ww : Int} {t : TypeId} (hX : Below (w.alloc (.cells #[.int .i64 k, .int .i64 d, .int .i64 s, .int .i64 n, .int .i64 ww] t)).heap.size (w.alloc (.cells #[.int .i64 k, .int .i64 d, .int .i64 s, .int .i64 n, .int .i64 ww] t)) X) (hb : Below X.heap.size X w1) :
    w1.cell? ⟨w.heap.size, 0, none⟩ = some (.int .i64 k) ∧ w.heap.size < w1.heap.size ∧ Below (w.alloc (.cells #[.int .i64 k, .int .i64 d, .int .i64 s, .int .i64 n, .int .i64 ww] t)).heap.size (w.alloc (.cells #[.int .i64 k, .int .i64 d, .int .i64 s, .int .i64 n, .int .i64 ww] t)) w1 := by
  have hB := stp hX hb
  exact ⟨(hB.cell (by simp)).trans (by simp), by have := hB.size; simp at this; omega, hB⟩
theorem boxCells {w w1 : World} {k : Nat} {d s n ww : Int} {t : TypeId} (hB : Below (w.alloc (.cells #[.int .i64 k, .int .i64 d, .int .i64 s, .int .i64 n, .int .i64 ww] t)).heap.size (w.alloc (.cells #[.int .i64 k, .int .i64 d, .int .i64 s, .int .i64 n, .int .i64 ww] t)) w1) :
    w1.cell? ⟨w.heap.size, 0, none⟩ = some (.int .i64 k) ∧ w1.cell? ⟨w.heap.size, 1, none⟩ = some (.int .i64 d) ∧ w1.cell? ⟨w.heap.size, 2, none⟩ = some (.int .i64 s) ∧ w1.cell? ⟨w.heap.size, 3, none⟩ = some (.int .i64 n) ∧ w1.cell? ⟨w.heap.size, 4, none⟩ = some (.int .i64 ww) ∧ w.heap.size < w1.heap.size ∧ Below w.heap.size w w1 :=
  ⟨(hB.cell (by simp)).trans (by simp), (hB.cell (by simp)).trans (by simp), (hB.cell (by simp)).trans (by simp), (hB.cell (by simp)).trans (by simp), (hB.cell (by simp)).trans (by simp), by have := hB.size; simp at this; omega, stp (stA (st0 _) _) hB⟩
theorem meetA {w w1 : World} {k : Nat} {d s n ww : Int} {t t' : TypeId} (hB : Below (w.alloc (.cells #[.int .i64 k, .int .i64 d, .int .i64 s, .int .i64 n, .int .i64 ww] t)).heap.size (w.alloc (.cells #[.int .i64 k, .int .i64 d, .int .i64 s, .int .i64 n, .int .i64 ww] t)) w1) :
    ∃ b, Value.pointer (some ⟨w1.heap.size, 0, none⟩) = Value.pointer (some ⟨b, 0, none⟩) ∧ refAt (w1.alloc (.cells #[.string (K.name k), .string (K.has k), .int .i64 (K.cyc k)] t')) b w.heap.size k d s n ww ∧ Below w.heap.size w (w1.alloc (.cells #[.string (K.name k), .string (K.has k), .int .i64 (K.cyc k)] t')) := by
  obtain ⟨h0, h1, h2, h3, h4, hz, hb⟩ := boxCells hB
  have f : ∀ i v, w1.cell? ⟨w.heap.size, i, none⟩ = some v → (w1.alloc (.cells #[.string (K.name k), .string (K.has k), .int .i64 (K.cyc k)] t')).cell? ⟨w.heap.size, i, none⟩ = some v := fun i v h => (World.cell?_alloc_lt _ _ _ hz).trans h
  exact ⟨_, rfl, ⟨cell_new _ _ _ _ rfl, cell_new _ _ _ _ rfl, cell_new _ _ _ _ rfl, f _ _ h0, f _ _ h1, f _ _ h2, f _ _ h3, f _ _ h4, by simp, by simp; omega⟩, stA hb _⟩
theorem meetB {w w1 : World} {k : Nat} {d s n ww : Int} {t : TypeId} {a b c : Value} (hB : Below (w.alloc (.cells #[.int .i64 k, .int .i64 d, .int .i64 s, .int .i64 n, .int .i64 ww] t)).heap.size (w.alloc (.cells #[.int .i64 k, .int .i64 d, .int .i64 s, .int .i64 n, .int .i64 ww] t)) w1)
    (z0 : w1.cell? ⟨w.heap.size + 1, 0, none⟩ = some a) (z1 : w1.cell? ⟨w.heap.size + 1, 1, none⟩ = some b) (z2 : w1.cell? ⟨w.heap.size + 1, 2, none⟩ = some c) :
    ∃ b, Value.pointer (some ⟨w.heap.size + 1, 0, none⟩) = Value.pointer (some ⟨b, 0, none⟩) ∧ refAt (((w1.setCell ⟨w.heap.size + 1, 0, none⟩ (.string (K.name k))).setCell ⟨w.heap.size + 1, 1, none⟩ (.string (K.has k))).setCell ⟨w.heap.size + 1, 2, none⟩ (.int .i64 (K.cyc k))) b w.heap.size k d s n ww ∧
      Below w.heap.size w (((w1.setCell ⟨w.heap.size + 1, 0, none⟩ (.string (K.name k))).setCell ⟨w.heap.size + 1, 1, none⟩ (.string (K.has k))).setCell ⟨w.heap.size + 1, 2, none⟩ (.int .i64 (K.cyc k))) := by
  obtain ⟨h0, h1, h2, h3, h4, hz, hb⟩ := boxCells hB
  have hz2 : w.heap.size + 1 < w1.heap.size := World.block_lt_of_cell? w1 _ z0
  have f : ∀ i v, w1.cell? ⟨w.heap.size, i, none⟩ = some v → (((w1.setCell ⟨w.heap.size + 1, 0, none⟩ (.string (K.name k))).setCell ⟨w.heap.size + 1, 1, none⟩ (.string (K.has k))).setCell ⟨w.heap.size + 1, 2, none⟩ (.int .i64 (K.cyc k))).cell? ⟨w.heap.size, i, none⟩ = some v := fun i v h => by
    rw [World.cell?_setCell_far _ _ _ _ (by simp), World.cell?_setCell_far _ _ _ _ (by simp), World.cell?_setCell_far _ _ _ _ (by simp)]
    exact h
  have e1 : (w1.setCell ⟨w.heap.size + 1, 0, none⟩ (.string (K.name k))).cell? ⟨w.heap.size + 1, 1, none⟩ = some b := (World.cell?_setCell_other _ _ _ _ (by simp)).trans z1
  have e2 : ((w1.setCell ⟨w.heap.size + 1, 0, none⟩ (.string (K.name k))).setCell ⟨w.heap.size + 1, 1, none⟩ (.string (K.has k))).cell? ⟨w.heap.size + 1, 2, none⟩ = some c := (World.cell?_setCell_other _ _ _ _ (by simp)).trans ((World.cell?_setCell_other _ _ _ _ (by simp)).trans z2)
  refine ⟨_, rfl, ⟨?_, ?_, World.cell?_setCell_same _ _ _ e2, f _ _ h0, f _ _ h1, f _ _ h2, f _ _ h3, f _ _ h4, by simpa using hz2, by simpa using hz⟩, ((hb.setCell (Nat.le_succ _) _).setCell (Nat.le_succ _) _).setCell (Nat.le_succ _) _⟩
  · rw [World.cell?_setCell_other _ _ _ _ (by simp), World.cell?_setCell_other _ _ _ _ (by simp)]
    exact World.cell?_setCell_same _ _ _ z0
  · rw [World.cell?_setCell_other _ _ _ _ (by simp)]
    exact World.cell?_setCell_same _ _ _ e1
theorem sh_cases (k : Nat) (hk : k < 32) : ((K.name k).toList = [115, 104, 108] ∧ O.lowN k = 0) ∨ (((K.name k).toList == [115, 104, 108]) = false ∧ ((K.name k).toList == [115, 104, 114]) = true ∧ O.lowN k = 0) ∨
    (((K.name k).toList == [115, 104, 108]) = false ∧ ((K.name k).toList == [115, 104, 114]) = false ∧ O.lowN k = -16) := by
  revert k
  decide +kernel
theorem ckr_no (op d s n ww : Int) (h : O.isOp op = false) (w : World) :
    Calls Tryz.prog 24 #[.agg #[.int .i64 op, .int .i64 d, .int .i64 s, .int .i64 n, .int .i64 ww]] w fun e w' => e = .returned (.int .i64 5) ∧ Below w.heap.size w w' := by
  have H := hid h
  clear h
  go_enter Tryz.func24, Tryz.ntmps24
  go_wp2_with (go_at_call 52; refine (isOp_any op _).mono ?_; rw [H.out]; rintro e w' ⟨rfl, rfl⟩)
  go_ret
  exact ⟨rfl, stA (st0 _) _⟩
/-- What a round of the check reads: the four parts with their limits, and the order's letters. -/
structure RA (w0 wr : World) (B kb k : Nat) (d s n ww low : Int) : Prop where
  c0 : wr.cell? ⟨B, 0, none⟩ = some (.string ⟨#[100]⟩)
  c1 : wr.cell? ⟨B, 1, none⟩ = some (.int .i64 d)
  c2 : wr.cell? ⟨B, 2, none⟩ = some (.int .i64 0)
  c3 : wr.cell? ⟨B, 3, none⟩ = some (.int .i64 7)
  c4 : wr.cell? ⟨B, 4, none⟩ = some (.string ⟨#[115]⟩)
  c5 : wr.cell? ⟨B, 5, none⟩ = some (.int .i64 s)
  c6 : wr.cell? ⟨B, 6, none⟩ = some (.int .i64 0)
  c7 : wr.cell? ⟨B, 7, none⟩ = some (.int .i64 7)
  c8 : wr.cell? ⟨B, 8, none⟩ = some (.string ⟨#[110]⟩)
  c9 : wr.cell? ⟨B, 9, none⟩ = some (.int .i64 n)
  c10 : wr.cell? ⟨B, 10, none⟩ = some (.int .i64 low)
  c11 : wr.cell? ⟨B, 11, none⟩ = some (.int .i64 15)
  c12 : wr.cell? ⟨B, 12, none⟩ = some (.string ⟨#[119]⟩)
  c13 : wr.cell? ⟨B, 13, none⟩ = some (.int .i64 ww)
  c14 : wr.cell? ⟨B, 14, none⟩ = some (.int .i64 0)
  c15 : wr.cell? ⟨B, 15, none⟩ = some (.int .i64 65535)
  hs : wr.cell? ⟨kb, 1, none⟩ = some (.string (K.has k))
  bl : B < wr.heap.size
  kl : kb < wr.heap.size
  be : Below w0.heap.size w0 wr
theorem RA.alloc {w0 wr : World} {B kb k : Nat} {d s n ww low : Int} (h : RA w0 wr B kb k d s n ww low) (o : Obj) : RA w0 (wr.alloc o) B kb k d s n ww low := by
  have f : ∀ i v, wr.cell? ⟨B, i, none⟩ = some v → (wr.alloc o).cell? ⟨B, i, none⟩ = some v := fun i v e => (World.cell?_alloc_lt _ _ _ h.bl).trans e
  exact ⟨f _ _ h.c0, f _ _ h.c1, f _ _ h.c2, f _ _ h.c3, f _ _ h.c4, f _ _ h.c5, f _ _ h.c6, f _ _ h.c7, f _ _ h.c8, f _ _ h.c9, f _ _ h.c10, f _ _ h.c11, f _ _ h.c12, f _ _ h.c13, f _ _ h.c14, f _ _ h.c15, (World.cell?_alloc_lt _ _ _ h.kl).trans h.hs, Nat.lt_of_lt_of_le h.bl (by simp), Nat.lt_of_lt_of_le h.kl (by simp), stA h.be _⟩
def cells16 (d s n ww low : Int) : Array Value := #[.string ⟨#[100]⟩, .int .i64 d, .int .i64 0, .int .i64 7, .string ⟨#[115]⟩, .int .i64 s, .int .i64 0, .int .i64 7, .string ⟨#[110]⟩, .int .i64 n, .int .i64 low, .int .i64 15, .string ⟨#[119]⟩, .int .i64 ww, .int .i64 0, .int .i64 65535]
theorem RA_start {w0 wc : World} {kb k : Nat} {d s n ww low : Int} {t : TypeId} (h1 : wc.cell? ⟨kb, 1, none⟩ = some (.string (K.has k))) (hkl : kb < wc.heap.size) (hb : Below w0.heap.size w0 wc) :
    RA w0 (wc.alloc (.cells (cells16 d s n ww low) t)) wc.heap.size kb k d s n ww low := by
  have e : ∀ i, (wc.alloc (.cells (cells16 d s n ww low) t)).cell? ⟨wc.heap.size, i, none⟩ = (cells16 d s n ww low)[i]? := fun i => cell_new _ _ _ _ rfl
  exact ⟨e 0, e 1, e 2, e 3, e 4, e 5, e 6, e 7, e 8, e 9, e 10, e 11, e 12, e 13, e 14, e 15, (World.cell?_alloc_lt _ _ _ hkl).trans h1, by simp, by simp; omega, stA hb _⟩
/-- The first j parts are right. -/
def okR (k : Nat) (d s n ww : Int) (j : Nat) : Prop := (0 < j → O.part (O.hasC k 100) d 0 7 = true) ∧ (1 < j → O.part (O.hasC k 115) s 0 7 = true) ∧ (2 < j → O.part (O.hasC k 110) n (O.lowN k) 15 = true) ∧ (3 < j → O.part (O.hasC k 119) ww 0 65535 = true)
theorem okR_4 {k : Nat} {d s n ww : Int} (h : okR k d s n ww 4) : O.okB k d s n ww = true := by
  obtain ⟨h1, h2, h3, h4⟩ := h
  unfold O.okB
  rw [h1 (by omega), h2 (by omega), h3 (by omega), h4 (by omega)]; rfl
theorem part_t {x l u : Int} (h : l ≤ x ∧ x ≤ u) : O.part true x l u = true := by unfold O.part; simp [h]
theorem part_f {x l u : Int} (h : ¬ (l ≤ x ∧ x ≤ u)) : O.part true x l u = false := by unfold O.part; simp; omega
theorem part_0 {x l u : Int} (h : x = 0) : O.part false x l u = true := by unfold O.part; simp [h]
theorem part_1 {x l u : Int} (h : ¬ x = 0) : O.part false x l u = false := by unfold O.part; simp [h]
theorem okR_no0 {k : Nat} {d s n ww : Int} (h : O.part (O.hasC k 100) d 0 7 = false) : O.okB k d s n ww = false := by unfold O.okB; rw [h]; simp
theorem okR_s0 {k : Nat} {d s n ww : Int} (a : okR k d s n ww 0) (h : O.part (O.hasC k 100) d 0 7 = true) : okR k d s n ww 1 := by
  obtain ⟨h1, h2, h3, h4⟩ := a
  exact ⟨fun _ => h, fun hh => absurd hh (by omega), fun hh => absurd hh (by omega), fun hh => absurd hh (by omega)⟩
theorem has_0 : ∀ k, k < 32 → decide (0 ≤ Lib.indexByte (K.has k).data.toList 100) = O.hasC k 100 := by decide +kernel
theorem contains_0 (k : Nat) (hk : k < 32) (w : World) : Calls Tryz.prog 29 #[.string (K.has k), .string ⟨#[100]⟩] w fun e w' => e = .returned (.bool (O.hasC k 100)) ∧ w' = w := by
  have h := Tryz.strings_Contains_one (K.has k) 100 w
  rw [has_0 k hk] at h
  exact h
theorem okR_no1 {k : Nat} {d s n ww : Int} (h : O.part (O.hasC k 115) s 0 7 = false) : O.okB k d s n ww = false := by unfold O.okB; rw [h]; simp
theorem okR_s1 {k : Nat} {d s n ww : Int} (a : okR k d s n ww 1) (h : O.part (O.hasC k 115) s 0 7 = true) : okR k d s n ww 2 := by
  obtain ⟨h1, h2, h3, h4⟩ := a
  exact ⟨fun _ => h1 (by omega), fun _ => h, fun hh => absurd hh (by omega), fun hh => absurd hh (by omega)⟩
theorem has_1 : ∀ k, k < 32 → decide (0 ≤ Lib.indexByte (K.has k).data.toList 115) = O.hasC k 115 := by decide +kernel
theorem contains_1 (k : Nat) (hk : k < 32) (w : World) : Calls Tryz.prog 29 #[.string (K.has k), .string ⟨#[115]⟩] w fun e w' => e = .returned (.bool (O.hasC k 115)) ∧ w' = w := by
  have h := Tryz.strings_Contains_one (K.has k) 115 w
  rw [has_1 k hk] at h
  exact h
theorem okR_no2 {k : Nat} {d s n ww : Int} (h : O.part (O.hasC k 110) n (O.lowN k) 15 = false) : O.okB k d s n ww = false := by unfold O.okB; rw [h]; simp
theorem okR_s2 {k : Nat} {d s n ww : Int} (a : okR k d s n ww 2) (h : O.part (O.hasC k 110) n (O.lowN k) 15 = true) : okR k d s n ww 3 := by
  obtain ⟨h1, h2, h3, h4⟩ := a
  exact ⟨fun _ => h1 (by omega), fun _ => h2 (by omega), fun _ => h, fun hh => absurd hh (by omega)⟩
theorem has_2 : ∀ k, k < 32 → decide (0 ≤ Lib.indexByte (K.has k).data.toList 110) = O.hasC k 110 := by decide +kernel
theorem contains_2 (k : Nat) (hk : k < 32) (w : World) : Calls Tryz.prog 29 #[.string (K.has k), .string ⟨#[110]⟩] w fun e w' => e = .returned (.bool (O.hasC k 110)) ∧ w' = w := by
  have h := Tryz.strings_Contains_one (K.has k) 110 w
  rw [has_2 k hk] at h
  exact h
theorem okR_no3 {k : Nat} {d s n ww : Int} (h : O.part (O.hasC k 119) ww 0 65535 = false) : O.okB k d s n ww = false := by unfold O.okB; rw [h]; simp
theorem okR_s3 {k : Nat} {d s n ww : Int} (a : okR k d s n ww 3) (h : O.part (O.hasC k 119) ww 0 65535 = true) : okR k d s n ww 4 := by
  obtain ⟨h1, h2, h3, h4⟩ := a
  exact ⟨fun _ => h1 (by omega), fun _ => h2 (by omega), fun _ => h3 (by omega), fun _ => h⟩
theorem has_3 : ∀ k, k < 32 → decide (0 ≤ Lib.indexByte (K.has k).data.toList 119) = O.hasC k 119 := by decide +kernel
theorem contains_3 (k : Nat) (hk : k < 32) (w : World) : Calls Tryz.prog 29 #[.string (K.has k), .string ⟨#[119]⟩] w fun e w' => e = .returned (.bool (O.hasC k 119)) ∧ w' = w := by
  have h := Tryz.strings_Contains_one (K.has k) 119 w
  rw [has_3 k hk] at h
  exact h
end Go.Proofs.YtpjohnjjjoobjabGreatDoor
