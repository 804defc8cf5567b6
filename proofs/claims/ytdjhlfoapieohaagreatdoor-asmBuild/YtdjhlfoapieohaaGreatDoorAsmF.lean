/-
  What package asm's firstLine answers, of any program that isn't empty; nothing old is written.
-/
import Derived.Test.YtdjhlfoapieohaaGreatDoorAsmE
import Derived.Deep.QuietTactic
import Derived.BigQuiet
namespace Go.Proofs.YtdjhlfoapieohaaGreatDoor
open Go.ChangeShapes Go.WideShapes Go.ChangeAt Go.RowKit
set_option linter.unusedVariables false

theorem wordOf_any (a b : UInt8) (w : World) :
    Calls Tryz.prog 65 #[.int .u8 a.toNat, .int .u8 b.toNat] w fun e w' => e = .returned (.int .u16 (S.word a b)) ∧ w' = w := by
  have ha := a.toNat_lt
  have hb := b.toNat_lt
  have hj := M.joined (a.toNat : Int) (b.toNat : Int) (by omega) (by omega) (by omega) (by omega)
  go_enter Tryz.func65, Tryz.ntmps65
  go_wp2
  go_ret
  exact ⟨by rw [show S.word a b = (a.toNat : Int) * 256 + b.toNat from rfl, ← hj]; rfl, rfl⟩
/-- Block g of w holds these bytes, from place o on. -/
def bytesAt (w : World) (g o : Nat) (l : List UInt8) : Prop := ∀ (j : Nat) (c : UInt8), l[j]? = some c → w.cell? ⟨g, o + j, none⟩ = some (.int .u8 c.toNat)
theorem bytesAt.kept {w w' : World} {g o B : Nat} {l : List UInt8} (h : bytesAt w g o l) (hb : Below B w w') (hB : g < B) : bytesAt w' g o l := fun j c hj => (hb.cell hB).trans (h j c hj)
theorem bytesAt.drop {w : World} {g o : Nat} {l : List UInt8} (h : bytesAt w g o l) (n : Nat) : bytesAt w g (o + n) (l.drop n) := fun j c hj => by
  rw [List.getElem?_drop] at hj
  rw [Nat.add_assoc]; exact h (n + j) c hj
theorem st_drewN {w a : World} (h : Below w.heap.size w a) (k : Nat) : Below w.heap.size w (a.drewN k) := by
  induction k with
  | zero => exact h
  | succ k ih => exact ih.drew
theorem af_drewN {w : World} (h : AF w) (k : Nat) : AF (w.drewN k) := h.kept (st_drewN (st0 _) k)
/-- The words of a right order: the first of them. -/
theorem words_first (op d s n ww : Int) (h1 : O.isOp op = true) (hok : O.okB op.toNat d s n ww = true) (w : World) (hs : shapesAt w) :
    Calls Tryz.prog 67 #[.agg #[.int .i64 op, .int .i64 d, .int .i64 s, .int .i64 n, .int .i64 ww]] w fun e w' =>
      ∃ (g c : Nat), e = .returned (.tuple #[.slice (some ⟨g, 0, none⟩) c c, .int .i64 0]) ∧ 0 < c ∧ w'.cell? ⟨g, 0, none⟩ = some (.int .u16 (O.first op d s n)) ∧ g < w'.heap.size ∧ Below w.heap.size w w' := by
  refine (words_yes op d s n ww h1 hok w hs).mono fun e w' ⟨g, he, hw, _, hg, hb⟩ => ?_
  refine ⟨g, (O.words op d s n ww).length, he, ?_, ?_, hg, hb⟩
  · unfold O.words; split <;> simp
  · have := hw 0 (by unfold O.words; split <;> simp)
    rw [this]
    unfold O.words; split <;> rfl
theorem words_read (a b : Int) (ha : 0 ≤ a ∧ a ≤ 65535) (hb : 0 ≤ b ∧ b ≤ 65535) (w : World) (hs : shapesAt w) :
    Calls Tryz.prog 67 #[.agg #[.int .i64 (O.rOp a), .int .i64 (O.rD a), .int .i64 (O.rS a), .int .i64 (O.rN a), .int .i64 (O.rW a b)]] w fun e w' =>
      ∃ (g c : Nat), e = .returned (.tuple #[.slice (some ⟨g, 0, none⟩) c c, .int .i64 0]) ∧ 0 < c ∧ w'.cell? ⟨g, 0, none⟩ = some (.int .u16 (O.first (O.rOp a) (O.rD a) (O.rS a) (O.rN a))) ∧ g < w'.heap.size ∧ Below w.heap.size w w' :=
  words_first _ _ _ _ _ (O.rOp_isOp a ha) (O.read_ok a b ha hb) w hs
theorem orderLine_read (a b : Int) (ha : 0 ≤ a ∧ a ≤ 65535) (hb : 0 ≤ b ∧ b ≤ 65535) (w : World) (hF : AF w) :
    Calls Tryz.prog 69 #[.agg #[.int .i64 (O.rOp a), .int .i64 (O.rD a), .int .i64 (O.rS a), .int .i64 (O.rN a), .int .i64 (O.rW a b)]] w fun e w' => e = .returned (.string (mk (S.orderText (O.rk a) (S.rOrd a b) ++ [10]))) ∧ Below w.heap.size w w' := by
  obtain ⟨o1, o2, o3⟩ := (O.isOp_iff _).1 (O.rOp_isOp a ha)
  have hk : ((O.rk a : Nat) : Int) = O.rOp a := by show (((O.rOp a).toNat : Nat) : Int) = O.rOp a; omega
  have h := orderLine_any (O.rk a) (by show (O.rOp a).toNat < 32; omega) (by show (O.rOp a).toNat ≠ 30; omega) (S.rOrd a b) (O.read_ok a b ha hb) w hF
  rw [hk] at h
  exact h
theorem read_W (a b : Int) (ha : 0 ≤ a ∧ a ≤ 65535) (hb : 0 ≤ b ∧ b ≤ 65535) (w : World) (hs : shapesAt w) :
    Calls Tryz.prog 66 #[.int .u16 a, .int .u16 b] w fun e w' => e = .returned (.tuple #[.agg #[.int .i64 (O.rOp a), .int .i64 (O.rD a), .int .i64 (O.rS a), .int .i64 (O.rN a), .int .i64 (O.rW a b)], .int .i64 (O.rLen a)]) ∧ Below w.heap.size w w' := read_any a b ha hb w hs
theorem quiet_at {P : Program} {f : FuncId} {args : Array Value} {w : World} {q n : Nat} {v : Value}
    (h : Calls P f args (w.drewN (q + n)) fun e w' => e = .returned v ∧ w' = w.drewN (q + n)) : Calls P f args (w.drewN (q + n)) fun e w'' => e = .returned v ∧ ∃ m, w'' = w.drewN (q + m) :=
  h.mono fun _ _ ⟨he, hm⟩ => ⟨he, n, hm⟩
theorem wordText_mk (a : Int) : (⟨#[46, 119, 111, 114, 100, 32]⟩ : ByteArray) ++ mk (Lib.itoa a) ++ (⟨#[10]⟩ : ByteArray) = mk (S.wordText a ++ [10]) := by
  rw [show (⟨#[46, 119, 111, 114, 100, 32]⟩ : ByteArray) = mk [46, 119, 111, 114, 100, 32] from rfl, show (⟨#[10]⟩ : ByteArray) = mk [10] from rfl, mk_append, mk_append]
  simp [S.wordText, S.plain]
set_option maxRecDepth 100000 in
set_option maxHeartbeats 1600000 in
theorem first_21 (g o cap : Nat) (x y : UInt8) (hcap : 2 ≤ cap) (w : World) (hg : g < w.heap.size) (c0 : w.cell? ⟨g, o, none⟩ = some (.int .u8 x.toNat)) (c1 : w.cell? ⟨g, o + 1, none⟩ = some (.int .u8 y.toNat)) (hF : AF w) (hne : ¬ O.first (O.rOp (S.word x y)) (O.rD (S.word x y)) (O.rS (S.word x y)) (O.rN (S.word x y)) = S.word x y) :
    Calls Tryz.prog 40 #[.slice (some ⟨g, o, none⟩) 2 cap] w fun e w' => e = .returned (.tuple #[.string (mk (S.wordText (S.word x y) ++ [10])), .int .i64 2]) ∧ Below w.heap.size w w' := by
  have HF := hid hF
  obtain ⟨a0, a1⟩ := S.word_bd x y
  obtain ⟨l1, l2⟩ : 1 ≤ O.rLen (S.word x y) ∧ O.rLen (S.word x y) ≤ 2 := by rcases S.rLen_or (S.word x y) with h | h <;> rw [h] <;> omega
  have hil : (mk (Lib.itoa (S.word x y))).size ≤ 7 := itoa_len (S.word x y) (by omega)
  have hi1 : ¬ 9223372036854775807 < 6 + (mk (Lib.itoa (S.word x y))).size := by omega
  have hi2 : ¬ 9223372036854775807 < 6 + (mk (Lib.itoa (S.word x y))).size + 1 := by omega
  clear hF hil
  go_enter Tryz.func40, Tryz.ntmps40
  go_wp2
  go_quiet ((go_at_call 65; exact Calls.quiet_of_same (wordOf_any x y _)))
  go_wp2_with (first
    | (go_at_call 66; refine (read_W _ 0 ⟨a0, a1⟩ (by omega) _ (af_drewN HF.out _).shapes).mono ?_; rintro e w1 ⟨rfl, hb1⟩; have hF1 := hid (af_alloc ((af_drewN HF.out _).kept hb1) (.cells #[.int .i64 (O.rOp (S.word x y)), .int .i64 (O.rD (S.word x y)), .int .i64 (O.rS (S.word x y)), .int .i64 (O.rN (S.word x y)), .int .i64 (O.rW (S.word x y) 0)] 42)))
    | (go_at_call 67; refine (words_read (S.word x y) 0 ⟨a0, a1⟩ (by omega) _ hF1.out.shapes).mono ?_; rintro e w2 ⟨g2, k2, rfl, hk2, hc2, hg2, hb2⟩; have hk2' : (0 : Int) < k2 := Int.natCast_pos.2 hk2; have hF2 := hid (hF1.out.kept hb2); obtain ⟨hcc, hff⟩ := bcell hb2; have hz2 := lt_box hb2)
    | (go_at_call 68; refine (itoa_any (S.word x y) (by omega) (by omega) _ hF2.out).mono ?_; rintro e w3 ⟨rfl, hb3⟩))
  go_ret2
  exact ⟨by rw [← wordText_mk]; rfl, stp (stp (stA (stp (st_drewN (st0 w) _) hb1) _) hb2) hb3⟩
set_option maxRecDepth 100000 in
set_option maxHeartbeats 1600000 in
theorem first_22 (g o cap : Nat) (x y : UInt8) (hcap : 2 ≤ cap) (w : World) (hg : g < w.heap.size) (c0 : w.cell? ⟨g, o, none⟩ = some (.int .u8 x.toNat)) (c1 : w.cell? ⟨g, o + 1, none⟩ = some (.int .u8 y.toNat)) (hF : AF w) (hfe : O.first (O.rOp (S.word x y)) (O.rD (S.word x y)) (O.rS (S.word x y)) (O.rN (S.word x y)) = (S.word x y)) (hl : (2 : Int) < 2 * O.rLen (S.word x y)) :
    Calls Tryz.prog 40 #[.slice (some ⟨g, o, none⟩) 2 cap] w fun e w' => e = .returned (.tuple #[.string (mk (S.wordText (S.word x y) ++ [10])), .int .i64 2]) ∧ Below w.heap.size w w' := by
  have HF := hid hF
  obtain ⟨a0, a1⟩ := S.word_bd x y
  obtain ⟨l1, l2⟩ : 1 ≤ O.rLen (S.word x y) ∧ O.rLen (S.word x y) ≤ 2 := by rcases S.rLen_or (S.word x y) with h | h <;> rw [h] <;> omega
  have hil : (mk (Lib.itoa (S.word x y))).size ≤ 7 := itoa_len (S.word x y) (by omega)
  have hi1 : ¬ 9223372036854775807 < 6 + (mk (Lib.itoa (S.word x y))).size := by omega
  have hi2 : ¬ 9223372036854775807 < 6 + (mk (Lib.itoa (S.word x y))).size + 1 := by omega
  have HFE := hid hfe
  have hne : (O.first (O.rOp (S.word x y)) (O.rD (S.word x y)) (O.rS (S.word x y)) (O.rN (S.word x y)) == (S.word x y)) = true := by rw [hfe]; simp
  clear hfe
  clear hF hil
  go_enter Tryz.func40, Tryz.ntmps40
  go_wp2
  go_quiet ((go_at_call 65; exact Calls.quiet_of_same (wordOf_any x y _)))
  go_wp2_with (first
    | (go_at_call 66; refine (read_W _ 0 ⟨a0, a1⟩ (by omega) _ (af_drewN HF.out _).shapes).mono ?_; rintro e w1 ⟨rfl, hb1⟩; have hF1 := hid (af_alloc ((af_drewN HF.out _).kept hb1) (.cells #[.int .i64 (O.rOp (S.word x y)), .int .i64 (O.rD (S.word x y)), .int .i64 (O.rS (S.word x y)), .int .i64 (O.rN (S.word x y)), .int .i64 (O.rW (S.word x y) 0)] 42)))
    | (go_at_call 67; refine (words_read (S.word x y) 0 ⟨a0, a1⟩ (by omega) _ hF1.out.shapes).mono ?_; rintro e w2 ⟨g2, k2, rfl, hk2, hc2, hg2, hb2⟩; have hk2' : (0 : Int) < k2 := Int.natCast_pos.2 hk2; have hF2 := hid (hF1.out.kept hb2); obtain ⟨hcc, hff⟩ := bcell hb2; have hz2 := lt_box hb2)
    | (go_at_call 68; refine (itoa_any (S.word x y) (by omega) (by omega) _ hF2.out).mono ?_; rintro e w3 ⟨rfl, hb3⟩))
  go_ret2
  exact ⟨by rw [← wordText_mk]; rfl, stp (stp (stA (stp (st_drewN (st0 w) _) hb1) _) hb2) hb3⟩
set_option maxRecDepth 100000 in
set_option maxHeartbeats 1600000 in
theorem first_23 (g o cap : Nat) (x y : UInt8) (hcap : 2 ≤ cap) (w : World) (hg : g < w.heap.size) (c0 : w.cell? ⟨g, o, none⟩ = some (.int .u8 x.toNat)) (c1 : w.cell? ⟨g, o + 1, none⟩ = some (.int .u8 y.toNat)) (hF : AF w) (hfe : O.first (O.rOp (S.word x y)) (O.rD (S.word x y)) (O.rS (S.word x y)) (O.rN (S.word x y)) = (S.word x y)) (hl : ¬ (2 : Int) < 2 * O.rLen (S.word x y)) :
    Calls Tryz.prog 40 #[.slice (some ⟨g, o, none⟩) 2 cap] w fun e w' => e = .returned (.tuple #[.string (mk (S.orderText (O.rk (S.word x y)) (S.rOrd (S.word x y) 0) ++ [10])), .int .i64 (2 * O.rLen (S.word x y))]) ∧ Below w.heap.size w w' := by
  have HF := hid hF
  obtain ⟨a0, a1⟩ := S.word_bd x y
  obtain ⟨l1, l2⟩ : 1 ≤ O.rLen (S.word x y) ∧ O.rLen (S.word x y) ≤ 2 := by rcases S.rLen_or (S.word x y) with h | h <;> rw [h] <;> omega
  have hil : (mk (Lib.itoa (S.word x y))).size ≤ 7 := itoa_len (S.word x y) (by omega)
  have hi1 : ¬ 9223372036854775807 < 6 + (mk (Lib.itoa (S.word x y))).size := by omega
  have hi2 : ¬ 9223372036854775807 < 6 + (mk (Lib.itoa (S.word x y))).size + 1 := by omega
  have HFE := hid hfe
  have hne : (O.first (O.rOp (S.word x y)) (O.rD (S.word x y)) (O.rS (S.word x y)) (O.rN (S.word x y)) == (S.word x y)) = true := by rw [hfe]; simp
  clear hfe
  clear hF hil
  go_enter Tryz.func40, Tryz.ntmps40
  go_wp2
  go_quiet ((go_at_call 65; exact Calls.quiet_of_same (wordOf_any x y _)))
  go_wp2_with (first
    | (go_at_call 66; refine (read_W _ 0 ⟨a0, a1⟩ (by omega) _ (af_drewN HF.out _).shapes).mono ?_; rintro e w1 ⟨rfl, hb1⟩; have hF1 := hid (af_alloc ((af_drewN HF.out _).kept hb1) (.cells #[.int .i64 (O.rOp (S.word x y)), .int .i64 (O.rD (S.word x y)), .int .i64 (O.rS (S.word x y)), .int .i64 (O.rN (S.word x y)), .int .i64 (O.rW (S.word x y) 0)] 42)))
    | (go_at_call 67; refine (words_read (S.word x y) 0 ⟨a0, a1⟩ (by omega) _ hF1.out.shapes).mono ?_; rintro e w2 ⟨g2, k2, rfl, hk2, hc2, hg2, hb2⟩; have hk2' : (0 : Int) < k2 := Int.natCast_pos.2 hk2; have hF2 := hid (hF1.out.kept hb2); obtain ⟨hcc, hff⟩ := bcell hb2; have hz2 := lt_box hb2)
    | (go_at_call 69; refine (orderLine_read (S.word x y) 0 ⟨a0, a1⟩ (by omega) _ hF2.out).mono ?_; rintro e w3 ⟨rfl, hb3⟩))
  go_ret2
  exact ⟨rfl, stp (stp (stA (stp (st_drewN (st0 w) _) hb1) _) hb2) hb3⟩
set_option maxRecDepth 100000 in
set_option maxHeartbeats 1600000 in
theorem first_41 (g o n cap : Nat) (x y x2 y2 : UInt8) (hn : (3 : Int) < n) (hcap : n ≤ cap) (w : World) (hg : g < w.heap.size) (c0 : w.cell? ⟨g, o, none⟩ = some (.int .u8 x.toNat)) (c1 : w.cell? ⟨g, o + 1, none⟩ = some (.int .u8 y.toNat)) (c2 : w.cell? ⟨g, o + 2, none⟩ = some (.int .u8 x2.toNat)) (c3 : w.cell? ⟨g, o + 3, none⟩ = some (.int .u8 y2.toNat)) (hF : AF w) (hne : ¬ O.first (O.rOp (S.word x y)) (O.rD (S.word x y)) (O.rS (S.word x y)) (O.rN (S.word x y)) = S.word x y) :
    Calls Tryz.prog 40 #[.slice (some ⟨g, o, none⟩) n cap] w fun e w' => e = .returned (.tuple #[.string (mk (S.wordText (S.word x y) ++ [10])), .int .i64 2]) ∧ Below w.heap.size w w' := by
  have HF := hid hF
  obtain ⟨a0, a1⟩ := S.word_bd x y
  obtain ⟨b0, b1⟩ := S.word_bd x2 y2
  have hn0 : (0 : Int) < n := by omega
  have hn1 : (1 : Int) < n := by omega
  have hn2 : (2 : Int) < n := by omega
  obtain ⟨l1, l2⟩ : 1 ≤ O.rLen (S.word x y) ∧ O.rLen (S.word x y) ≤ 2 := by rcases S.rLen_or (S.word x y) with h | h <;> rw [h] <;> omega
  have hil : (mk (Lib.itoa (S.word x y))).size ≤ 7 := itoa_len (S.word x y) (by omega)
  have hi1 : ¬ 9223372036854775807 < 6 + (mk (Lib.itoa (S.word x y))).size := by omega
  have hi2 : ¬ 9223372036854775807 < 6 + (mk (Lib.itoa (S.word x y))).size + 1 := by omega
  clear hF hil
  go_enter Tryz.func40, Tryz.ntmps40
  go_wp2
  go_quiet ((go_at_call 65; exact Calls.quiet_of_same (wordOf_any x y _)))
  go_wp2
  go_quiet ((go_at_call 65; exact quiet_at (wordOf_any x2 y2 _)))
  go_wp2_with (first
    | (go_at_call 66; refine (read_W _ (S.word x2 y2) ⟨a0, a1⟩ ⟨b0, b1⟩ _ (af_drewN HF.out _).shapes).mono ?_; rintro e w1 ⟨rfl, hb1⟩; have hF1 := hid (af_alloc ((af_drewN HF.out _).kept hb1) (.cells #[.int .i64 (O.rOp (S.word x y)), .int .i64 (O.rD (S.word x y)), .int .i64 (O.rS (S.word x y)), .int .i64 (O.rN (S.word x y)), .int .i64 (O.rW (S.word x y) (S.word x2 y2))] 42)))
    | (go_at_call 67; refine (words_read (S.word x y) (S.word x2 y2) ⟨a0, a1⟩ ⟨b0, b1⟩ _ hF1.out.shapes).mono ?_; rintro e w2 ⟨g2, k2, rfl, hk2, hc2, hg2, hb2⟩; have hk2' : (0 : Int) < k2 := Int.natCast_pos.2 hk2; have hF2 := hid (hF1.out.kept hb2); obtain ⟨hcc, hff⟩ := bcell hb2; have hz2 := lt_box hb2)
    | (go_at_call 68; refine (itoa_any (S.word x y) (by omega) (by omega) _ hF2.out).mono ?_; rintro e w3 ⟨rfl, hb3⟩))
  go_ret2
  exact ⟨by rw [← wordText_mk]; rfl, stp (stp (stA (stp (st_drewN (st0 w) _) hb1) _) hb2) hb3⟩
set_option maxRecDepth 100000 in
set_option maxHeartbeats 1600000 in
theorem first_43 (g o n cap : Nat) (x y x2 y2 : UInt8) (hn : (3 : Int) < n) (hcap : n ≤ cap) (w : World) (hg : g < w.heap.size) (c0 : w.cell? ⟨g, o, none⟩ = some (.int .u8 x.toNat)) (c1 : w.cell? ⟨g, o + 1, none⟩ = some (.int .u8 y.toNat)) (c2 : w.cell? ⟨g, o + 2, none⟩ = some (.int .u8 x2.toNat)) (c3 : w.cell? ⟨g, o + 3, none⟩ = some (.int .u8 y2.toNat)) (hF : AF w) (hfe : O.first (O.rOp (S.word x y)) (O.rD (S.word x y)) (O.rS (S.word x y)) (O.rN (S.word x y)) = (S.word x y)) (hl : ¬ (n : Int) < 2 * O.rLen (S.word x y)) :
    Calls Tryz.prog 40 #[.slice (some ⟨g, o, none⟩) n cap] w fun e w' => e = .returned (.tuple #[.string (mk (S.orderText (O.rk (S.word x y)) (S.rOrd (S.word x y) (S.word x2 y2)) ++ [10])), .int .i64 (2 * O.rLen (S.word x y))]) ∧ Below w.heap.size w w' := by
  have HF := hid hF
  obtain ⟨a0, a1⟩ := S.word_bd x y
  obtain ⟨b0, b1⟩ := S.word_bd x2 y2
  have hn0 : (0 : Int) < n := by omega
  have hn1 : (1 : Int) < n := by omega
  have hn2 : (2 : Int) < n := by omega
  obtain ⟨l1, l2⟩ : 1 ≤ O.rLen (S.word x y) ∧ O.rLen (S.word x y) ≤ 2 := by rcases S.rLen_or (S.word x y) with h | h <;> rw [h] <;> omega
  have hil : (mk (Lib.itoa (S.word x y))).size ≤ 7 := itoa_len (S.word x y) (by omega)
  have hi1 : ¬ 9223372036854775807 < 6 + (mk (Lib.itoa (S.word x y))).size := by omega
  have hi2 : ¬ 9223372036854775807 < 6 + (mk (Lib.itoa (S.word x y))).size + 1 := by omega
  have HFE := hid hfe
  have hne : (O.first (O.rOp (S.word x y)) (O.rD (S.word x y)) (O.rS (S.word x y)) (O.rN (S.word x y)) == (S.word x y)) = true := by rw [hfe]; simp
  clear hfe
  clear hF hil
  go_enter Tryz.func40, Tryz.ntmps40
  go_wp2
  go_quiet ((go_at_call 65; exact Calls.quiet_of_same (wordOf_any x y _)))
  go_wp2
  go_quiet ((go_at_call 65; exact quiet_at (wordOf_any x2 y2 _)))
  go_wp2_with (first
    | (go_at_call 66; refine (read_W _ (S.word x2 y2) ⟨a0, a1⟩ ⟨b0, b1⟩ _ (af_drewN HF.out _).shapes).mono ?_; rintro e w1 ⟨rfl, hb1⟩; have hF1 := hid (af_alloc ((af_drewN HF.out _).kept hb1) (.cells #[.int .i64 (O.rOp (S.word x y)), .int .i64 (O.rD (S.word x y)), .int .i64 (O.rS (S.word x y)), .int .i64 (O.rN (S.word x y)), .int .i64 (O.rW (S.word x y) (S.word x2 y2))] 42)))
    | (go_at_call 67; refine (words_read (S.word x y) (S.word x2 y2) ⟨a0, a1⟩ ⟨b0, b1⟩ _ hF1.out.shapes).mono ?_; rintro e w2 ⟨g2, k2, rfl, hk2, hc2, hg2, hb2⟩; have hk2' : (0 : Int) < k2 := Int.natCast_pos.2 hk2; have hF2 := hid (hF1.out.kept hb2); obtain ⟨hcc, hff⟩ := bcell hb2; have hz2 := lt_box hb2)
    | (go_at_call 69; refine (orderLine_read (S.word x y) (S.word x2 y2) ⟨a0, a1⟩ ⟨b0, b1⟩ _ hF2.out).mono ?_; rintro e w3 ⟨rfl, hb3⟩))
  go_ret2
  exact ⟨rfl, stp (stp (stA (stp (st_drewN (st0 w) _) hb1) _) hb2) hb3⟩
theorem isOrder_iff (a : Int) (len : Nat) : S.isOrder a len = true ↔ O.first (O.rOp a) (O.rD a) (O.rS a) (O.rN a) = a ∧ 2 * O.rLen a ≤ len := by
  unfold S.isOrder
  simp only [Bool.and_eq_true, beq_iff_eq, decide_eq_true_eq]
theorem line_yes (a : Int) (len : Nat) (b : Int) (h : O.first (O.rOp a) (O.rD a) (O.rS a) (O.rN a) = a) (h2 : ¬ (len : Int) < 2 * O.rLen a) : S.lineOf a len b = (S.orderText (O.rk a) (S.rOrd a b), 2 * (O.rLen a).toNat) := by
  unfold S.lineOf
  rw [if_pos ((isOrder_iff a len).2 ⟨h, by omega⟩)]
theorem line_no (a : Int) (len : Nat) (b : Int) (h : ¬ (O.first (O.rOp a) (O.rD a) (O.rS a) (O.rN a) = a ∧ 2 * O.rLen a ≤ len)) : S.lineOf a len b = (S.wordText a, 2) := by
  unfold S.lineOf
  rw [if_neg (fun hh => h ((isOrder_iff a len).1 hh))]
theorem two_rLen (a : Int) : ((2 * (O.rLen a).toNat : Nat) : Int) = 2 * O.rLen a := by rcases S.rLen_or a with h | h <;> rw [h] <;> rfl
/-- The first line of a program that isn't empty. -/
theorem firstLine_any (g o n cap : Nat) (l : List UInt8) (hn : l.length = n) (h2 : 2 ≤ n) (he : n % 2 = 0) (hcap : n ≤ cap) (w : World) (hg : g < w.heap.size) (hb : bytesAt w g o l) (hF : AF w) :
    Calls Tryz.prog 40 #[.slice (some ⟨g, o, none⟩) n cap] w fun e w' => e = .returned (.tuple #[.string (mk ((S.firstLine l).1 ++ [10])), .int .i64 ((S.firstLine l).2 : Nat)]) ∧ Below w.heap.size w w' := by
  match l, hn, hb with
  | x :: y :: r, hn, hb =>
    have c0 := hb 0 x rfl
    have c1 := hb 1 y rfl
    have e : S.firstLine (x :: y :: r) = S.lineOf (S.word x y) n (S.second r) := by rw [← hn]; rfl
    rw [e]
    match r, hn, hb with
    | [], hn, hb =>
      have hn2 : n = 2 := by simpa using hn.symm
      subst hn2
      by_cases hf : O.first (O.rOp (S.word x y)) (O.rD (S.word x y)) (O.rS (S.word x y)) (O.rN (S.word x y)) = S.word x y
      · by_cases hl : ((2 : Nat) : Int) < 2 * O.rLen (S.word x y)
        · rw [line_no _ _ _ (fun h => by omega)]
          exact first_22 g o cap x y hcap w hg c0 c1 hF hf hl
        · rw [line_yes _ _ _ hf hl]
          have := first_23 g o cap x y hcap w hg c0 c1 hF hf hl
          rw [← two_rLen] at this
          exact this
      · rw [line_no _ _ _ (fun h => hf h.1)]
        exact first_21 g o cap x y hcap w hg c0 c1 hF hf
    | [z], hn, hb => simp at hn; omega
    | x2 :: y2 :: q, hn, hb =>
      have c2 := hb 2 x2 rfl
      have c3 := hb 3 y2 rfl
      have hn4 : (3 : Int) < n := by simp at hn; omega
      have es : S.second (x2 :: y2 :: q) = S.word x2 y2 := rfl
      rw [es]
      by_cases hf : O.first (O.rOp (S.word x y)) (O.rD (S.word x y)) (O.rS (S.word x y)) (O.rN (S.word x y)) = S.word x y
      · by_cases hl : (n : Int) < 2 * O.rLen (S.word x y)
        · rcases S.rLen_or (S.word x y) with h | h <;> omega
        · rw [line_yes _ _ _ hf hl]
          have := first_43 g o n cap x y x2 y2 hn4 hcap w hg c0 c1 c2 c3 hF hf hl
          rw [← two_rLen] at this
          exact this
      · rw [line_no _ _ _ (fun h => hf h.1)]
        exact first_41 g o n cap x y x2 y2 hn4 hcap w hg c0 c1 c2 c3 hF hf
  | [x], hn, hb => simp at hn; omega
  | [], hn, hb => simp at hn; omega
end Go.Proofs.YtdjhlfoapieohaaGreatDoor
