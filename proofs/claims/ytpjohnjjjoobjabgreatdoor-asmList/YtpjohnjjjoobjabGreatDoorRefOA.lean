/-
  What the reference's OrderOf answers, for any two words: what package order's Read does; nothing old is written.
-/
import Derived.Test.YtpjohnjjjoobjabGreatDoorKindsA
import Derived.Test.YtpjohnjjjoobjabGreatDoorOrdE3
import Derived.Laws.RangeString
namespace Go.Proofs.YtpjohnjjjoobjabGreatDoor
open Go.ChangeShapes Go.WideShapes Go.ChangeAt Go.RowKit
set_option linter.unusedVariables false

/-! ### an order's parts, letter by letter -/
def fD (p : List UInt8) (a : Int) : Int := if p.contains 100 then a / 256 % 8 else 0
def fS (p : List UInt8) (a : Int) : Int := if p.contains 115 then a / 32 % 8 else 0
def fN (p : List UInt8) (k : Nat) (a : Int) : Int := if p.contains 110 then O.nOf k a else 0
def fW (p : List UInt8) (b : Int) : Int := if p.contains 119 then b else 0
def fL (p : List UInt8) : Int := if p.contains 119 then 2 else 1
/-- The letters of an order. -/
def lets (k : Nat) : List UInt8 := (K.row k).2.1
theorem lets_ok : ∀ k, k < 32 → (lets k).all (fun c => c == 100 || c == 115 || c == 110 || c == 119) = true := by decide +kernel
theorem lets_size (k : Nat) : (K.has k).size = (lets k).length := rfl
theorem take_snoc (l : List UInt8) (j : Nat) (c : UInt8) (h : l[j]? = some c) : l.take (j + 1) = l.take j ++ [c] := by
  rw [List.take_add_one, h]; rfl
theorem step_c {l : List UInt8} {j : Nat} {c x : UInt8} (hc : l[j]? = some c) : (l.take (j + 1)).contains x = ((l.take j).contains x || c == x) := by
  rw [take_snoc l j c hc, Bool.eq_iff_iff, Bool.or_eq_true, List.contains_iff_mem, List.contains_iff_mem, List.mem_append, List.mem_singleton, beq_iff_eq]
  exact ⟨fun h => h.imp id Eq.symm, fun h => h.imp id Eq.symm⟩
theorem fD_step {l : List UInt8} {j : Nat} {c : UInt8} (hc : l[j]? = some c) (a : Int) : fD (l.take (j + 1)) a = if c == 100 then a / 256 % 8 else fD (l.take j) a := by
  unfold fD; rw [step_c hc]; cases (l.take j).contains 100 <;> cases (c == 100) <;> rfl
theorem fS_step {l : List UInt8} {j : Nat} {c : UInt8} (hc : l[j]? = some c) (a : Int) : fS (l.take (j + 1)) a = if c == 115 then a / 32 % 8 else fS (l.take j) a := by
  unfold fS; rw [step_c hc]; cases (l.take j).contains 115 <;> cases (c == 115) <;> rfl
theorem fN_step {l : List UInt8} {j : Nat} {c : UInt8} (hc : l[j]? = some c) (k : Nat) (a : Int) : fN (l.take (j + 1)) k a = if c == 110 then O.nOf k a else fN (l.take j) k a := by
  unfold fN; rw [step_c hc]; cases (l.take j).contains 110 <;> cases (c == 110) <;> rfl
theorem fW_step {l : List UInt8} {j : Nat} {c : UInt8} (hc : l[j]? = some c) (b : Int) : fW (l.take (j + 1)) b = if c == 119 then b else fW (l.take j) b := by
  unfold fW; rw [step_c hc]; cases (l.take j).contains 119 <;> cases (c == 119) <;> rfl
theorem fL_step {l : List UInt8} {j : Nat} {c : UInt8} (hc : l[j]? = some c) : fL (l.take (j + 1)) = if c == 119 then 2 else fL (l.take j) := by
  unfold fL; rw [step_c hc]; cases (l.take j).contains 119 <;> cases (c == 119) <;> rfl
theorem name_shl : ∀ k, k < 32 → ((K.name k).toList == [115, 104, 108]) = decide (k = 12) := by decide +kernel
theorem name_shr : ∀ k, k < 32 → ((K.name k).toList == [115, 104, 114]) = decide (k = 13) := by decide +kernel
theorem nOf_1 {k : Nat} (hk : k < 32) {a : Int} (h : (K.name k).toList = [115, 104, 108]) : O.nOf k a = a % 16 := by
  have := name_shl k hk
  rw [h] at this
  unfold O.nOf
  rw [if_pos (Or.inl (by simpa using this))]
theorem nOf_2 {k : Nat} (hk : k < 32) {a : Int} (h : ((K.name k).toList == [115, 104, 108]) = true ∨ ((K.name k).toList == [115, 104, 114]) = true) : O.nOf k a = a % 16 := by
  rw [name_shl k hk, name_shr k hk] at h
  unfold O.nOf
  rw [if_pos (by simpa using h)]
theorem nOf_3 {k : Nat} (hk : k < 32) {a : Int} (h : ((K.name k).toList == [115, 104, 108]) = false ∧ ((K.name k).toList == [115, 104, 114]) = false) (ha : 16 ≤ a % 32) : O.nOf k a = a % 32 - 32 := by
  rw [name_shl k hk, name_shr k hk] at h
  unfold O.nOf
  rw [if_neg (by simpa using h), if_pos ha]
theorem nOf_4 {k : Nat} (hk : k < 32) {a : Int} (h : ((K.name k).toList == [115, 104, 108]) = false ∧ ((K.name k).toList == [115, 104, 114]) = false) (ha : a % 32 < 16) : O.nOf k a = a % 32 := by
  rw [name_shl k hk, name_shr k hk] at h
  unfold O.nOf
  rw [if_neg (by simpa using h), if_neg (by omega)]
theorem newRes1 {w w1 : World} {t : TypeId} (hb1 : Below (w.alloc (.cells #[.int .i64 0, .int .i64 0, .int .i64 0, .int .i64 0, .int .i64 0] t)).heap.size (w.alloc (.cells #[.int .i64 0, .int .i64 0, .int .i64 0, .int .i64 0, .int .i64 0] t)) w1) :
    (∀ i, i < 5 → w1.cell? ⟨w.heap.size, i, none⟩ = some (.int .i64 0)) ∧ ∀ i, w1.frozen? ⟨w.heap.size, i, none⟩ = false := by
  refine ⟨fun i hi => ?_, fun i => ?_⟩
  · rw [hb1.cell (by simp), cell_new _ _ _ _ rfl]
    have hc : i = 0 ∨ i = 1 ∨ i = 2 ∨ i = 3 ∨ i = 4 := by omega
    rcases hc with rfl | rfl | rfl | rfl | rfl <;> rfl
  · rw [hb1.frozen (by simp)]
    simp
theorem orderOf_30 (a b : Int) (ha : 0 ≤ a ∧ a ≤ 65535) (hb : 0 ≤ b ∧ b ≤ 65535) (h30 : a / 2048 = 30) (w : World) :
    Calls Tryz.prog 33 #[.int .u16 a, .int .u16 b] w fun e w' => e = .returned (.tuple #[.agg #[.int .i64 31, .int .i64 0, .int .i64 0, .int .i64 0, .int .i64 0], .int .i64 1]) ∧ Below w.heap.size w w' := by
  obtain ⟨ha1, ha2⟩ := ha
  go_enter Tryz.func33, Tryz.ntmps33
  go_wp2
  exact bodyPost_ret (v := .tuple #[.agg #[.int .i64 31, .int .i64 0, .int .i64 0, .int .i64 0, .int .i64 0], .int .i64 1]) (by simp [results, Tryz.results33, go_sem]) rfl ⟨rfl, stA (st0 _) _⟩
/-- The world in a round: the order's kind, the order so far, the letters' reader. -/
def rw0 (w1 : World) (k : Nat) (x : Int) (p : List UInt8) (a b : Int) : World :=
  (w1.alloc (.cells #[.string (K.name k), .string (K.has k), .int .i64 (K.cyc k)] 51)).alloc (.cells #[.int .i64 x, .int .i64 (fD p a), .int .i64 (fS p a), .int .i64 (fN p k a), .int .i64 (fW p b)] 47)
theorem iter_eq (w : World) (s : ByteArray) (i : Nat) : w.iter s i = w.alloc (.stringIter s i) := rfl
theorem next_c (w : World) (B : Nat) (hB : B = w.heap.size) (s : ByteArray) (i : Nat) (c : UInt8) (hi : i < s.size) (hc : s[i]'hi = c) (ha : c.toNat < 128) (ty : TypeId) : (Instr.next (.pointer (some ⟨B, 0, none⟩)) true ty).run Tryz.prog (w.alloc (.stringIter s i)) =
    .ok (.tuple #[.bool true, .int .i64 i, .int .i32 c.toNat]) (w.alloc (.stringIter s (i + 1))) := by
  subst hB
  have := run_next_ascii (P := Tryz.prog) w s i ty hi (by rw [hc]; exact ha)
  rw [hc] at this
  exact this
theorem next_e (w : World) (B : Nat) (hB : B = w.heap.size) (s : ByteArray) (i : Nat) (hi : ¬ i < s.size) (ty : TypeId) : (Instr.next (.pointer (some ⟨B, 0, none⟩)) true ty).run Tryz.prog (w.alloc (.stringIter s i)) = .ok (.tuple #[.bool false]) (w.alloc (.stringIter s i)) := by
  subst hB
  exact run_next_end (P := Tryz.prog) w s i ty hi
theorem lets_at (k j : Nat) (hi : j < (K.has k).size) : (lets k)[j]? = some ((K.has k)[j]'hi) := by
  have h : j < (lets k).length := hi
  rw [List.getElem?_eq_getElem h]
  rfl
theorem lets_or (k j : Nat) (hk : k < 32) (hi : j < (K.has k).size) : (K.has k)[j]'hi = 100 ∨ (K.has k)[j]'hi = 115 ∨ (K.has k)[j]'hi = 110 ∨ (K.has k)[j]'hi = 119 := by
  have := List.all_eq_true.1 (lets_ok k hk) _ (List.mem_of_getElem? (lets_at k j hi))
  simpa [or_assoc] using this
/-- Where the reader in block B stands. -/
def posOf (w : World) (B : Nat) : Nat := match w.heap[B]? with | some (.stringIter _ i) => i | _ => 0
theorem posOf_at (w : World) (B : Nat) (s : ByteArray) (i : Nat) (hB : B = w.heap.size) : posOf (w.alloc (.stringIter s i)) B = i := by
  subst hB
  unfold posOf
  rw [show (w.alloc (.stringIter s i)).heap[w.heap.size]? = some (.stringIter s i) from World.iter_heap w s i]
theorem rw0_size (w1 : World) (k : Nat) (x : Int) (p : List UInt8) (a b : Int) : w1.heap.size + 1 + 1 = (rw0 w1 k x p a b).heap.size := by unfold rw0; simp
set_option maxRecDepth 100000 in
set_option maxHeartbeats 1600000 in
theorem orderOf_k (k : Nat) (hk : k < 32) (h30 : k ≠ 30) (a b : Int) (ha : 0 ≤ a ∧ a ≤ 65535) (hb : 0 ≤ b ∧ b ≤ 65535) (hak : a / 2048 = k) (w : World) (hF : Facts w) :
    Calls Tryz.prog 33 #[.int .u16 a, .int .u16 b] w fun e w' => e = .returned (.tuple #[.agg #[.int .i64 k, .int .i64 (fD (lets k) a), .int .i64 (fS (lets k) a), .int .i64 (fN (lets k) k a), .int .i64 (fW (lets k) b)], .int .i64 (fL (lets k))]) ∧ Below w.heap.size w w' := by
  obtain ⟨ha1, ha2⟩ := ha
  obtain ⟨hb1', hb2'⟩ := hb
  have h30' : ((k : Int) == 30) = false := by simp; omega
  have HF := hid hF
  have hit := iter_eq
  clear hF
  go_enter Tryz.func33, Tryz.ntmps33
  go_wp2_with (go_at_call 23; refine (kinds_of _ (HF.out.kept (stA (st0 _) _))).mono ?_; rintro e w1 ⟨g, cap, rfl, htb, hg1, hg2, hb1⟩; obtain ⟨c0, c1, c2⟩ := htb k hk; have hz1 := lt_box hb1; clear htb)
  go_loopw [10] (fun L wr => ∃ j : Nat, j ≤ (lets k).length ∧ L = .int .i64 (fL ((lets k).take j)) ∧ wr = (rw0 w1 k k ((lets k).take j) a b).alloc (.stringIter (K.has k) j)) (fun _ wr => (lets k).length - posOf wr (w1.heap.size + 1 + 1))
  case atStart => exact ⟨0, by omega, rfl, rfl⟩
  case round =>
    obtain ⟨j, hj, rfl, rfl⟩ := hrel
    by_cases hlt : j < (lets k).length
    · have hi : j < (K.has k).size := hlt
      rcases lets_or k j hk hi with hc | hc | hc | hc
      · have hcl : (lets k)[j]? = some 100 := by rw [lets_at k j hi, hc]
        have hnx := next_c (rw0 w1 k k ((lets k).take j) a b) (w1.heap.size + 1 + 1) (rw0_size ..) (K.has k) j 100 hi hc (by decide)
        have HC := hid hcl
        clear hcl hc
        unfold rw0 at hnx ⊢
        go_wp2
        all_goals
          have eD := (fD_step HC.out a).trans (if_pos (by decide))
          have eS := (fS_step HC.out a).trans (if_neg (by decide))
          have eN := ((fN_step HC.out k a).trans (if_neg (by decide)))
          have eW := (fW_step HC.out b).trans (if_neg (by decide))
          have eL := (fL_step HC.out).trans (if_neg (by decide))
          refine ⟨⟨j + 1, by omega, by rw [eL], by rw [eD, eS, eN, eW]⟩, ?_⟩
          rw [posOf_at _ _ _ _ (by simp), posOf_at _ _ _ _ (by simp)]
          omega
      · have hcl : (lets k)[j]? = some 115 := by rw [lets_at k j hi, hc]
        have hnx := next_c (rw0 w1 k k ((lets k).take j) a b) (w1.heap.size + 1 + 1) (rw0_size ..) (K.has k) j 115 hi hc (by decide)
        have HC := hid hcl
        clear hcl hc
        unfold rw0 at hnx ⊢
        go_wp2
        all_goals
          have eD := (fD_step HC.out a).trans (if_neg (by decide))
          have eS := (fS_step HC.out a).trans (if_pos (by decide))
          have eN := ((fN_step HC.out k a).trans (if_neg (by decide)))
          have eW := (fW_step HC.out b).trans (if_neg (by decide))
          have eL := (fL_step HC.out).trans (if_neg (by decide))
          refine ⟨⟨j + 1, by omega, by rw [eL], by rw [eD, eS, eN, eW]⟩, ?_⟩
          rw [posOf_at _ _ _ _ (by simp), posOf_at _ _ _ _ (by simp)]
          omega
      · have hcl : (lets k)[j]? = some 110 := by rw [lets_at k j hi, hc]
        have hnx := next_c (rw0 w1 k k ((lets k).take j) a b) (w1.heap.size + 1 + 1) (rw0_size ..) (K.has k) j 110 hi hc (by decide)
        have HC := hid hcl
        clear hcl hc
        unfold rw0 at hnx ⊢
        go_wp2
        all_goals
          have eD := (fD_step HC.out a).trans (if_neg (by decide))
          have eS := (fS_step HC.out a).trans (if_neg (by decide))
          have eN := ((fN_step HC.out k a).trans (if_pos (by decide)))
          have eW := (fW_step HC.out b).trans (if_neg (by decide))
          have eL := (fL_step HC.out).trans (if_neg (by decide))
          have eN2 := eN.trans (by first | exact nOf_1 hk (by assumption) | exact nOf_2 hk (by assumption) | exact nOf_3 hk (by assumption) (by assumption) | exact nOf_4 hk (by assumption) (by assumption))
          refine ⟨⟨j + 1, by omega, by rw [eL], by rw [eD, eS, eN2, eW]⟩, ?_⟩
          rw [posOf_at _ _ _ _ (by simp), posOf_at _ _ _ _ (by simp)]
          omega
      · have hcl : (lets k)[j]? = some 119 := by rw [lets_at k j hi, hc]
        have hnx := next_c (rw0 w1 k k ((lets k).take j) a b) (w1.heap.size + 1 + 1) (rw0_size ..) (K.has k) j 119 hi hc (by decide)
        have HC := hid hcl
        clear hcl hc
        unfold rw0 at hnx ⊢
        go_wp2
        all_goals
          have eD := (fD_step HC.out a).trans (if_neg (by decide))
          have eS := (fS_step HC.out a).trans (if_neg (by decide))
          have eN := ((fN_step HC.out k a).trans (if_neg (by decide)))
          have eW := (fW_step HC.out b).trans (if_pos (by decide))
          have eL := (fL_step HC.out).trans (if_pos (by decide))
          refine ⟨⟨j + 1, by omega, by rw [eL], by rw [eD, eS, eN, eW]⟩, ?_⟩
          rw [posOf_at _ _ _ _ (by simp), posOf_at _ _ _ _ (by simp)]
          omega
    · obtain rfl : j = (lets k).length := by omega
      have hnx := next_e (rw0 w1 k k ((lets k).take (lets k).length) a b) (w1.heap.size + 1 + 1) (rw0_size ..) (K.has k) (lets k).length (by rw [lets_size]; omega)
      obtain ⟨r1, r2⟩ := newRes1 hb1
      have hz2 : w.heap.size < w1.heap.size + 1 := by omega
      have hz3 : w.heap.size < w1.heap.size + 1 + 1 := by omega
      rw [List.take_length] at hnx ⊢
      unfold rw0 at hnx ⊢
      go_wp2
      refine bodyPost_ret (v := .tuple #[.agg #[.int .i64 k, .int .i64 (fD (lets k) a), .int .i64 (fS (lets k) a), .int .i64 (fN (lets k) k a), .int .i64 (fW (lets k) b)], .int .i64 (fL (lets k))]) (by simp [results, Tryz.results33, go_sem, r1, hz1, hz2, hz3]) rfl ⟨rfl, ?_⟩
      exact stA (stA (stA ((((((stp (stA (st0 _) _) hb1).setCell (Nat.le_refl _) _).setCell (Nat.le_refl _) _).setCell (Nat.le_refl _) _).setCell (Nat.le_refl _) _).setCell (Nat.le_refl _) _) _) _) _
theorem orderOf_any (a b : Int) (ha : 0 ≤ a ∧ a ≤ 65535) (hb : 0 ≤ b ∧ b ≤ 65535) (w : World) (hF : Facts w) :
    Calls Tryz.prog 33 #[.int .u16 a, .int .u16 b] w fun e w' => e = .returned (.tuple #[.agg #[.int .i64 (O.rOp a), .int .i64 (O.rD a), .int .i64 (O.rS a), .int .i64 (O.rN a), .int .i64 (O.rW a b)], .int .i64 (O.rLen a)]) ∧ Below w.heap.size w w' := by
  by_cases h30 : a / 2048 = 30
  · have hr : O.rk a = 31 := by unfold O.rk O.rOp; rw [if_pos h30]; rfl
    have e : O.rD a = 0 ∧ O.rS a = 0 ∧ O.rN a = 0 ∧ O.rW a b = 0 ∧ O.rLen a = 1 := by
      have h : O.hasC 31 100 = false ∧ O.hasC 31 115 = false ∧ O.hasC 31 110 = false ∧ O.hasC 31 119 = false := by decide +kernel
      unfold O.rD O.rS O.rN O.rW O.rLen
      rw [hr, h.1, h.2.1, h.2.2.1, h.2.2.2]
      exact ⟨rfl, rfl, rfl, rfl, rfl⟩
    have e0 : O.rOp a = 31 := by unfold O.rOp; rw [if_pos h30]
    rw [e0, e.1, e.2.1, e.2.2.1, e.2.2.2.1, e.2.2.2.2]
    exact orderOf_30 a b ha hb h30 w
  · obtain ⟨k, hk⟩ := Int.eq_ofNat_of_zero_le (show 0 ≤ a / 2048 by omega)
    have hr : O.rOp a = (k : Int) := by unfold O.rOp; rw [if_neg h30, hk]
    have hkk : O.rk a = k := by unfold O.rk; rw [hr]; rfl
    unfold O.rD O.rS O.rN O.rW O.rLen
    rw [hkk, hr]
    exact orderOf_k k (by omega) (by omega) a b ha hb hk w hF
end Go.Proofs.YtpjohnjjjoobjabGreatDoor
