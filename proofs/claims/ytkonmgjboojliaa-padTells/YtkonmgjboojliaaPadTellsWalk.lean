/-
  The Go text of the law PadTells returns true for any pad, any script and any byte.
-/
import Derived.Test.YtkonmgjboojliaaPadA
namespace Go.Proofs.Ytkonmgjboojliaa
open Go.ChangeShapes Go.WideShapes Go.ChangeAt Go.RowKit
set_option linter.unusedVariables false

/-- Between two of the script's bytes: a pad lies at its box. -/
structure TellW (w : World) (d s : Int) (l : Bool) (W : World) : Prop where
  low : Below w.heap.size w W
  z : w.heap.size < W.heap.size
  c : W.rangeAt w.heap.size 0 [.int .u8 d, .bool l, .int .u8 s]
  f : ∀ o, W.frozen? ⟨w.heap.size, o, none⟩ = false
  hd : 0 ≤ d ∧ d ≤ 255
  hs : 0 ≤ s ∧ s ≤ 255
theorem TellW.put {w W w1 : World} {d s d' s' : Int} {l l' : Bool} (h : TellW w d s l W) (hb : Below W.heap.size W w1) (hd : 0 ≤ d' ∧ d' ≤ 255) (hs : 0 ≤ s' ∧ s' ≤ 255) :
    TellW w d' s' l' (w1.setCells w.heap.size 0 [.int .u8 d', .bool l', .int .u8 s']) := by
  have hth : W.there w.heap.size 0 3 := fun j hj => by
    have hj' : j < [Value.int .u8 d, .bool l, .int .u8 s].length := hj
    exact ⟨by rw [h.c j _ (List.getElem?_eq_getElem hj')]; rfl, h.f _⟩
  have hF := Pl.fin [.int .u8 d', .bool l', .int .u8 s'] hth h.low hb h.z (Nat.le_refl _)
  refine ⟨hF.1, ?_, hF.2, fun o => ?_, hd, hs⟩
  · rw [setC_size]; exact Nat.lt_of_lt_of_le h.z hb.size
  · rw [World.frozen?_setCells]
    exact (hb.frozen (p := ⟨w.heap.size, o, none⟩) h.z).trans (h.f o)
theorem sel_bd {l : Bool} {a b : Int} (ha : 0 ≤ a ∧ a ≤ 255) (hb : 0 ≤ b ∧ b ≤ 255) : 0 ≤ sel l a b ∧ sel l a b ≤ 255 := sel_ind (P := fun x => 0 ≤ x ∧ x ≤ 255) l ha hb
theorem next_bd (s : Int) : 0 ≤ s * 2 % 256 + 1 ∧ s * 2 % 256 + 1 ≤ 256 := by omega
set_option maxRecDepth 100000 in
set_option maxHeartbeats 1600000 in
theorem tells_walk (d s x : Int) (l : Bool) (v : Value) (sc : List Int) (w : World) (hd : 0 ≤ d ∧ d ≤ 255) (hs : 0 ≤ s ∧ s ≤ 255) (hx : 0 ≤ x ∧ x ≤ 255) (hv : isAt .u8 w v sc) (hl : sc.length ≤ maxLen) (hw : ∀ y ∈ sc, (Lit.int .u8 y).wf = true) :
    Calls Try.prog 4 #[.agg #[.int .u8 d, .bool l, .int .u8 s], v, .int .u8 x] w fun e w' => e = .returned (.bool true) ∧ Below w.heap.size w w' := by
  unfold maxLen at hl
  obtain ⟨a, c, rfl⟩ := hv.len
  have HV := hid hv
  have HW := hid hw
  clear hv hw
  go_enter Try.func4, Try.ntmps4
  go_wp2
  go_loopw [14] (fun i wr => ∃ (j : Nat) (d s : Int) (l : Bool), j ≤ sc.length ∧ i = .int .i64 j ∧ TellW w d s l wr) (fun i _ => sc.length - (intOf i).toNat)
  case atStart =>
    refine ⟨0, d, s, l, by omega, rfl, stA (st0 w) _, by simp, ?_, fun o => Lib.frozen_of_heap (heap_alloc_new w _) o, hd, hs⟩
    intro j v hj
    rw [Nat.zero_add, Pl.new _ _ _ _ rfl]
    simpa using hj
  case round =>
    clear hd hs
    obtain ⟨j, d', s', l', hj, rfl, hT⟩ := hrel
    have HT := hid hT
    have hd := hT.hd
    have hs := hT.hs
    have c0 := hT.c 0 _ rfl
    have c1 := hT.c 1 _ rfl
    have c2 := hT.c 2 _ rfl
    simp only [Nat.zero_add, Nat.add_zero] at c0 c1 c2
    have hf := hT.f
    have hz := hT.z
    clear hT
    by_cases hlt : j < sc.length
    · have hlt' : (j : Int) < sc.length := by omega
      obtain ⟨y, hy⟩ : ∃ y, sc[j]? = some y := ⟨_, List.getElem?_eq_getElem hlt⟩
      obtain ⟨g, o, rfl, hg, hc⟩ := HV.out.at HT.out.low hy
      have hyb := bounds_u8 (HW.out y (List.mem_of_getElem? hy))
      have HY := hid hy
      clear hy
      have hq : IntKind.u8.wrap (y.tdiv 3) = y / 3 := by rw [Int.tdiv_eq_ediv_of_nonneg hyb.1]; simp [IntKind.wrap, IntKind.bits, IntKind.signed]; omega
      have hq3 : 0 ≤ y / 3 ∧ y / 3 ≤ 255 := by omega
      have h3 : y % 3 = 0 ∨ y % 3 = 1 ∨ y % 3 = 2 := by omega
      rcases h3 with h3 | h3 | h3
      all_goals
        have hm : IntKind.u8.wrap (y.tmod 3) = y % 3 := by rw [Int.tmod_eq_emod_of_nonneg hyb.1]; simp [IntKind.wrap, IntKind.bits, IntKind.signed]; omega
        rw [h3] at hm
        go_wp2_with (first
          | (go_at_call 9; refine (write_any _ _ _ _ _ hq3).mono ?_; rintro e w1 ⟨rfl, hb1⟩; obtain ⟨k1, f1⟩ := bcell hb1)
          | (go_at_call 5; refine (read_pad _ _ _ _ hd hs).mono ?_; rintro e w1 ⟨rfl, hb1⟩; obtain ⟨k1, f1⟩ := bcell hb1)
          | (go_at_call 11; refine (press_any _ _ _ _ _).mono ?_; rintro e w1 ⟨rfl, hb1⟩; obtain ⟨k1, f1⟩ := bcell hb1))
        go_roundw
        case rel =>
          refine ⟨j + 1, _, _, _, by omega, by go_num, HT.out.put hb1 ?_ ?_⟩ <;> first | assumption | exact sel_bd (by omega) (by omega)
        case measure => simp [intOf]; omega
    · obtain rfl : j = sc.length := by omega
      go_wp2_with (first
        | (go_at_call 11; refine (press_any _ _ _ _ _).mono ?_; rintro e w1 ⟨rfl, hb1⟩; obtain ⟨k1, f1⟩ := bcell hb1; have z1 := Nat.lt_of_lt_of_le hz hb1.size)
        | (go_at_call 6; refine (all_any _ _ _ _ hx (sel_bd hx hs)).mono ?_; rintro e w2 ⟨rfl, hb2⟩; obtain ⟨k2, f2⟩ := bcell hb2; have z2 := Nat.lt_of_lt_of_le hz (Nat.le_trans hb1.size hb2.size))
        | (go_at_call 5; refine (read_pad _ _ _ _ hx (by omega)).mono ?_; rintro e w3 ⟨rfl, hb3⟩)
        | (go_at_call 8; refine (pressed_any _).mono ?_; rintro e w4 ⟨rfl, hb4⟩))
      go_ret
      have hP := (HT.out.put (l' := false) (stp hb1 hb2) hx (show 0 ≤ (255 : Int) ∧ (255 : Int) ≤ 255 by omega)).low
      exact ⟨ret_b rfl, stp (stA (stp hP hb3) _) hb4⟩
end Go.Proofs.Ytkonmgjboojliaa
