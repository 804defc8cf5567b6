/-
  Parts of a proof, joined.
-/
import Derived.Test.YtdioiilmpjckfaaZt10
import Derived.Test.YtdioiilmpjckfaaZt32
namespace Go.Proofs.Ytdioiilmpjckfaa
open Go.ChangeShapes Go.WideShapes Go.ChangeAt Go.RowKit
set_option linter.unusedVariables false
set_option maxRecDepth 100000
theorem list2 {s : List Value} (h : s.length = 2) : ∃ c0 c1, s = [c0, c1] := by
  match s, h with
  | [c0, c1], _ => exact ⟨c0, c1, rfl⟩
theorem list3 {s : List Value} (h : s.length = 3) : ∃ c0 c1 c2, s = [c0, c1, c2] := by
  match s, h with
  | [c0, c1, c2], _ => exact ⟨c0, c1, c2, rfl⟩
theorem list4 {s : List Value} (h : s.length = 4) : ∃ c0 c1 c2 c3, s = [c0, c1, c2, c3] := by
  match s, h with
  | [c0, c1, c2, c3], _ => exact ⟨c0, c1, c2, c3, rfl⟩
theorem list6 {s : List Value} (h : s.length = 6) : ∃ c0 c1 c2 c3 c4 c5, s = [c0, c1, c2, c3, c4, c5] := by
  match s, h with
  | [c0, c1, c2, c3, c4, c5], _ => exact ⟨c0, c1, c2, c3, c4, c5, rfl⟩
theorem list15 {s : List Value} (h : s.length = 15) : ∃ c0 c1 c2 c3 c4 c5 c6 c7 c8 c9 c10 c11 c12 c13 c14, s = [c0, c1, c2, c3, c4, c5, c6, c7, c8, c9, c10, c11, c12, c13, c14] := by
  match s, h with
  | [c0, c1, c2, c3, c4, c5, c6, c7, c8, c9, c10, c11, c12, c13, c14], _ => exact ⟨c0, c1, c2, c3, c4, c5, c6, c7, c8, c9, c10, c11, c12, c13, c14, rfl⟩
theorem list16 {s : List Value} (h : s.length = 16) : ∃ c0 c1 c2 c3 c4 c5 c6 c7 c8 c9 c10 c11 c12 c13 c14 c15, s = [c0, c1, c2, c3, c4, c5, c6, c7, c8, c9, c10, c11, c12, c13, c14, c15] := by
  match s, h with
  | [c0, c1, c2, c3, c4, c5, c6, c7, c8, c9, c10, c11, c12, c13, c14, c15], _ => exact ⟨c0, c1, c2, c3, c4, c5, c6, c7, c8, c9, c10, c11, c12, c13, c14, c15, rfl⟩
theorem opn_cpu {H : Type} {enc : TypeId × Value → H} {w : World} {base : Nat} {spare : Nat → Bool} {held : Bool} {n : Nat} {x : DataW H × List MemPlace} {s : List Value} (h : DataW.trod enc Try.prog w base spare held n 25 s = some x) (hs : s.length = 15) : ∃ c : C.Cpu, s = cpuL c ∧ c.ok := by
  have hU : Try.prog.cellsOf 22 = 1 := by kernel_rfl
  have hB : Try.prog.cellsOf 4 = 1 := by kernel_rfl
  have hE : Try.prog.cellsOf 5 = 1 := by kernel_rfl
  have hI : Try.prog.cellsOf 3 = 1 := by kernel_rfl
  have hR : Try.prog.cellsOf 23 = 8 := by kernel_rfl
  obtain ⟨c0, c1, c2, c3, c4, c5, c6, c7, c8, c9, c10, c11, c12, c13, c14, rfl⟩ := list15 hs
  obtain ⟨xs, m, _, _, _, hlen, hfs⟩ := DataW.trod_struct Try.underlying25 h
  have hl8 : xs.length = 8 := hlen
  have g0 : DataW.trod enc Try.prog w base spare held m 23 (([c0, c1, c2, c3, c4, c5, c6, c7, c8, c9, c10, c11, c12, c13, c14].drop 0).take (Try.prog.cellsOf 23)) = xs[0]? := hfs 0 _ rfl
  rw [List.getElem?_eq_getElem (by omega)] at g0
  obtain ⟨ys, k, _, _, _, hyl, hys⟩ := DataW.trod_array Try.underlying23 g0
  obtain ⟨a0, rfl, w0⟩ := fld_int (o := 0 * Try.prog.cellsOf 22) (v := c0) (hys 0 (by omega)) (by omega) hU Try.underlying22 (by rw [hU, hR]; rfl)
  obtain ⟨a1, rfl, w1⟩ := fld_int (o := 1 * Try.prog.cellsOf 22) (v := c1) (hys 1 (by omega)) (by omega) hU Try.underlying22 (by rw [hU, hR]; rfl)
  obtain ⟨a2, rfl, w2⟩ := fld_int (o := 2 * Try.prog.cellsOf 22) (v := c2) (hys 2 (by omega)) (by omega) hU Try.underlying22 (by rw [hU, hR]; rfl)
  obtain ⟨a3, rfl, w3⟩ := fld_int (o := 3 * Try.prog.cellsOf 22) (v := c3) (hys 3 (by omega)) (by omega) hU Try.underlying22 (by rw [hU, hR]; rfl)
  obtain ⟨a4, rfl, w4⟩ := fld_int (o := 4 * Try.prog.cellsOf 22) (v := c4) (hys 4 (by omega)) (by omega) hU Try.underlying22 (by rw [hU, hR]; rfl)
  obtain ⟨a5, rfl, w5⟩ := fld_int (o := 5 * Try.prog.cellsOf 22) (v := c5) (hys 5 (by omega)) (by omega) hU Try.underlying22 (by rw [hU, hR]; rfl)
  obtain ⟨a6, rfl, w6⟩ := fld_int (o := 6 * Try.prog.cellsOf 22) (v := c6) (hys 6 (by omega)) (by omega) hU Try.underlying22 (by rw [hU, hR]; rfl)
  obtain ⟨a7, rfl, w7⟩ := fld_int (o := 7 * Try.prog.cellsOf 22) (v := c7) (hys 7 (by omega)) (by omega) hU Try.underlying22 (by rw [hU, hR]; rfl)
  obtain ⟨a8, rfl, wa8⟩ := fld_int (ty := 22) (o := 8) (v := c8) (hfs 1 _ rfl) (by omega) hU Try.underlying22 rfl
  obtain ⟨b0, rfl⟩ := fld_bool (ty := 4) (o := 9) (v := c9) (hfs 2 _ rfl) (by omega) hB Try.underlying4 rfl
  obtain ⟨b1, rfl⟩ := fld_bool (ty := 4) (o := 10) (v := c10) (hfs 3 _ rfl) (by omega) hB Try.underlying4 rfl
  obtain ⟨b2, rfl⟩ := fld_bool (ty := 4) (o := 11) (v := c11) (hfs 4 _ rfl) (by omega) hB Try.underlying4 rfl
  obtain ⟨b3, rfl⟩ := fld_bool (ty := 4) (o := 12) (v := c12) (hfs 5 _ rfl) (by omega) hB Try.underlying4 rfl
  obtain ⟨b4, rfl⟩ := fld_bool (ty := 4) (o := 13) (v := c13) (hfs 6 _ rfl) (by omega) hB Try.underlying4 rfl
  obtain ⟨b5, rfl⟩ := fld_bool (ty := 4) (o := 14) (v := c14) (hfs 7 _ rfl) (by omega) hB Try.underlying4 rfl
  refine ⟨⟨[a0, a1, a2, a3, a4, a5, a6, a7], a8, b0, b1, b2, b3, b4, b5⟩, rfl, rfl, fun z hz => ?_, (bounds_u16 wa8).1, (bounds_u16 wa8).2⟩
  simp only [List.mem_cons, List.not_mem_nil, or_false] at hz
  rcases hz with rfl | rfl | rfl | rfl | rfl | rfl | rfl | rfl
  · exact bounds_u16 w0
  · exact bounds_u16 w1
  · exact bounds_u16 w2
  · exact bounds_u16 w3
  · exact bounds_u16 w4
  · exact bounds_u16 w5
  · exact bounds_u16 w6
  · exact bounds_u16 w7
theorem opn_pad {H : Type} {enc : TypeId × Value → H} {w : World} {base : Nat} {spare : Nat → Bool} {held : Bool} {n : Nat} {x : DataW H × List MemPlace} {s : List Value} (h : DataW.trod enc Try.prog w base spare held n 28 s = some x) (hs : s.length = 3) : ∃ p : Pd, s = [.int .u8 p.d, .bool p.l, .int .u8 p.s] ∧ p.ok := by
  have hU : Try.prog.cellsOf 22 = 1 := by kernel_rfl
  have hB : Try.prog.cellsOf 4 = 1 := by kernel_rfl
  have hE : Try.prog.cellsOf 5 = 1 := by kernel_rfl
  have hI : Try.prog.cellsOf 3 = 1 := by kernel_rfl
  obtain ⟨c0, c1, c2, rfl⟩ := list3 hs
  obtain ⟨xs, m, _, _, _, hlen, hfs⟩ := DataW.trod_struct Try.underlying28 h
  have hl : xs.length = 3 := hlen
  obtain ⟨a0, rfl, wa0⟩ := fld_int (ty := 5) (o := 0) (v := c0) (hfs 0 _ rfl) (by omega) hE Try.underlying5 rfl
  obtain ⟨b1, rfl⟩ := fld_bool (ty := 4) (o := 1) (v := c1) (hfs 1 _ rfl) (by omega) hB Try.underlying4 rfl
  obtain ⟨a2, rfl, wa2⟩ := fld_int (ty := 5) (o := 2) (v := c2) (hfs 2 _ rfl) (by omega) hE Try.underlying5 rfl
  exact ⟨⟨a0, b1, a2⟩, rfl, bounds_u8 wa0, bounds_u8 wa2⟩
theorem opn_pads {H : Type} {enc : TypeId × Value → H} {w : World} {base : Nat} {spare : Nat → Bool} {held : Bool} {n : Nat} {x : DataW H × List MemPlace} {s : List Value} (h : DataW.trod enc Try.prog w base spare held n 29 s = some x) (hs : s.length = 6) : ∃ p q : Pd, s = [.int .u8 p.d, .bool p.l, .int .u8 p.s, .int .u8 q.d, .bool q.l, .int .u8 q.s] ∧ p.ok ∧ q.ok := by
  have hV : Try.prog.cellsOf 28 = 3 := by kernel_rfl
  obtain ⟨c0, c1, c2, c3, c4, c5, rfl⟩ := list6 hs
  obtain ⟨ys, m, _, _, _, hyl, hys⟩ := DataW.trod_array Try.underlying29 h
  have y0 := hys 0 (by omega)
  have y1 := hys 1 (by omega)
  rw [hV, List.getElem?_eq_getElem (by omega)] at y0 y1
  obtain ⟨p, ep, hp⟩ := opn_pad (s := [c0, c1, c2]) y0 rfl
  obtain ⟨q, eq, hq⟩ := opn_pad (s := [c3, c4, c5]) y1 rfl
  simp only [List.cons.injEq, and_true] at ep eq
  obtain ⟨rfl, rfl, rfl⟩ := ep
  obtain ⟨rfl, rfl, rfl⟩ := eq
  exact ⟨p, q, rfl, hp, hq⟩
theorem opn_timer {H : Type} {enc : TypeId × Value → H} {w : World} {base : Nat} {spare : Nat → Bool} {held : Bool} {n : Nat} {x : DataW H × List MemPlace} {s : List Value} (h : DataW.trod enc Try.prog w base spare held n 31 s = some x) (hs : s.length = 4) : ∃ t : TM, s = [.int .u16 t.r, .int .u16 t.c, .bool t.on, .bool t.g] ∧ bd16 t.r ∧ bd16 t.c := by
  have hU : Try.prog.cellsOf 22 = 1 := by kernel_rfl
  have hB : Try.prog.cellsOf 4 = 1 := by kernel_rfl
  have hE : Try.prog.cellsOf 5 = 1 := by kernel_rfl
  have hI : Try.prog.cellsOf 3 = 1 := by kernel_rfl
  obtain ⟨c0, c1, c2, c3, rfl⟩ := list4 hs
  obtain ⟨xs, m, _, _, _, hlen, hfs⟩ := DataW.trod_struct Try.underlying31 h
  have hl : xs.length = 4 := hlen
  obtain ⟨a0, rfl, wa0⟩ := fld_int (ty := 22) (o := 0) (v := c0) (hfs 0 _ rfl) (by omega) hU Try.underlying22 rfl
  obtain ⟨a1, rfl, wa1⟩ := fld_int (ty := 22) (o := 1) (v := c1) (hfs 1 _ rfl) (by omega) hU Try.underlying22 rfl
  obtain ⟨b2, rfl⟩ := fld_bool (ty := 4) (o := 2) (v := c2) (hfs 2 _ rfl) (by omega) hB Try.underlying4 rfl
  obtain ⟨b3, rfl⟩ := fld_bool (ty := 4) (o := 3) (v := c3) (hfs 3 _ rfl) (by omega) hB Try.underlying4 rfl
  exact ⟨⟨a0, a1, b2, b3⟩, rfl, bounds_u16 wa0, bounds_u16 wa1⟩
theorem opn_beam {H : Type} {enc : TypeId × Value → H} {w : World} {base : Nat} {spare : Nat → Bool} {held : Bool} {n : Nat} {x : DataW H × List MemPlace} {s : List Value} (h : DataW.trod enc Try.prog w base spare held n 38 s = some x) (hs : s.length = 4) : ∃ b : Bem, s = [.int .i64 b.l, .int .i64 b.a, .bool b.g, .int .i64 b.f] := by
  have hU : Try.prog.cellsOf 22 = 1 := by kernel_rfl
  have hB : Try.prog.cellsOf 4 = 1 := by kernel_rfl
  have hE : Try.prog.cellsOf 5 = 1 := by kernel_rfl
  have hI : Try.prog.cellsOf 3 = 1 := by kernel_rfl
  obtain ⟨c0, c1, c2, c3, rfl⟩ := list4 hs
  obtain ⟨xs, m, _, _, _, hlen, hfs⟩ := DataW.trod_struct Try.underlying38 h
  have hl : xs.length = 4 := hlen
  obtain ⟨a0, rfl, wa0⟩ := fld_int (ty := 3) (o := 0) (v := c0) (hfs 0 _ rfl) (by omega) hI Try.underlying3 rfl
  obtain ⟨a1, rfl, wa1⟩ := fld_int (ty := 3) (o := 1) (v := c1) (hfs 1 _ rfl) (by omega) hI Try.underlying3 rfl
  obtain ⟨b2, rfl⟩ := fld_bool (ty := 4) (o := 2) (v := c2) (hfs 2 _ rfl) (by omega) hB Try.underlying4 rfl
  obtain ⟨a3, rfl, wa3⟩ := fld_int (ty := 3) (o := 3) (v := c3) (hfs 3 _ rfl) (by omega) hI Try.underlying3 rfl
  exact ⟨⟨a0, a1, b2, a3⟩, rfl⟩
theorem opn_mail {H : Type} {enc : TypeId × Value → H} {w : World} {base : Nat} {spare : Nat → Bool} {held : Bool} {n : Nat} {x : DataW H × List MemPlace} {s : List Value} (h : DataW.trod enc Try.prog w base spare held n 39 s = some x) (hs : s.length = 2) : ∃ a b : Int, s = [.int .u8 a, .int .u8 b] ∧ bd8 a ∧ bd8 b := by
  have hU : Try.prog.cellsOf 22 = 1 := by kernel_rfl
  have hB : Try.prog.cellsOf 4 = 1 := by kernel_rfl
  have hE : Try.prog.cellsOf 5 = 1 := by kernel_rfl
  have hI : Try.prog.cellsOf 3 = 1 := by kernel_rfl
  obtain ⟨c0, c1, rfl⟩ := list2 hs
  obtain ⟨ys, k, _, _, _, hyl, hys⟩ := DataW.trod_array Try.underlying39 h
  obtain ⟨a0, rfl, w0⟩ := fld_int (o := 0 * Try.prog.cellsOf 5) (v := c0) (hys 0 (by omega)) (by omega) hE Try.underlying5 (by rw [hE]; rfl)
  obtain ⟨a1, rfl, w1⟩ := fld_int (o := 1 * Try.prog.cellsOf 5) (v := c1) (hys 1 (by omega)) (by omega) hE Try.underlying5 (by rw [hE]; rfl)
  exact ⟨a0, a1, rfl, bounds_u8 w0, bounds_u8 w1⟩
theorem opn_sound {H : Type} {enc : TypeId × Value → H} {w : World} {base : Nat} {spare : Nat → Bool} {held : Bool} {n : Nat} {x : DataW H × List MemPlace} {s : List Value} (h : DataW.trod enc Try.prog w base spare held n 36 s = some x) (hs : s.length = 16) : ∃ d : Sd, s = sndL d ∧ d.ok := by
  have hU : Try.prog.cellsOf 22 = 1 := by kernel_rfl
  have hB : Try.prog.cellsOf 4 = 1 := by kernel_rfl
  have hE : Try.prog.cellsOf 5 = 1 := by kernel_rfl
  have hI : Try.prog.cellsOf 3 = 1 := by kernel_rfl
  have hV : Try.prog.cellsOf 33 = 5 := by kernel_rfl
  have hR : Try.prog.cellsOf 34 = 15 := by kernel_rfl
  obtain ⟨c0, c1, c2, c3, c4, c5, c6, c7, c8, c9, c10, c11, c12, c13, c14, c15, rfl⟩ := list16 hs
  obtain ⟨xs, k, _, _, _, hlen, hfs⟩ := DataW.trod_struct Try.underlying36 h
  have hl2 : xs.length = 2 := hlen
  have g0 : DataW.trod enc Try.prog w base spare held k 34 (([c0, c1, c2, c3, c4, c5, c6, c7, c8, c9, c10, c11, c12, c13, c14, c15].drop 0).take (Try.prog.cellsOf 34)) = xs[0]? := hfs 0 _ rfl
  rw [List.getElem?_eq_getElem (by omega), hR] at g0
  obtain ⟨ys, m, _, _, _, hyl, hys⟩ := DataW.trod_array under_three g0
  have y0 := hys 0 (by omega)
  have y1 := hys 1 (by omega)
  have y2 := hys 2 (by omega)
  rw [hV, List.getElem?_eq_getElem (by omega)] at y0 y1 y2
  obtain ⟨va, ea, ha⟩ := trod_voice (c0 := c0) (c1 := c1) (c2 := c2) (c3 := c3) (c4 := c4) y0
  obtain ⟨vb, eb, hb⟩ := trod_voice (c0 := c5) (c1 := c6) (c2 := c7) (c3 := c8) (c4 := c9) y1
  obtain ⟨vc, ec, hc⟩ := trod_voice (c0 := c10) (c1 := c11) (c2 := c12) (c3 := c13) (c4 := c14) y2
  obtain ⟨a15, rfl, w15⟩ := fld_int (ty := 3) (o := 15) (v := c15) (hfs 1 _ rfl) (by omega) hI Try.underlying3 rfl
  simp only [List.cons.injEq, and_true] at ea eb ec
  obtain ⟨rfl, rfl, rfl, rfl, rfl⟩ := ea
  obtain ⟨rfl, rfl, rfl, rfl, rfl⟩ := eb
  obtain ⟨rfl, rfl, rfl, rfl, rfl⟩ := ec
  exact ⟨⟨va, vb, vc, a15⟩, rfl, ⟨ha, hb, hc⟩⟩
theorem opn_bytes {H : Type} {enc : TypeId × Value → H} {W : World} {v : Value} {n : Nat} {x : DataW H × List MemPlace} (hf : DataW.trod enc Try.prog W 0 (fun _ => true) true n 26 [v] = some x) : ∃ l, sliceAt W v l ∧ l.length ≤ maxLen := by
  have c1 : Try.prog.cellsOf 5 = 1 := by kernel_rfl
  rcases open_ints Try.underlying26 Try.underlying5 c1 hf with ⟨hc, _⟩ | ⟨ad, len', cap', zs, hc, _, hl, hm, hz, _, hcell, hwf⟩
  · have e : v = .slice none 0 0 := by simpa using hc
    rw [e]
    exact ⟨[], Or.inl ⟨none, 0, rfl, rfl⟩, by simp⟩
  · have e : v = .slice (some ad) len' cap' := by simpa using hc
    rw [e]
    simp only [if_true] at hz
    by_cases h0 : len' = 0
    · subst h0
      exact ⟨[], Or.inl ⟨some ad, cap', rfl, rfl⟩, by simp⟩
    · have hs := Pl.spot (hcell 0 (by omega))
      obtain ⟨g, o, sp⟩ := ad
      have hs' : sp = none := by
        cases sp with
        | none => rfl
        | some x => simp [Addr.add] at hs
      subst hs'
      refine ⟨(zs.take len').map (fun z => UInt8.ofNat z.toNat), Or.inr ⟨g, o, cap', by rw [List.length_map, List.length_take, Nat.min_eq_left (by omega)], by rw [List.length_map, List.length_take]; omega, World.block_lt_of_cell? W _ (hcell 0 (by omega)), fun j c hj => ?_⟩, by rw [List.length_map, List.length_take]; omega⟩
      rw [List.getElem?_map] at hj
      obtain ⟨z, hz1, hz2⟩ := Option.map_eq_some_iff.1 hj
      have hjl : j < len' := by
        have := (List.getElem?_eq_some_iff.1 hz1).1
        rw [List.length_take] at this; omega
      rw [List.getElem?_take_of_lt hjl] at hz1
      have hzj : j < zs.length := (List.getElem?_eq_some_iff.1 hz1).1
      have hw := bounds_u8 (hwf z (List.mem_of_getElem? hz1))
      have := hcell j hzj
      rw [addr_add, show zs.getD j 0 = z by simp [List.getD, hz1]] at this
      rw [this, ← hz2]
      rw [show (UInt8.ofNat z.toNat).toNat = z.toNat by simp; omega, show ((z.toNat : Nat) : Int) = z by omega]
theorem sub_some {H : Type} {enc : TypeId × Value → H} {P : Program} {w : World} {base : Nat} {spare : Nat → Bool} {held : Bool} {n i o k : Nat} {ty : TypeId} {cs : List Value} {xs : List (DataW H × List MemPlace)}
    (h : DataW.trod enc P w base spare held n ty ((cs.drop o).take (P.cellsOf ty)) = xs[i]?) (hi : i < xs.length) (hc : P.cellsOf ty = k) : ∃ y, DataW.trod enc P w base spare held n ty ((cs.drop o).take k) = some y := by
  rw [hc, List.getElem?_eq_getElem hi] at h
  exact ⟨_, h⟩
theorem chain_list {l R : List Value} {n k m : Nat} (hm : n + k = m) (h : l.drop m = R) : l.drop n = (l.drop n).take k ++ R := by
  subst hm
  rw [← h, ← List.drop_drop]
  exact (List.take_append_drop k _).symm
theorem last_list {l : List Value} {n k : Nat} (h : l.length ≤ n + k) : l.drop n = (l.drop n).take k := (List.take_of_length_le (by rw [List.length_drop]; omega)).symm
theorem get_list {cs : List Value} (o : Nat) (h : o < cs.length) : ∃ v, cs[o]? = some v ∧ (cs.drop o).take 1 = [v] := ⟨cs[o], List.getElem?_eq_getElem h, by rw [List.take_one, List.head?_drop, List.getElem?_eq_getElem h]; rfl⟩
set_option maxHeartbeats 800000 in
theorem open_mach {H : Type} {enc : TypeId × Value → H} {W : World} {base : Nat} {v : Value} {d : DataW H} {p : List MemPlace} (hv : Value.okWide Try.prog W .any base 41 v) (h : DataW.Trod enc Try.prog W 0 (fun _ => true) true 41 v d p) :
    ∃ (M : Mach) (S : Sl), v = .agg (machL M S).toArray ∧ M.ok ∧ SlAt W S M ∧ ∀ j, j < 5 → (M.byt j).length ≤ maxLen := by
  have hU : Try.prog.cellsOf 22 = 1 := by kernel_rfl
  have hB : Try.prog.cellsOf 4 = 1 := by kernel_rfl
  have hE : Try.prog.cellsOf 5 = 1 := by kernel_rfl
  have hI : Try.prog.cellsOf 3 = 1 := by kernel_rfl
  have hM : Try.prog.cellsOf 41 = 75 := by kernel_rfl
  obtain ⟨cs, rfl, hsz⟩ := okWide_struct Try.underlying41 hv
  obtain ⟨l⟩ := cs
  have hl : l.length = 75 := hsz.trans hM
  obtain ⟨fuel, hf0⟩ := h
  have hf : DataW.trod enc Try.prog W 0 (fun _ => true) true fuel 41 l = some (d, p) := hf0
  obtain ⟨xs, m, _, _, _, hlen, hfs⟩ := DataW.trod_struct Try.underlying41 hf
  have hx : xs.length = 20 := hlen
  obtain ⟨y0, g0⟩ := sub_some (ty := 25) (o := 0) (k := 15) (hfs 0 _ rfl) (by omega) (by kernel_rfl)
  obtain ⟨m0, e0, k0⟩ := opn_cpu g0 (by simp [hl])
  obtain ⟨y1, g1⟩ := sub_some (ty := 25) (o := 15) (k := 15) (hfs 1 _ rfl) (by omega) (by kernel_rfl)
  obtain ⟨m1, e1, k1⟩ := opn_cpu g1 (by simp [hl])
  obtain ⟨u2, r2, e2⟩ := get_list (cs := l) 30 (by omega)
  obtain ⟨y2, g2⟩ := sub_some (ty := 26) (o := 30) (k := 1) (hfs 2 _ rfl) (by omega) (by kernel_rfl)
  rw [e2] at g2
  obtain ⟨m2, k2, q2⟩ := opn_bytes g2
  obtain ⟨u3, r3, e3⟩ := get_list (cs := l) 31 (by omega)
  obtain ⟨y3, g3⟩ := sub_some (ty := 26) (o := 31) (k := 1) (hfs 3 _ rfl) (by omega) (by kernel_rfl)
  rw [e3] at g3
  obtain ⟨m3, k3, q3⟩ := opn_bytes g3
  obtain ⟨u4, r4, e4⟩ := get_list (cs := l) 32 (by omega)
  obtain ⟨y4, g4⟩ := sub_some (ty := 26) (o := 32) (k := 1) (hfs 4 _ rfl) (by omega) (by kernel_rfl)
  rw [e4] at g4
  obtain ⟨m4, k4, q4⟩ := opn_bytes g4
  obtain ⟨u5, r5, e5⟩ := get_list (cs := l) 33 (by omega)
  obtain ⟨y5, g5⟩ := sub_some (ty := 26) (o := 33) (k := 1) (hfs 5 _ rfl) (by omega) (by kernel_rfl)
  rw [e5] at g5
  obtain ⟨m5, k5, q5⟩ := opn_bytes g5
  obtain ⟨u6, r6, e6⟩ := get_list (cs := l) 34 (by omega)
  obtain ⟨y6, g6⟩ := sub_some (ty := 26) (o := 34) (k := 1) (hfs 6 _ rfl) (by omega) (by kernel_rfl)
  rw [e6] at g6
  obtain ⟨m6, k6, q6⟩ := opn_bytes g6
  obtain ⟨y7, g7⟩ := sub_some (ty := 29) (o := 35) (k := 6) (hfs 7 _ rfl) (by omega) (by kernel_rfl)
  obtain ⟨m7, n7, e7, k7, q7⟩ := opn_pads g7 (by simp [hl])
  obtain ⟨y8, g8⟩ := sub_some (ty := 31) (o := 41) (k := 4) (hfs 8 _ rfl) (by omega) (by kernel_rfl)
  obtain ⟨m8, e8, k8, q8⟩ := opn_timer g8 (by simp [hl])
  obtain ⟨y9, g9⟩ := sub_some (ty := 36) (o := 45) (k := 16) (hfs 9 _ rfl) (by omega) (by kernel_rfl)
  obtain ⟨m9, e9, k9⟩ := opn_sound g9 (by simp [hl])
  obtain ⟨y10, g10⟩ := sub_some (ty := 38) (o := 61) (k := 4) (hfs 10 _ rfl) (by omega) (by kernel_rfl)
  obtain ⟨m10, e10⟩ := opn_beam g10 (by simp [hl])
  obtain ⟨u11, r11, e11⟩ := get_list (cs := l) 65 (by omega)
  obtain ⟨m11, rfl, w11⟩ := fld_int (ty := 22) (o := 65) (hfs 11 _ rfl) (by omega) hU Try.underlying22 r11
  obtain ⟨u12, r12, e12⟩ := get_list (cs := l) 66 (by omega)
  obtain ⟨m12, rfl, w12⟩ := fld_int (ty := 22) (o := 66) (hfs 12 _ rfl) (by omega) hU Try.underlying22 r12
  obtain ⟨u13, r13, e13⟩ := get_list (cs := l) 67 (by omega)
  obtain ⟨m13, rfl⟩ := fld_bool (ty := 4) (o := 67) (hfs 13 _ rfl) (by omega) hB Try.underlying4 r13
  obtain ⟨u14, r14, e14⟩ := get_list (cs := l) 68 (by omega)
  obtain ⟨m14, rfl⟩ := fld_bool (ty := 4) (o := 68) (hfs 14 _ rfl) (by omega) hB Try.underlying4 r14
  obtain ⟨y15, g15⟩ := sub_some (ty := 39) (o := 69) (k := 2) (hfs 15 _ rfl) (by omega) (by kernel_rfl)
  obtain ⟨m15, n15, e15, k15, q15⟩ := opn_mail g15 (by simp [hl])
  obtain ⟨u16, r16, e16⟩ := get_list (cs := l) 71 (by omega)
  obtain ⟨m16, rfl⟩ := fld_bool (ty := 4) (o := 71) (hfs 16 _ rfl) (by omega) hB Try.underlying4 r16
  obtain ⟨u17, r17, e17⟩ := get_list (cs := l) 72 (by omega)
  obtain ⟨m17, rfl, w17⟩ := fld_int (ty := 3) (o := 72) (hfs 17 _ rfl) (by omega) hI Try.underlying3 r17
  obtain ⟨u18, r18, e18⟩ := get_list (cs := l) 73 (by omega)
  obtain ⟨m18, rfl, w18⟩ := fld_int (ty := 3) (o := 73) (hfs 18 _ rfl) (by omega) hI Try.underlying3 r18
  obtain ⟨u19, r19, e19⟩ := get_list (cs := l) 74 (by omega)
  obtain ⟨m19, rfl, w19⟩ := fld_int (ty := 3) (o := 74) (hfs 19 _ rfl) (by omega) hI Try.underlying3 r19
  have hL : l = (l.drop 0).take 15 ++ ((l.drop 15).take 15 ++ ((l.drop 30).take 1 ++ ((l.drop 31).take 1 ++ ((l.drop 32).take 1 ++ ((l.drop 33).take 1 ++ ((l.drop 34).take 1 ++ ((l.drop 35).take 6 ++ ((l.drop 41).take 4 ++ ((l.drop 45).take 16 ++ ((l.drop 61).take 4 ++ ((l.drop 65).take 1 ++ ((l.drop 66).take 1 ++ ((l.drop 67).take 1 ++ ((l.drop 68).take 1 ++ ((l.drop 69).take 2 ++ ((l.drop 71).take 1 ++ ((l.drop 72).take 1 ++ ((l.drop 73).take 1 ++ ((l.drop 74).take 1))))))))))))))))))) :=
    List.drop_zero.symm.trans (chain_list (n := 0) (m := 15) rfl (chain_list (n := 15) (m := 30) rfl (chain_list (n := 30) (m := 31) rfl (chain_list (n := 31) (m := 32) rfl (chain_list (n := 32) (m := 33) rfl (chain_list (n := 33) (m := 34) rfl (chain_list (n := 34) (m := 35) rfl (chain_list (n := 35) (m := 41) rfl (chain_list (n := 41) (m := 45) rfl (chain_list (n := 45) (m := 61) rfl (chain_list (n := 61) (m := 65) rfl (chain_list (n := 65) (m := 66) rfl (chain_list (n := 66) (m := 67) rfl (chain_list (n := 67) (m := 68) rfl (chain_list (n := 68) (m := 69) rfl (chain_list (n := 69) (m := 71) rfl (chain_list (n := 71) (m := 72) rfl (chain_list (n := 72) (m := 73) rfl (chain_list (n := 73) (m := 74) rfl (last_list (by omega)))))))))))))))))))))
  rw [e0, e1, e2, e3, e4, e5, e6, e7, e8, e9, e10, e11, e12, e13, e14, e15, e16, e17, e18, e19] at hL
  refine ⟨⟨m0, m1, m2, m3, m4, m5, m6, m7, n7, m8, m9, m10, m11, m12, m13, m14, m15, n15, m16, m17, m18, m19⟩, ⟨u2, u3, u4, u5, u6⟩, by rw [hL]; rfl, ⟨k0, k1, k7, q7, k8, q8, k9, bounds_u16 w11, bounds_u16 w12, k15, q15⟩, fun j hj => ?_, fun j hj => ?_⟩
  · rcases five hj with rfl | rfl | rfl | rfl | rfl
    · exact k2
    · exact k3
    · exact k4
    · exact k5
    · exact k6
  · rcases five hj with rfl | rfl | rfl | rfl | rfl
    · exact q2
    · exact q3
    · exact q4
    · exact q5
    · exact q6
end Go.Proofs.Ytdioiilmpjckfaa
