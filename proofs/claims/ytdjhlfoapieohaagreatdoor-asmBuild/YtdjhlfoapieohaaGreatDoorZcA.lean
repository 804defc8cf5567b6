/-
  The reference's whole, IsName; what a reader gives up with; the reference's Built: its code by places, its frame by slots, a line's beginning.
-/
import Derived.Test.YtdjhlfoapieohaaGreatDoorAsmM
import Derived.Shelf.Strconv.AtoiAll
import Derived.Test.YtdjhlfoapieohaaGreatDoorShelfR
import Derived.Test.YtdjhlfoapieohaaGreatDoorShelfE
import Derived.Lib.ParseIntBTie
import Derived.Test.YtdjhlfoapieohaaGreatDoorShelfF
import Derived.Test.YtdjhlfoapieohaaGreatDoorAsmBq
import Derived.Deep.MidRow
namespace Go.Proofs.YtdjhlfoapieohaaGreatDoor
open Go.ChangeShapes Go.WideShapes Go.ChangeAt Go.RowKit
set_option linter.unusedVariables false

/-- What a reader gives up with: its line, and why. -/
abbrev flt (ln : Nat) (e : Int) : Ending := .panicked [{ v := .iface 57 (.agg #[.int .i64 ln, .int .i64 e]), recovered := false }]
theorem giveUp_any (b : Nat) (ln : Nat) (e : Int) (w : World) (hlt : b < w.heap.size) (hc : w.cell? ⟨b, 4, none⟩ = some (.int .i64 ln)) :
    Calls Tryz.prog 52 #[.pointer (some ⟨b, 0, none⟩), .int .i64 e] w fun x w' => x = flt ln e ∧ w = w' := by
  have hpn : ∀ (t : TypeId) (v : Value) (w : World), (Instr.panic (.iface t v)).run Tryz.prog w = .halt (.panic (.iface t v)) w := fun _ _ _ => rfl
  go_enter Tryz.func52, Tryz.ntmps52
  go_wp2
  exact ⟨rfl, rfl, rfl⟩
theorem known_no (b : Nat) (v : Int) (ln : Nat) (w : World) (hlt : b < w.heap.size) (hc : w.cell? ⟨b, 4, none⟩ = some (.int .i64 ln)) :
    Calls Tryz.prog 106 #[.pointer (some ⟨b, 0, none⟩), .int .i64 v, .bool false] w fun x w' => x = flt ln 1 ∧ w = w' := by
  have HG := hid (giveUp_any b ln 1 w hlt hc)
  clear hc
  go_enter Tryz.func106, Tryz.ntmps106
  go_wp2_with (go_at_call 52; refine HG.out.mono ?_; rintro e w' ⟨rfl, rfl⟩)
  exact ⟨rfl, rfl, rfl⟩

/-! ### numbers that are none -/
/-- The errors that package strconv tells are there, whatever they hold. -/
structure EF (w : World) : Prop where
  syn : ∃ ev, w.cell? ⟨4, 0, none⟩ = some ev ∧ (ev = .nilIface ∨ ∃ te pe, ev = .iface te pe)
  ran : ∃ ev, w.cell? ⟨5, 0, none⟩ = some ev ∧ (ev = .nilIface ∨ ∃ te pe, ev = .iface te pe)
theorem EF.kept {w w' : World} (h : EF w) (hb : Below w.heap.size w w') : EF w' := by
  obtain ⟨⟨e1, h1, k1⟩, ⟨e2, h2, k2⟩⟩ := h
  exact ⟨⟨e1, (hb.cell (World.block_lt_of_cell? w _ h1)).trans h1, k1⟩, ⟨e2, (hb.cell (World.block_lt_of_cell? w _ h2)).trans h2, k2⟩⟩
theorem ef_alloc {w : World} (h : EF w) (o : Obj) : EF (w.alloc o) := h.kept (stA (st0 _) _)
theorem atoi_no (s : ByteArray) (hs : s.size ≤ 10000) (h : ∀ n, Lib.atoiAll (bs s) ≠ .ok n) (w : World) (hE : EF w) :
    Calls Tryz.prog 122 #[.string s] w fun e w' => ∃ n N, e = .returned (.tuple #[.int .i64 n, .iface 131 (.pointer (some ⟨N, 0, none⟩))]) ∧ Below w.heap.size w w' := by
  obtain ⟨⟨e1, h1, k1⟩, ⟨e2, h2, k2⟩⟩ := hE
  cases hh : Lib.atoiAll (bs s) with
  | ok n => exact absurd hh (h n)
  | «syntax» => exact (Any.strconv_Atoi_syntax Tryz.laysC172 s (by omega) hh e1 w h1 k1).mono fun e w' ⟨N, he, _, _, hb⟩ => ⟨_, N, he, hb⟩
  | range => exact (Any.strconv_Atoi_range Tryz.laysC172 s (by omega) hh e2 w h2 k2).mono fun e w' ⟨N, he, _, _, hb⟩ => ⟨_, N, he, hb⟩
theorem number_bad (s : ByteArray) (hs : s.size ≤ 10000) (h : ∀ n, Lib.atoiAll (bs s) ≠ .ok n) (w : World) (hE : EF w) :
    Calls Tryz.prog 107 #[.string s] w fun e w' => e = .returned (.tuple #[.int .i64 0, .bool false]) ∧ Below w.heap.size w w' := by
  have HA := hid (atoi_no s hs h w hE)
  clear h hE
  go_enter Tryz.func107, Tryz.ntmps107
  go_wp2_with (go_at_call 122; refine HA.out.mono ?_; rintro e w1 ⟨n, N, rfl, hb1⟩)
  go_ret2
  exact ⟨rfl, hb1⟩
theorem number_odd (s : ByteArray) (n : Int) (hs : s.size ≤ 10000) (h1 : Lib.atoiAll (bs s) = .ok n) (h2 : Lib.itoa n ≠ bs s) (w : World) (hF : AF w) :
    Calls Tryz.prog 107 #[.string s] w fun e w' => e = .returned (.tuple #[.int .i64 0, .bool false]) ∧ Below w.heap.size w w' := by
  obtain ⟨b0, b1⟩ := Lib.atoiAll_bounds h1
  have HA := hid (atoi_ok s n hs h1 w)
  have HI : Hid (∀ w, AF w → Calls Tryz.prog 68 #[.int .i64 n] w fun e w' => e = .returned (.string (mk (Lib.itoa n))) ∧ Below w.heap.size w w') := fun w hF => itoa_any n b0 b1 w hF
  have HF := hid hF
  have hss : ((mk (Lib.itoa n)).toList == s.toList) = false := by rw [mk_toList, Lib.toList_data]; simpa [bs] using h2
  generalize mk (Lib.itoa n) = t at *
  clear h1 h2 hF
  go_enter Tryz.func107, Tryz.ntmps107
  go_wp2_with (first
    | (go_at_call 122; refine HA.out.mono ?_; rintro e w1 ⟨rfl, hb1⟩)
    | (go_at_call 68; refine (HI.out _ (HF.out.kept hb1)).mono ?_; rintro e w2 ⟨rfl, hb2⟩))
  go_ret2
  exact ⟨rfl, stp hb1 hb2⟩
theorem number_no (s : ByteArray) (hs : s.size ≤ 10000) (h : S.num (bs s) = none) (w : World) (hF : AF w) (hE : EF w) :
    Calls Tryz.prog 107 #[.string s] w fun e w' => e = .returned (.tuple #[.int .i64 0, .bool false]) ∧ Below w.heap.size w w' := by
  unfold S.num at h
  cases hh : Lib.atoiAll (bs s) with
  | ok n =>
    rw [hh] at h
    simp only at h
    split at h
    · cases h
    · rename_i hi
      exact number_odd s n hs hh hi w hF
  | «syntax» => exact number_bad s hs (fun n e => by rw [hh] at e; cases e) w hE
  | range => exact number_bad s hs (fun n e => by rw [hh] at e; cases e) w hE
theorem wordOrName_no (b : Nat) (ln : Nat) (s : ByteArray) (hs : s.size ≤ 10000) (h : S.wordOrName (bs s) = none) (w : World) (hlt : b < w.heap.size) (hc : w.cell? ⟨b, 4, none⟩ = some (.int .i64 ln)) (hF : AF w) (hE : EF w) :
    Calls Tryz.prog 104 #[.pointer (some ⟨b, 0, none⟩), .string s] w fun e w' => e = flt ln 1 ∧ Below w.heap.size w w' := by
  unfold S.wordOrName at h
  cases hn : S.nameOk (bs s) with
  | true => rw [hn] at h; cases h
  | false =>
    rw [hn] at h
    have hm : S.num (bs s) = none := by
      cases hm : S.num (bs s) with
      | none => rfl
      | some n => rw [hm] at h; cases h
    have HN := hid (asmName_any s w)
    rw [hn] at HN
    have HM := hid (number_no s hs hm w hF hE)
    have HC := hid hc
    clear h hn hm hF hE hc
    go_enter Tryz.func104, Tryz.ntmps104
    go_wp2_with (first
      | (go_at_call 7; refine HN.out.mono ?_; rintro e w' ⟨rfl, rfl⟩)
      | (go_at_call 107; refine HM.out.mono ?_; rintro e w1 ⟨rfl, hb1⟩)
      | (go_at_call 106; refine (known_no b 0 ln _ (Nat.lt_of_lt_of_le hlt hb1.size) ((hb1.cell hlt).trans HC.out)).mono ?_; rintro e w' ⟨rfl, rfl⟩))
    exact ⟨rfl, rfl, hb1⟩
theorem parse64_ok (s : ByteArray) (n : Int) (hs : s.size ≤ 10000) (h : Lib.atoiAll (bs s) = .ok n) (w : World) :
    Calls Tryz.prog 36 #[.string s, .int .i64 10, .int .i64 64] w fun e w' => e = .returned (.tuple #[.int .i64 n, .nilIface]) ∧ Below w.heap.size w w' := by
  refine (Tryz.strconv_ParseInt_10_at64_ok s (by omega) n ((Lib.parseIntB_64 _).trans h) w).mono fun e w' hh => ⟨hh.1, ?_⟩
  rcases hh.2 with rfl | ⟨t, rfl⟩
  · exact Below.refl _ _
  · exact Joins.below_bytesWorld _ _ _ _ (Nat.le_refl _)
theorem parse64_no (s : ByteArray) (hs : s.size ≤ 10000) (h : ∀ n, Lib.atoiAll (bs s) ≠ .ok n) (w : World) (hE : EF w) :
    Calls Tryz.prog 36 #[.string s, .int .i64 10, .int .i64 64] w fun e w' => ∃ n N, -9223372036854775808 ≤ n ∧ n ≤ 9223372036854775807 ∧ e = .returned (.tuple #[.int .i64 n, .iface 131 (.pointer (some ⟨N, 0, none⟩))]) ∧ Below w.heap.size w w' := by
  obtain ⟨⟨e1, h1, k1⟩, ⟨e2, h2, k2⟩⟩ := hE
  cases hh : Lib.atoiAll (bs s) with
  | ok n => exact absurd hh (h n)
  | «syntax» => exact (Any.strconv_ParseInt_10_at64_syntax Tryz.laysC174 s (by omega) ((Lib.parseIntB_64 _).trans hh) e1 w h1 k1).mono fun e w' ⟨N, he, _, _, hb⟩ => ⟨_, N, by omega, by omega, he, hb⟩
  | range =>
    have hb2 : -9223372036854775808 ≤ Lib.intSat 64 (bs s) ∧ Lib.intSat 64 (bs s) ≤ 9223372036854775807 := by
      unfold Lib.intSat
      split <;> decide
    exact (Any.strconv_ParseInt_10_at64_range Tryz.laysC174 s (by omega) ((Lib.parseIntB_64 _).trans hh) e2 w h2 k2).mono fun e w' ⟨N, he, _, _, hb⟩ => ⟨_, N, hb2.1, hb2.2, he, hb⟩
theorem format_any (n : Int) (h0 : -9223372036854775808 ≤ n) (h1 : n ≤ 9223372036854775807) (w : World) (h : AF w) :
    Calls Tryz.prog 37 #[.int .i64 n, .int .i64 10] w fun e w' => e = .returned (.string (mk (Lib.itoa n))) ∧ Below w.heap.size w w' := by
  refine (Tryz.strconv_FormatInt_10 n h0 h1 w h.pow).mono fun e w' ⟨he, k, os, hw⟩ => ⟨he, ?_⟩
  subst hw
  exact below_grow' w k os
theorem whole_read (s : ByteArray) (n : Int) (hs : s.size ≤ 10000) (h1 : Lib.atoiAll (bs s) = .ok n) (w : World) (hF : AF w) :
    Calls Tryz.prog 17 #[.string s] w fun e w' => e = .returned (.tuple #[.int .i64 n, .bool (Lib.itoa n == bs s)]) ∧ Below w.heap.size w w' := by
  obtain ⟨b0, b1⟩ := Lib.atoiAll_bounds h1
  have HA := hid (parse64_ok s n hs h1 w)
  have HI : Hid (∀ w, AF w → Calls Tryz.prog 37 #[.int .i64 n, .int .i64 10] w fun e w' => e = .returned (.string (mk (Lib.itoa n))) ∧ Below w.heap.size w w') := fun w hF => format_any n b0 b1 w hF
  have HF := hid hF
  have hss : ((mk (Lib.itoa n)).toList == s.toList) = (Lib.itoa n == bs s) := by rw [mk_toList, Lib.toList_data]; rfl
  generalize (Lib.itoa n == bs s) = r at *
  generalize mk (Lib.itoa n) = t at *
  clear h1 hF
  go_enter Tryz.func17, Tryz.ntmps17
  go_wp2_with (first
    | (go_at_call 36; refine HA.out.mono ?_; rintro e w1 ⟨rfl, hb1⟩)
    | (go_at_call 37; refine (HI.out _ (HF.out.kept hb1)).mono ?_; rintro e w2 ⟨rfl, hb2⟩))
  go_ret2
  exact ⟨rfl, stp hb1 hb2⟩
theorem whole_bad (s : ByteArray) (hs : s.size ≤ 10000) (h : ∀ n, Lib.atoiAll (bs s) ≠ .ok n) (w : World) (hE : EF w) :
    Calls Tryz.prog 17 #[.string s] w fun e w' => ∃ n, e = .returned (.tuple #[.int .i64 n, .bool false]) ∧ Below w.heap.size w w' := by
  have HA := hid (parse64_no s hs h w hE)
  clear h hE
  go_enter Tryz.func17, Tryz.ntmps17
  go_wp2_with (go_at_call 36; refine HA.out.mono ?_; rintro e w1 ⟨n, N, n0, n1, rfl, hb1⟩)
  go_ret2
  exact ⟨n, rfl, hb1⟩
/-- Of any part: a number, if it is one. -/
theorem whole_any (s : ByteArray) (hs : s.size ≤ 10000) (w : World) (hF : AF w) (hE : EF w) :
    Calls Tryz.prog 17 #[.string s] w fun e w' => ∃ n, e = .returned (.tuple #[.int .i64 n, .bool (S.num (bs s)).isSome]) ∧ (∀ v, S.num (bs s) = some v → n = v) ∧ Below w.heap.size w w' := by
  unfold S.num
  cases hh : Lib.atoiAll (bs s) with
  | ok n =>
    refine (whole_read s n hs hh w hF).mono fun e w' ⟨h1, h2⟩ => ⟨n, h1.trans ?_, ?_, h2⟩
    · simp only
      by_cases hi : Lib.itoa n = bs s
      · simp [hi]
      · simp [hi]
    · intro v hv
      simp only at hv
      split at hv
      · exact Option.some.inj hv
      · cases hv
  | «syntax» => exact (whole_bad s hs (fun n e => by rw [hh] at e; cases e) w hE).mono fun e w' ⟨n, h1, h2⟩ => ⟨n, h1, fun v hv => (by cases hv), h2⟩
  | range => exact (whole_bad s hs (fun n e => by rw [hh] at e; cases e) w hE).mono fun e w' ⟨n, h1, h2⟩ => ⟨n, h1, fun v hv => (by cases hv), h2⟩
theorem set_has (g : Nat) (l : S.By) (c : UInt8) (w : World) (h : ∀ x : UInt8, w.cell? ⟨g, x.toNat, none⟩ = some (.bool (l.contains x))) (b : Bool) (hb : l.contains c = b) :
    Calls Tryz.prog 71 #[.pointer (some ⟨g, 0, none⟩), .int .u8 c.toNat] w fun e w' => e = .returned (.bool b) ∧ w = w' :=
  (Tryz.asciiSet_contains g c b w (by rw [← hb]; exact h c)).mono fun e w' hh => ⟨hh.1, hh.2.symm⟩
theorem mk_tail (c : UInt8) (t : S.By) : (mk (c :: t)).extract 1 (t.length + 1) = mk t := by
  apply ByteArray.ext
  rw [ByteArray.data_extract]
  unfold mk
  simp
theorem nil_or_last (t : S.By) : t = [] ∨ ∃ (r : S.By) (c : UInt8), t = r ++ [c] := by
  rcases List.eq_nil_or_concat t with h | ⟨r, c, h⟩
  · exact Or.inl h
  · exact Or.inr ⟨r, c, by rw [h, List.concat_eq_append]⟩
theorem mk_init (c : UInt8) (t : S.By) : (mk (t ++ [c])).extract 0 t.length = mk t := by
  apply ByteArray.ext
  rw [ByteArray.data_extract]
  unfold mk
  simp
set_option maxRecDepth 100000 in
theorem trimL_any (l : S.By) (g : Nat) (s : S.By) (hs : s.length ≤ 10000) (w : World) (hg : g < w.heap.size) (hset : ∀ x : UInt8, w.cell? ⟨g, x.toNat, none⟩ = some (.bool (l.contains x))) :
    Calls Tryz.prog 46 #[.string (mk s), .pointer (some ⟨g, 0, none⟩)] w fun e w' => e = .returned (.string (mk (s.dropWhile l.contains))) ∧ w = w' := by
  have HS := hid hset
  clear hset
  go_enter Tryz.func46, Tryz.ntmps46
  go_wp2
  go_loop [0] (fun r => ∃ t : S.By, r = .string (mk t) ∧ t.length ≤ 10000 ∧ t.dropWhile l.contains = s.dropWhile l.contains) (fun r => match r with | .string x => x.size | _ => 0)
  case atStart => exact ⟨s, rfl, hs, rfl⟩
  case round =>
    obtain ⟨t, rfl, ht, hd⟩ := hrel
    cases t with
    | nil =>
      have h0 : (mk []).size = 0 := rfl
      go_wp2
      go_ret
      rw [← hd]
      exact ⟨rfl, rfl⟩
    | cons c t =>
      have hsz : (mk (c :: t)).size = t.length + 1 := by rw [mk_size]; rfl
      have h0 := bs_get (mk (c :: t)) 0 c rfl
      cases hc : l.contains c with
      | false =>
        have HC := hid (set_has g l c w HS.out false hc)
        go_wp2_with (go_at_call 71; refine HC.out.mono ?_; rintro e w' ⟨rfl, rfl⟩)
        go_ret
        rw [← hd, List.dropWhile_cons, if_neg (by rw [hc]; simp)]
        exact ⟨rfl, rfl⟩
      | true =>
        have HC := hid (set_has g l c w HS.out true hc)
        go_wp2_with (go_at_call 71; refine HC.out.mono ?_; rintro e w' ⟨rfl, rfl⟩)
        rw [mk_tail]
        refine ⟨⟨t, rfl, by simp at ht; omega, ?_⟩, ?_⟩
        · rw [← hd, List.dropWhile_cons, if_pos hc]
        · show (mk t).size < (mk (c :: t)).size
          rw [mk_size, mk_size]; simp
set_option maxRecDepth 100000 in
theorem trimR_any (l : S.By) (g : Nat) (s : S.By) (hs : s.length ≤ 10000) (w : World) (hg : g < w.heap.size) (hset : ∀ x : UInt8, w.cell? ⟨g, x.toNat, none⟩ = some (.bool (l.contains x))) :
    Calls Tryz.prog 47 #[.string (mk s), .pointer (some ⟨g, 0, none⟩)] w fun e w' => e = .returned (.string (mk (s.reverse.dropWhile l.contains).reverse)) ∧ w = w' := by
  have HS := hid hset
  clear hset
  go_enter Tryz.func47, Tryz.ntmps47
  go_wp2
  go_loop [0] (fun r => ∃ t : S.By, r = .string (mk t) ∧ t.length ≤ 10000 ∧ t.reverse.dropWhile l.contains = s.reverse.dropWhile l.contains) (fun r => match r with | .string x => x.size | _ => 0)
  case atStart => exact ⟨s, rfl, hs, rfl⟩
  case round =>
    obtain ⟨t, rfl, ht, hd⟩ := hrel
    rcases nil_or_last t with rfl | ⟨t, c, rfl⟩
    · have h0 : (mk []).size = 0 := rfl
      go_wp2
      go_ret
      rw [← hd]
      exact ⟨rfl, rfl⟩
    · have hsz : (mk (t ++ [c])).size = t.length + 1 := by rw [mk_size]; simp
      have h0 := bs_get (mk (t ++ [c])) t.length c (by show (t ++ [c])[t.length]? = some c; simp)
      rw [List.reverse_append] at hd
      have hl : t.length ≤ 10000 := by simp at ht; omega
      cases hc : l.contains c with
      | false =>
        have HC := hid (set_has g l c w HS.out false hc)
        go_wp2_with (go_at_call 71; refine HC.out.mono ?_; rintro e w' ⟨rfl, rfl⟩)
        go_ret
        rw [← hd, List.reverse_singleton, List.singleton_append, List.dropWhile_cons, if_neg (by rw [hc]; simp)]
        refine ⟨?_, rfl⟩
        simp
      | true =>
        have HC := hid (set_has g l c w HS.out true hc)
        go_wp2_with (go_at_call 71; refine HC.out.mono ?_; rintro e w' ⟨rfl, rfl⟩)
        rw [mk_init]
        refine ⟨⟨t, rfl, hl, ?_⟩, ?_⟩
        · rw [← hd, List.reverse_singleton, List.singleton_append, List.dropWhile_cons, if_pos hc]
        · show (mk t).size < (mk (t ++ [c])).size
          rw [mk_size, mk_size]; simp
theorem below_sets {B g : Nat} (hg : B ≤ g) : ∀ (vs : List Value) (o : Nat) (w0 w : World), Below B w0 w → Below B w0 (w.setCells g o vs)
  | [], _, _, _, h => h
  | v :: vs, o, w0, w, h => below_sets hg vs (o + 1) w0 _ (h.setCell hg v)
theorem zero_set (w : World) : (zeroValue 84).run Tryz.prog w = .ok (.agg (Array.replicate 256 (.bool false))) w := by
  kernel_rfl
theorem info_set : (Tryz.prog.info? 84).map (·.size) = some 256 := by kernel_rfl
/-- A set is laid into a new box. -/
theorem set_laid (w : World) (b : Nat) (hb : b = w.heap.size) (l : List UInt8) : ((w.alloc (.cells (Array.replicate 256 (.bool false)) 84)).setCells b 0 (Lib.setCells l).toList).rangeAt b 0 (Lib.setCells l).toList ∧ Below w.heap.size w ((w.alloc (.cells (Array.replicate 256 (.bool false)) 84)).setCells b 0 (Lib.setCells l).toList) := by
  subst hb
  refine ⟨World.rangeAt_setCells_same _ _ _ _ ?_, below_sets (Nat.le_refl _) _ _ _ _ (stA (st0 w) _)⟩
  intro j hj
  refine ⟨?_, Lib.frozen_of_heap (heap_alloc_new w _) _⟩
  rw [cell_new _ _ _ _ rfl]
  have h256 : (Lib.setCells l).toList.length = 256 := by rw [Array.length_toList, Lib.setCells_size]
  simp; omega
theorem one_set (l : List UInt8) : (Lib.setCells l).all (·.oneCell') = true := Lib.setCells_one l
theorem mkSet_any (c : ByteArray) (hc : c.size ≤ 10000) (ha : ∀ (j : Nat) b, c.data.toList[j]? = some b → b.toNat < 128) (w : World) :
    Calls Tryz.prog 45 #[.string c] w fun e w' => e = .returned (.tuple #[.agg (Lib.setCells c.data.toList), .bool true]) ∧ Below w.heap.size w w' :=
  (Tryz.strings_makeASCIISet zero_set c w (by omega) ha).mono fun e w' ⟨h1, h2⟩ => ⟨h1, h2 ▸ stA (st0 _) _⟩
theorem set_range {W : World} {b : Nat} {l : List UInt8} (h : W.rangeAt b 0 (Lib.setCells l).toList) (x : UInt8) : W.cell? ⟨b, x.toNat, none⟩ = some (.bool (l.contains x)) := by
  have := h x.toNat (.bool (l.contains x)) (by rw [Array.getElem?_toList]; exact Lib.setCells_at l x)
  rwa [Nat.zero_add] at this
/-- The store of a set into the box made for it. -/
theorem stSet {ops : Array Oper} {rest : List Oper} {op : Oper} {a : Act} {w : World} {Q : Exit → Act → World → Prop} (hgd : op.guard = none) (x z : Operand) (ho : op.op = .store 84 x z) (l : List UInt8) (hx : a.eval x = .pointer (some ⟨w.heap.size, 0, none⟩)) (hz : a.eval z = .agg (Lib.setCells l))
    (h : ∀ W : World, (∀ x : UInt8, W.cell? ⟨w.heap.size, x.toNat, none⟩ = some (.bool (l.contains x))) → w.heap.size < W.heap.size → Below w.heap.size w W → wpList Tryz.prog ops Q rest (a.put op.dst undef) W) : wpList Tryz.prog ops Q (op :: rest) a (w.alloc (.cells (Array.replicate 256 (.bool false)) 84)) := by
  obtain ⟨h1, h2⟩ := set_laid w w.heap.size rfl l
  refine wpList_store_mid hgd 84 x z ho w.heap.size 0 (Lib.setCells l) hx hz ?_ (by rw [Lib.setCells_size]; exact info_set) (one_set l) (h _ (set_range h1) ?_ h2)
  · rw [Lib.setCells_size]
    intro j hj
    refine ⟨?_, Lib.frozen_of_heap (heap_alloc_new w _) _⟩
    rw [cell_new _ _ _ _ rfl]
    simp; omega
  · exact World.block_lt_of_cell? _ _ (set_range h1 0)
set_option maxRecDepth 100000 in
set_option maxHeartbeats 1600000 in
theorem trim_any (s : S.By) (c : ByteArray) (hs : s.length ≤ 10000) (h0 : s ≠ []) (hc2 : 2 ≤ c.size) (hc : c.size ≤ 10000) (ha : ∀ (j : Nat) b, c.data.toList[j]? = some b → b.toNat < 128) (w : World) :
    Calls Tryz.prog 24 #[.string (mk s), .string c] w fun e w' => e = .returned (.string (mk (S.trim c.data.toList.contains s))) ∧ Below w.heap.size w w' := by
  have he : (mk s).toList.isEmpty = false := by rw [mk_empty]; cases s <;> simp_all
  have he2 : c.toList.isEmpty = false := by
    rw [Lib.toList_data]
    cases h : c.data.toList with
    | nil => rw [Lib.size_eq, h] at hc2; simp at hc2
    | cons a l => rfl
  have h1 : ((c.size : Int) == 1) = false := by simp; omega
  have HM : Hid (∀ w, Calls Tryz.prog 45 #[.string c] w fun e w' => e = .returned (.tuple #[.agg (Lib.setCells c.data.toList), .bool true]) ∧ Below w.heap.size w w') := fun w => mkSet_any c hc ha w
  have hz := zero_set
  clear ha
  go_enter Tryz.func24, Tryz.ntmps24
  go_wp2_with (first
    | (go_at_call 45; refine (HM.out _).mono ?_; rintro e w1 ⟨rfl, hb1⟩)
    | (refine stSet rfl _ _ rfl c.data.toList rfl rfl ?_; intro W hW hz1 hbW)
    | (go_at_call 47; refine (trimR_any c.data.toList w1.heap.size s hs _ hz1 hW).mono ?_; rintro e w2 ⟨rfl, rfl⟩)
    | (go_at_call 46; refine (trimL_any c.data.toList w1.heap.size _ (Nat.le_trans (by have := (List.dropWhile_sublist c.data.toList.contains (l := s.reverse)).length_le; simpa using this) hs) _ hz1 hW).mono ?_; rintro e w3 ⟨rfl, rfl⟩))
  go_ret
  exact ⟨rfl, stp hb1 hbW⟩
theorem contains_any (s sub : ByteArray) (hs : s.size ≤ 10000) (w : World) (hF : AF w) :
    Calls Tryz.prog 25 #[.string s, .string sub] w fun e w' => e = .returned (.bool (Lib.contains s.data.toList sub.data.toList)) ∧ w = w' := by
  obtain ⟨m, hm⟩ := hF.len
  exact (Any.strings_Contains Tryz.lays144 s sub m w (by omega) hm).mono fun e w' hh => ⟨hh.1, hh.2.symm⟩
theorem index_any (s sub : ByteArray) (hs : s.size ≤ 10000) (w : World) (hF : AF w) :
    Calls Tryz.prog 16 #[.string s, .string sub] w fun e w' => e = .returned (.int .i64 (Lib.index s.data.toList sub.data.toList)) ∧ w = w' := by
  obtain ⟨m, hm⟩ := hF.len
  exact (Any.strings_Index (ρ := Tryz.lays144_ren) { Tryz.lays144 with } s sub m w (by omega) hm).mono fun e w' hh => ⟨hh.1, hh.2.symm⟩
def signsS : ByteArray := ⟨#[97, 98, 99, 100, 101, 102, 103, 104, 105, 106, 107, 108, 109, 110, 111, 112, 113, 114, 115, 116, 117, 118, 119, 120, 121, 122, 95, 48, 49, 50, 51, 52, 53, 54, 55, 56, 57]⟩
def lettersS : ByteArray := ⟨#[97, 98, 99, 100, 101, 102, 103, 104, 105, 106, 107, 108, 109, 110, 111, 112, 113, 114, 115, 116, 117, 118, 119, 120, 121, 122, 95]⟩
theorem signs_asc : ∀ (j : Nat) b, signsS.data.toList[j]? = some b → b.toNat < 128 := fun j b h => by
  have : ∀ x ∈ signsS.data.toList, x.toNat < 128 := by decide
  exact this b (List.mem_of_getElem? h)
theorem letters_asc : ∀ (j : Nat) b, lettersS.data.toList[j]? = some b → b.toNat < 128 := fun j b h => by
  have : ∀ x ∈ lettersS.data.toList, x.toNat < 128 := by decide
  exact this b (List.mem_of_getElem? h)
theorem trim_signs (s : S.By) (h0 : s ≠ []) (hs : s.length ≤ 10000) (w : World) :
    Calls Tryz.prog 24 #[.string (mk s), .string ⟨#[97, 98, 99, 100, 101, 102, 103, 104, 105, 106, 107, 108, 109, 110, 111, 112, 113, 114, 115, 116, 117, 118, 119, 120, 121, 122, 95, 48, 49, 50, 51, 52, 53, 54, 55, 56, 57]⟩] w fun e w' => ∃ t : S.By, e = .returned (.string (mk t)) ∧ (mk t).toList.isEmpty = s.all S.nameCh ∧ Below w.heap.size w w' := by
  refine (trim_any s signsS hs h0 (by decide) (by decide) signs_asc w).mono fun e w' ⟨h1, h2⟩ => ⟨_, h1, ?_, h2⟩
  rw [mk_empty, S.trim_empty]
  congr 1
  funext c
  exact S.signs_at c
theorem trim_letters (s : S.By) (h0 : s ≠ []) (hs : s.length ≤ 10000) (w : World) :
    Calls Tryz.prog 24 #[.string (mk s), .string ⟨#[97, 98, 99, 100, 101, 102, 103, 104, 105, 106, 107, 108, 109, 110, 111, 112, 113, 114, 115, 116, 117, 118, 119, 120, 121, 122, 95]⟩] w fun e w' => ∃ t : S.By, e = .returned (.string (mk t)) ∧ (mk t).toList.isEmpty = s.all (fun c => S.nameCh c && !S.isDigit c) ∧ Below w.heap.size w w' := by
  refine (trim_any s lettersS hs h0 (by decide) (by decide) letters_asc w).mono fun e w' ⟨h1, h2⟩ => ⟨_, h1, ?_, h2⟩
  rw [mk_empty, S.trim_empty]
  congr 1
  funext c
  exact S.letters_at c
def regTS : ByteArray := ⟨#[32, 114, 48, 32, 114, 49, 32, 114, 50, 32, 114, 51, 32, 114, 52, 32, 114, 53, 32, 114, 54, 32, 114, 55, 32]⟩
theorem contains_reg (s : S.By) (h0 : s ≠ []) (h1 : ∀ x ∈ s, x ≠ 32) (sub : ByteArray) (hs : sub.data.toList = 32 :: s ++ [32]) (w : World) (hF : AF w) :
    Calls Tryz.prog 25 #[.string ⟨#[32, 114, 48, 32, 114, 49, 32, 114, 50, 32, 114, 51, 32, 114, 52, 32, 114, 53, 32, 114, 54, 32, 114, 55, 32]⟩, .string sub] w fun e w' => e = .returned (.bool (S.reg s).isSome) ∧ w = w' := by
  have h := contains_any regTS sub (by decide) w hF
  rw [hs, show regTS.data.toList = S.regT from rfl, S.regT_at s h0 h1] at h
  exact h
theorem isName_0 (w : World) : Calls Tryz.prog 8 #[.string (mk [])] w fun e w' => e = .returned (.bool false) ∧ Below w.heap.size w w' := by
  have he : (mk []).toList.isEmpty = true := mk_empty []
  go_enter Tryz.func8, Tryz.ntmps8
  go_wp2
  go_ret
  exact ⟨rfl, st0 _⟩
theorem isName_long (s : S.By) (h0 : s ≠ []) (hl : 12 < s.length) (w : World) : Calls Tryz.prog 8 #[.string (mk s)] w fun e w' => e = .returned (.bool false) ∧ Below w.heap.size w w' := by
  have he : (mk s).toList.isEmpty = false := by rw [mk_empty]; cases s <;> simp_all
  have hl1 : (12 : Int) < (mk s).size := by rw [mk_size]; omega
  go_enter Tryz.func8, Tryz.ntmps8
  go_wp2
  go_ret
  exact ⟨rfl, st0 _⟩
set_option maxRecDepth 100000 in
set_option maxHeartbeats 1600000 in
theorem isName_sign (s : S.By) (h0 : s ≠ []) (hl : s.length ≤ 12) (hn : s.all S.nameCh = false) (w : World) : Calls Tryz.prog 8 #[.string (mk s)] w fun e w' => e = .returned (.bool false) ∧ Below w.heap.size w w' := by
  have he : (mk s).toList.isEmpty = false := by rw [mk_empty]; cases s <;> simp_all
  have hl1 : ¬ (12 : Int) < (mk s).size := by rw [mk_size]; omega
  have HT := hid (trim_signs s h0 (by omega) w)
  rw [hn] at HT
  clear hn
  go_enter Tryz.func8, Tryz.ntmps8
  go_wp2_with (go_at_call 24; refine HT.out.mono ?_; rintro e w1 ⟨t, rfl, ht, hb1⟩)
  go_ret
  exact ⟨rfl, hb1⟩
theorem mk_head (c : UInt8) (r : S.By) : (mk (c :: r)).extract 0 1 = mk [c] := by
  apply ByteArray.ext
  rw [ByteArray.data_extract]
  unfold mk
  simp
set_option maxRecDepth 100000 in
set_option maxHeartbeats 1600000 in
theorem isName_digit (c : UInt8) (r : S.By) (hl : (c :: r).length ≤ 12) (hn : (c :: r).all S.nameCh = true) (hd : S.isDigit c = true) (w : World) : Calls Tryz.prog 8 #[.string (mk (c :: r))] w fun e w' => e = .returned (.bool false) ∧ Below w.heap.size w w' := by
  have he : (mk (c :: r)).toList.isEmpty = false := by rw [mk_empty]; rfl
  have hl1 : ¬ (12 : Int) < (mk (c :: r)).size := by rw [mk_size]; omega
  have hl2 : (1 : Int) ≤ (mk (c :: r)).size := by rw [mk_size]; simp; omega
  have HT := hid (trim_signs (c :: r) (by simp) (by omega) w)
  have HL : Hid (∀ w, Calls Tryz.prog 24 #[.string ((mk (c :: r)).extract 0 1), .string ⟨#[97, 98, 99, 100, 101, 102, 103, 104, 105, 106, 107, 108, 109, 110, 111, 112, 113, 114, 115, 116, 117, 118, 119, 120, 121, 122, 95]⟩] w fun e w' => ∃ t : S.By, e = .returned (.string (mk t)) ∧ (mk t).toList.isEmpty = false ∧ Below w.heap.size w w') := fun w => by
    rw [mk_head]
    refine (trim_letters [c] (by simp) (by simp) w).mono fun e w' ⟨t, h1, h2, h3⟩ => ⟨t, h1, ?_, h3⟩
    rw [h2]; simp [hd]
  rw [hn] at HT
  clear hn hd
  generalize mk (c :: r) = S0 at *
  go_enter Tryz.func8, Tryz.ntmps8
  go_wp2_with (first
    | (have zz := hb1.size; clear zz; go_at_call 24; refine (HL.out _).mono ?_; rintro e w2 ⟨t2, rfl, ht2, hb2⟩)
    | (go_at_call 24; refine HT.out.mono ?_; rintro e w1 ⟨t, rfl, ht, hb1⟩))
  go_ret
  exact ⟨rfl, stp hb1 hb2⟩
set_option maxRecDepth 100000 in
set_option maxHeartbeats 1600000 in
theorem isName_reg (c : UInt8) (r : S.By) (hl : (c :: r).length ≤ 12) (hn : (c :: r).all S.nameCh = true) (hd : S.isDigit c = false) (w : World) (hF : AF w) : Calls Tryz.prog 8 #[.string (mk (c :: r))] w fun e w' => e = .returned (.bool (S.reg (c :: r)).isNone) ∧ Below w.heap.size w w' := by
  have he : (mk (c :: r)).toList.isEmpty = false := by rw [mk_empty]; rfl
  have hl1 : ¬ (12 : Int) < (mk (c :: r)).size := by rw [mk_size]; omega
  have hl2 : (1 : Int) ≤ (mk (c :: r)).size := by rw [mk_size]; simp; omega
  have hl3 : (mk (c :: r)).size ≤ 12 := by rw [mk_size]; exact hl
  have hc : S.nameCh c = true := by rw [List.all_cons, Bool.and_eq_true] at hn; exact hn.1
  have HT := hid (trim_signs (c :: r) (by simp) (by omega) w)
  have HL : Hid (∀ w, Calls Tryz.prog 24 #[.string ((mk (c :: r)).extract 0 1), .string ⟨#[97, 98, 99, 100, 101, 102, 103, 104, 105, 106, 107, 108, 109, 110, 111, 112, 113, 114, 115, 116, 117, 118, 119, 120, 121, 122, 95]⟩] w fun e w' => ∃ t : S.By, e = .returned (.string (mk t)) ∧ (mk t).toList.isEmpty = true ∧ Below w.heap.size w w') := fun w => by
    rw [mk_head]
    refine (trim_letters [c] (by simp) (by simp) w).mono fun e w' ⟨t, h1, h2, h3⟩ => ⟨t, h1, ?_, h3⟩
    rw [h2]; simp [hd, hc]
  have HK : Hid (∀ w, AF w → Calls Tryz.prog 25 #[.string ⟨#[32, 114, 48, 32, 114, 49, 32, 114, 50, 32, 114, 51, 32, 114, 52, 32, 114, 53, 32, 114, 54, 32, 114, 55, 32]⟩, .string (⟨#[32]⟩ ++ mk (c :: r) ++ ⟨#[32]⟩)] w fun e w' => e = .returned (.bool (S.reg (c :: r)).isSome) ∧ w = w') := fun w hF => by
    exact contains_reg (c :: r) (by simp) (S.name_sp hn) _ (by simp [mk]) w hF
  rw [hn] at HT
  have HF := hid hF
  generalize hg : (S.reg (c :: r)).isSome = g at *
  have hgn : (S.reg (c :: r)).isNone = !g := by rw [← hg]; cases S.reg (c :: r) <;> rfl
  rw [hgn]
  clear hn hd hc hF hg hgn
  generalize mk (c :: r) = S0 at *
  go_enter Tryz.func8, Tryz.ntmps8
  go_wp2_with (first
    | (have zz := hb1.size; clear zz; go_at_call 24; refine (HL.out _).mono ?_; rintro e w2 ⟨t2, rfl, ht2, hb2⟩)
    | (go_at_call 24; refine HT.out.mono ?_; rintro e w1 ⟨t, rfl, ht, hb1⟩)
    | (go_at_call 25; refine (HK.out _ (HF.out.kept (stp hb1 hb2))).mono ?_; rintro e w3 ⟨rfl, rfl⟩))
  go_ret
  exact ⟨rfl, stp hb1 hb2⟩
theorem isName_any (s : S.By) (w : World) (hF : AF w) : Calls Tryz.prog 8 #[.string (mk s)] w fun e w' => e = .returned (.bool (S.nameOk s)) ∧ Below w.heap.size w w' := by
  cases s with
  | nil => exact isName_0 w
  | cons c r =>
    have hdef : S.nameOk (c :: r) = (decide ((c :: r).length ≤ 12) && !S.isDigit c && (c :: r).all S.nameCh && (S.reg (c :: r)).isNone) := rfl
    by_cases hl : (c :: r).length ≤ 12
    · cases hn : (c :: r).all S.nameCh with
      | false => rw [hdef, hn]; simp only [Bool.and_false, Bool.false_and]; exact isName_sign _ (by simp) hl hn w
      | true =>
        cases hd : S.isDigit c with
        | true => rw [hdef, hn, hd]; simp only [Bool.not_true, Bool.and_false, Bool.false_and]; exact isName_digit c r hl hn hd w
        | false => rw [hdef, hn, hd, decide_eq_true hl]; simp only [Bool.not_false, Bool.and_true, Bool.true_and]; exact isName_reg c r hl hn hd w hF
    · rw [hdef, decide_eq_false hl]; simp only [Bool.false_and]; exact isName_long _ (by simp) (by omega) w
/-- A part of a code. -/
def cStep : Nat → Code → Code
  | 0, .seq a _ => a
  | 1, .seq _ b => b
  | 2, .block _ c => c
  | 3, .loop c => c
  | 4, .cond _ a _ => a
  | 5, .cond _ _ b => b
  | _, c => c
def cGo : List Nat → Code → Code
  | [], c => c
  | n :: l, c => cGo l (cStep n c)
noncomputable def bBody : Code := Tryz.f5.body.getD .skip
/-- A slot of a frame. -/
def sl (a : Act) (i : Nat) : Value := a.tmps.getD i undef
theorem arr_lit (n : Nat) (t : Array Value) (h : t.size = n) : t = ((List.range n).map (fun i => t.getD i undef)).toArray := by
  apply Array.ext
  · simp [h]
  · intro i h1 h2
    simp [Array.getD, h1]
set_option maxRecDepth 100000 in
theorem act_lit (a : Act) (f : Nat → Value) (hf : ∀ i, f i = sl a i) (hs : a.tmps.size = 391) (hd : a.defers = []) : a = { tmps := #[f 0, f 1, f 2, f 3, f 4, f 5, f 6, f 7, f 8, f 9, f 10, f 11, f 12, f 13, f 14, f 15, f 16, f 17, f 18, f 19, f 20, f 21, f 22, f 23, f 24, f 25, f 26, f 27, f 28, f 29, f 30, f 31, f 32, f 33, f 34, f 35, f 36, f 37, f 38, f 39, f 40, f 41, f 42, f 43, f 44, f 45, f 46, f 47, f 48, f 49, f 50, f 51, f 52, f 53, f 54, f 55, f 56, f 57, f 58, f 59, f 60, f 61, f 62, f 63, f 64, f 65, f 66, f 67, f 68, f 69, f 70, f 71, f 72, f 73, f 74, f 75, f 76, f 77, f 78, f 79, f 80, f 81, f 82, f 83, f 84, f 85, f 86, f 87, f 88, f 89, f 90, f 91, f 92, f 93, f 94, f 95, f 96, f 97, f 98, f 99, f 100, f 101, f 102, f 103, f 104, f 105, f 106, f 107, f 108, f 109, f 110, f 111, f 112, f 113, f 114, f 115, f 116, f 117, f 118, f 119, f 120, f 121, f 122, f 123, f 124, f 125, f 126, f 127, f 128, f 129, f 130, f 131, f 132, f 133, f 134, f 135, f 136, f 137, f 138, f 139, f 140, f 141, f 142, f 143, f 144, f 145, f 146, f 147, f 148, f 149, f 150, f 151, f 152, f 153, f 154, f 155, f 156, f 157, f 158, f 159, f 160, f 161, f 162, f 163, f 164, f 165, f 166, f 167, f 168, f 169, f 170, f 171, f 172, f 173, f 174, f 175, f 176, f 177, f 178, f 179, f 180, f 181, f 182, f 183, f 184, f 185, f 186, f 187, f 188, f 189, f 190, f 191, f 192, f 193, f 194, f 195, f 196, f 197, f 198, f 199, f 200, f 201, f 202, f 203, f 204, f 205, f 206, f 207, f 208, f 209, f 210, f 211, f 212, f 213, f 214, f 215, f 216, f 217, f 218, f 219, f 220, f 221, f 222, f 223, f 224, f 225, f 226, f 227, f 228, f 229, f 230, f 231, f 232, f 233, f 234, f 235, f 236, f 237, f 238, f 239, f 240, f 241, f 242, f 243, f 244, f 245, f 246, f 247, f 248, f 249, f 250, f 251, f 252, f 253, f 254, f 255, f 256, f 257, f 258, f 259, f 260, f 261, f 262, f 263, f 264, f 265, f 266, f 267, f 268, f 269, f 270, f 271, f 272, f 273, f 274, f 275, f 276, f 277, f 278, f 279, f 280, f 281, f 282, f 283, f 284, f 285, f 286, f 287, f 288, f 289, f 290, f 291, f 292, f 293, f 294, f 295, f 296, f 297, f 298, f 299, f 300, f 301, f 302, f 303, f 304, f 305, f 306, f 307, f 308, f 309, f 310, f 311, f 312, f 313, f 314, f 315, f 316, f 317, f 318, f 319, f 320, f 321, f 322, f 323, f 324, f 325, f 326, f 327, f 328, f 329, f 330, f 331, f 332, f 333, f 334, f 335, f 336, f 337, f 338, f 339, f 340, f 341, f 342, f 343, f 344, f 345, f 346, f 347, f 348, f 349, f 350, f 351, f 352, f 353, f 354, f 355, f 356, f 357, f 358, f 359, f 360, f 361, f 362, f 363, f 364, f 365, f 366, f 367, f 368, f 369, f 370, f 371, f 372, f 373, f 374, f 375, f 376, f 377, f 378, f 379, f 380, f 381, f 382, f 383, f 384, f 385, f 386, f 387, f 388, f 389, f 390], defers := [] } := by
  have e : f = sl a := funext hf
  subst e
  obtain ⟨t, d⟩ := a
  simp only at hs hd
  subst hd
  have := arr_lit 391 t hs
  exact congrArg (fun t => ({ tmps := t, defers := [] } : Act)) (this.trans (by rfl))
set_option maxRecDepth 100000 in
theorem act_open (a : Act) (hs : a.tmps.size = 391) (hd : a.defers = []) : ∃ f : Nat → Value, (∀ i, sl a i = f i) ∧ a = { tmps := #[f 0, f 1, f 2, f 3, f 4, f 5, f 6, f 7, f 8, f 9, f 10, f 11, f 12, f 13, f 14, f 15, f 16, f 17, f 18, f 19, f 20, f 21, f 22, f 23, f 24, f 25, f 26, f 27, f 28, f 29, f 30, f 31, f 32, f 33, f 34, f 35, f 36, f 37, f 38, f 39, f 40, f 41, f 42, f 43, f 44, f 45, f 46, f 47, f 48, f 49, f 50, f 51, f 52, f 53, f 54, f 55, f 56, f 57, f 58, f 59, f 60, f 61, f 62, f 63, f 64, f 65, f 66, f 67, f 68, f 69, f 70, f 71, f 72, f 73, f 74, f 75, f 76, f 77, f 78, f 79, f 80, f 81, f 82, f 83, f 84, f 85, f 86, f 87, f 88, f 89, f 90, f 91, f 92, f 93, f 94, f 95, f 96, f 97, f 98, f 99, f 100, f 101, f 102, f 103, f 104, f 105, f 106, f 107, f 108, f 109, f 110, f 111, f 112, f 113, f 114, f 115, f 116, f 117, f 118, f 119, f 120, f 121, f 122, f 123, f 124, f 125, f 126, f 127, f 128, f 129, f 130, f 131, f 132, f 133, f 134, f 135, f 136, f 137, f 138, f 139, f 140, f 141, f 142, f 143, f 144, f 145, f 146, f 147, f 148, f 149, f 150, f 151, f 152, f 153, f 154, f 155, f 156, f 157, f 158, f 159, f 160, f 161, f 162, f 163, f 164, f 165, f 166, f 167, f 168, f 169, f 170, f 171, f 172, f 173, f 174, f 175, f 176, f 177, f 178, f 179, f 180, f 181, f 182, f 183, f 184, f 185, f 186, f 187, f 188, f 189, f 190, f 191, f 192, f 193, f 194, f 195, f 196, f 197, f 198, f 199, f 200, f 201, f 202, f 203, f 204, f 205, f 206, f 207, f 208, f 209, f 210, f 211, f 212, f 213, f 214, f 215, f 216, f 217, f 218, f 219, f 220, f 221, f 222, f 223, f 224, f 225, f 226, f 227, f 228, f 229, f 230, f 231, f 232, f 233, f 234, f 235, f 236, f 237, f 238, f 239, f 240, f 241, f 242, f 243, f 244, f 245, f 246, f 247, f 248, f 249, f 250, f 251, f 252, f 253, f 254, f 255, f 256, f 257, f 258, f 259, f 260, f 261, f 262, f 263, f 264, f 265, f 266, f 267, f 268, f 269, f 270, f 271, f 272, f 273, f 274, f 275, f 276, f 277, f 278, f 279, f 280, f 281, f 282, f 283, f 284, f 285, f 286, f 287, f 288, f 289, f 290, f 291, f 292, f 293, f 294, f 295, f 296, f 297, f 298, f 299, f 300, f 301, f 302, f 303, f 304, f 305, f 306, f 307, f 308, f 309, f 310, f 311, f 312, f 313, f 314, f 315, f 316, f 317, f 318, f 319, f 320, f 321, f 322, f 323, f 324, f 325, f 326, f 327, f 328, f 329, f 330, f 331, f 332, f 333, f 334, f 335, f 336, f 337, f 338, f 339, f 340, f 341, f 342, f 343, f 344, f 345, f 346, f 347, f 348, f 349, f 350, f 351, f 352, f 353, f 354, f 355, f 356, f 357, f 358, f 359, f 360, f 361, f 362, f 363, f 364, f 365, f 366, f 367, f 368, f 369, f 370, f 371, f 372, f 373, f 374, f 375, f 376, f 377, f 378, f 379, f 380, f 381, f 382, f 383, f 384, f 385, f 386, f 387, f 388, f 389, f 390], defers := [] } :=
  ⟨sl a, fun _ => rfl, act_lit a (sl a) (fun _ => rfl) hs hd⟩
/-- The slots that live through all lines. -/
structure Sl (a : Act) (v5 v6 : Value) (mp gl n k : Nat) : Prop where
  sz : a.tmps.size = 391
  df : a.defers = []
  s5 : sl a 5 = v5
  s6 : sl a 6 = v6
  s7 : sl a 7 = .map (some mp)
  s8 : sl a 8 = .slice (some ⟨gl, 0, none⟩) n n
  s52 : sl a 52 = .slice (some ⟨gl, 0, none⟩) n n
  s53 : sl a 53 = .int .i64 n
  s54 : sl a 54 = .int .i64 k
/-- And those of one line. -/
structure Sn (a : Act) (v5 v6 : Value) (mp gl n k bi : Nat) (t : S.By) : Prop extends Sl a v5 v6 mp gl n k where
  s9 : sl a 9 = .pointer (some ⟨bi, 0, none⟩)
  s10 : sl a 10 = .string (mk t)
  s11 : sl a 11 = .func (.func 13) #[] #[.pointer (some ⟨bi, 0, none⟩)]
theorem fail_any (bi : Nat) (k : Nat) (e : Int) (w : World) (hb : bi < w.heap.size) (hc : w.cell? ⟨bi, 0, none⟩ = some (.int .i64 k)) :
    Calls Tryz.prog 13 #[.int .i64 e, .pointer (some ⟨bi, 0, none⟩)] w fun x w' => x = .returned (.tuple #[.slice none 0 0, .int .i64 k, .int .i64 e]) ∧ Below w.heap.size w w' := by
  go_enter Tryz.func13, Tryz.ntmps13
  go_wp2
  go_region
  all_goals go_wp2
  all_goals go_ret3
  all_goals exact ⟨rfl, (st0 w).drew⟩
/-- Something is wrong: where, and what. -/
structure Rt (a : Act) (k : Nat) (e : Int) : Prop where
  df : a.defers = []
  s2 : sl a 2 = .slice none 0 0
  s3 : sl a 3 = .int .i64 k
  s4 : sl a 4 = .int .i64 e
set_option maxRecDepth 100000 in
set_option maxHeartbeats 1600000 in
theorem secA_mid (Q : Exit → Act → World → Prop) (a : Act) (w : World) (v5 v6 : Value) (mp gl n k : Nat) (t : S.By) (hS : Sl a v5 v6 mp gl n k) (hk : k + 1 < n) (hn : n ≤ 10000) (hg : gl < w.heap.size) (hc : w.cell? ⟨gl, k, none⟩ = some (.string (mk t)))
    (hz : ∀ a' w', Sn a' v5 v6 mp gl n k w.heap.size t → w' = w.alloc (.cells #[.int .i64 k] 3) → ((cGo [1, 1, 1, 1, 1, 1, 1, 0, 1, 2, 3, 1, 1, 0, 2, 1, 1, 1] bBody)).wp Tryz.prog Q a' w') :
    ((cGo [1, 1, 1, 1, 1, 1, 1, 0, 1, 2, 3, 1, 1, 0, 2] bBody)).wp Tryz.prog Q a w := by
  obtain ⟨sz, df, s5, s6, s7, s8, s52, s53, s54⟩ := hS
  have hk1 : ((k : Int) == (n : Int) - 1) = false := by simp; omega
  have hk2 : (k : Int) < n := by omega
  have hk3 : (1 : Int) ≤ n := by omega
  obtain ⟨f, hf, rfl⟩ := act_open a sz df
  rw [hf] at s5 s6 s7 s8 s52 s53 s54
  clear hf sz df
  rw [s5, s6, s7, s8, s52, s53, s54]
  show (Code.seq (cGo [1, 1, 1, 1, 1, 1, 1, 0, 1, 2, 3, 1, 1, 0, 2, 0] bBody) (Code.seq (cGo [1, 1, 1, 1, 1, 1, 1, 0, 1, 2, 3, 1, 1, 0, 2, 1, 0] bBody) (Code.seq (cGo [1, 1, 1, 1, 1, 1, 1, 0, 1, 2, 3, 1, 1, 0, 2, 1, 1, 0] bBody) (cGo [1, 1, 1, 1, 1, 1, 1, 0, 1, 2, 3, 1, 1, 0, 2, 1, 1, 1] bBody)))).wp Tryz.prog Q _ w
  revert hz
  generalize (cGo [1, 1, 1, 1, 1, 1, 1, 0, 1, 2, 3, 1, 1, 0, 2, 1, 1, 1] bBody) = z
  intro hz
  conv => arg 2; arg 1; whnf
  conv => arg 2; arg 2; arg 1; whnf
  conv => arg 2; arg 2; arg 2; arg 1; whnf
  go_wp2
  exact hz _ _ ⟨⟨rfl, rfl, rfl, rfl, rfl, rfl, rfl, rfl, rfl⟩, rfl, rfl, rfl⟩ rfl
set_option maxRecDepth 100000 in
set_option maxHeartbeats 1600000 in
theorem secA_last (Q : Exit → Act → World → Prop) (a : Act) (w : World) (v5 v6 : Value) (mp gl n k : Nat) (t : S.By) (hS : Sl a v5 v6 mp gl n k) (hk : k + 1 = n) (hn : n ≤ 10000) (hg : gl < w.heap.size) (hc : w.cell? ⟨gl, k, none⟩ = some (.string (mk t))) (ht : t = [])
    (hx : ∀ a' w', Sl a' v5 v6 mp gl n k → w' = w.alloc (.cells #[.int .i64 k] 3) → Q (.exit 0) a' w') :
    ((cGo [1, 1, 1, 1, 1, 1, 1, 0, 1, 2, 3, 1, 1, 0, 2] bBody)).wp Tryz.prog Q a w := by
  obtain ⟨sz, df, s5, s6, s7, s8, s52, s53, s54⟩ := hS
  subst ht
  have hk1 : ((k : Int) == (n : Int) - 1) = true := by simp; omega
  have hk2 : (k : Int) < n := by omega
  have hk3 : (1 : Int) ≤ n := by omega
  have he : (mk []).toList.isEmpty = true := mk_empty []
  obtain ⟨f, hf, rfl⟩ := act_open a sz df
  rw [hf] at s5 s6 s7 s8 s52 s53 s54
  clear hf sz df
  rw [s5, s6, s7, s8, s52, s53, s54]
  show (Code.seq (cGo [1, 1, 1, 1, 1, 1, 1, 0, 1, 2, 3, 1, 1, 0, 2, 0] bBody) (Code.seq (cGo [1, 1, 1, 1, 1, 1, 1, 0, 1, 2, 3, 1, 1, 0, 2, 1, 0] bBody) (Code.seq (cGo [1, 1, 1, 1, 1, 1, 1, 0, 1, 2, 3, 1, 1, 0, 2, 1, 1, 0] bBody) (cGo [1, 1, 1, 1, 1, 1, 1, 0, 1, 2, 3, 1, 1, 0, 2, 1, 1, 1] bBody)))).wp Tryz.prog Q _ w
  generalize (cGo [1, 1, 1, 1, 1, 1, 1, 0, 1, 2, 3, 1, 1, 0, 2, 1, 1, 1] bBody) = z
  conv => arg 2; arg 1; whnf
  conv => arg 2; arg 2; arg 1; whnf
  conv => arg 2; arg 2; arg 2; arg 1; whnf
  go_wp2
  exact hx _ _ ⟨rfl, rfl, rfl, rfl, rfl, rfl, rfl, rfl, rfl⟩ rfl
set_option maxRecDepth 100000 in
set_option maxHeartbeats 1600000 in
theorem secA_bad (Q : Exit → Act → World → Prop) (a : Act) (w : World) (v5 v6 : Value) (mp gl n k : Nat) (t : S.By) (hS : Sl a v5 v6 mp gl n k) (hk : k + 1 = n) (hn : n ≤ 10000) (hg : gl < w.heap.size) (hc : w.cell? ⟨gl, k, none⟩ = some (.string (mk t))) (ht : t ≠ [])
    (hx : ∀ a' w', Rt a' k 1 → Below w.heap.size w w' → Q .ret a' w') :
    ((cGo [1, 1, 1, 1, 1, 1, 1, 0, 1, 2, 3, 1, 1, 0, 2] bBody)).wp Tryz.prog Q a w := by
  obtain ⟨sz, df, s5, s6, s7, s8, s52, s53, s54⟩ := hS
  have hk1 : ((k : Int) == (n : Int) - 1) = true := by simp; omega
  have hk2 : (k : Int) < n := by omega
  have hk3 : (1 : Int) ≤ n := by omega
  have he : (mk t).toList.isEmpty = false := by rw [mk_empty]; cases t <;> simp_all
  have HF := hid (fail_any w.heap.size k 1 (w.alloc (.cells #[.int .i64 k] 3)) (by simp) (cell_new _ _ _ _ rfl))
  obtain ⟨f, hf, rfl⟩ := act_open a sz df
  rw [hf] at s5 s6 s7 s8 s52 s53 s54
  clear hf sz df
  rw [s5, s6, s7, s8, s52, s53, s54]
  show (Code.seq (cGo [1, 1, 1, 1, 1, 1, 1, 0, 1, 2, 3, 1, 1, 0, 2, 0] bBody) (Code.seq (cGo [1, 1, 1, 1, 1, 1, 1, 0, 1, 2, 3, 1, 1, 0, 2, 1, 0] bBody) (Code.seq (cGo [1, 1, 1, 1, 1, 1, 1, 0, 1, 2, 3, 1, 1, 0, 2, 1, 1, 0] bBody) (cGo [1, 1, 1, 1, 1, 1, 1, 0, 1, 2, 3, 1, 1, 0, 2, 1, 1, 1] bBody)))).wp Tryz.prog Q _ w
  generalize (cGo [1, 1, 1, 1, 1, 1, 1, 0, 1, 2, 3, 1, 1, 0, 2, 1, 1, 1] bBody) = z
  conv => arg 2; arg 1; whnf
  conv => arg 2; arg 2; arg 1; whnf
  conv => arg 2; arg 2; arg 2; arg 1; whnf
  go_wp2_with (go_at_call 13; refine HF.out.mono ?_; rintro e w1 ⟨rfl, hb1⟩)
  exact hx _ _ ⟨rfl, rfl, rfl, rfl⟩ (stp (stA (st0 w) _) hb1)
end Go.Proofs.YtdjhlfoapieohaaGreatDoor
