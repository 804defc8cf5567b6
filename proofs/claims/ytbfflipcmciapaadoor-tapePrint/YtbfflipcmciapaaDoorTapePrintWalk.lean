/-
  The Go text of the law TapePrint returns true.
-/
import Derived.Test.YtbfflipcmciapaaDoorTapI
import Derived.Test.YtbfflipcmciapaaDoorTapeBackWalk
namespace Go.Proofs.YtbfflipcmciapaaDoor
open Go.ChangeShapes Go.WideShapes Go.ChangeAt Go.RowKit
set_option linter.unusedVariables false
set_option maxRecDepth 100000

set_option maxHeartbeats 3200000 in
theorem Tp.print_some_bad (v : Value) (l : List Tp.In) (d : Nat) (t : List UInt8) (w : World) (hF : Tp.F w) (h : Tp.InAt w.heap.size w v l) (hok : ∀ x ∈ l, x.ok) (hd : d < 256) (q : Nat) (hq : Tp.ofb t = some q) (hc : Tp.chkIn l 0 ≠ 0) :
    Calls Tryd.prog 3 #[v, .int .u8 d, .string (mk t)] w fun e w' => e = .returned (.bool true) ∧ Below w.heap.size w w' := by
  obtain ⟨a1, k1, e1⟩ := h.len
  subst e1
  have H0 : Hid (Tp.Bw w (.slice a1 l.length k1) l w) := hid ⟨st0 w, hF, h⟩
  have hN : Tp.ofbN t = q := by unfold Tp.ofbN; rw [hq]; rfl
  have hE : Tp.ofbE t = 0 := by unfold Tp.ofbE; rw [hq]; rfl
  have HOF : Hid (∀ W, Calls Tryd.prog 8 #[.string (mk t)] W fun e w' => e = .returned (.tuple #[.int .u8 q, .int .i64 0]) ∧ W = w') := hid (fun W => by have h9 := Tp.ofButtons_any t W; rw [hN, hE] at h9; exact h9)
  have HRO : Hid (∀ W, Calls Tryd.prog 9 #[.string (mk t)] W fun e w' => e = .returned (.tuple #[.int .u8 q, .bool true]) ∧ Below W.heap.size W w') := hid (fun W => by have h9 := Tp.refOfButtons t W; rw [hN, hq] at h9; exact h9)
  have HPR : Hid (∀ W, Tp.Bw w (.slice a1 l.length k1) l W → Calls Tryd.prog 7 #[.slice a1 l.length k1] W fun e w' => e = .returned (.tuple #[.string (mk (Tp.printS l)), .int .i64 (Tp.chkIn l 0)]) ∧ Below W.heap.size W w') := hid (fun W h => Tp.print_any l _ _ W h.inp h.low.size hok h.fc)
  have hbb : ((mk (Tp.btn d)).toList == (mk (Tp.btn d)).toList) = true := by simp
  have HOK := hid hok
  clear hF h hok hN hE hq
  have hp : Tp.printS l = [] := if_neg hc
  rw [hp] at HPR
  have hne : (Tp.chkIn l 0 != 0) = true := by simpa using hc
  have hem : (mk ([] : List UInt8)).toList.isEmpty = true := by rw [Tp.mk_empty]; rfl
  generalize hce : Tp.chkIn l 0 = ce at *
  have hee : (ce == ce) = true := by simp
  clear hp hc
  go_enter Tryd.func3, Tryd.ntmps3
  go_wp2_with (first
    | (go_at_call 7; refine (HPR.out _ H0.out).mono ?_; rintro e w1 ⟨rfl, hb1⟩; have H1 := hid (H0.out.kept hb1); clear hb1)
    | (go_at_call 8; refine (HOF.out _).mono ?_; rintro e w2 ⟨rfl, rfl⟩)
    | (go_at_call 9; refine (HRO.out _).mono ?_; rintro e w3 ⟨rfl, hb3⟩; have H3 := hid (H1.out.kept hb3); clear hb3)
    | (go_at_call 10; refine (Tp.taped _ H3.out.fc).mono ?_; rintro e w4 ⟨rfl, hb4⟩; have H4 := hid (H3.out.kept hb4); clear hb4)
    | (go_at_call 11; refine (Tp.buttons_any d hd _).mono ?_; rintro e w5 ⟨rfl, hb5⟩; have H5 := hid (H4.out.kept hb5); clear hb5)
    | (go_at_call 12; have hq5 := H5.out; clear hq5; refine (Tp.refButtons d hd _).mono ?_; rintro e w6 ⟨rfl, hb6⟩; have H6 := hid (H5.out.kept hb6); clear hb6)
    | (go_at_call 13; refine (Tp.rcheck l _ _ 0 _ H6.out.inp H6.out.low.size).mono ?_; rw [hce]; rintro e w7 ⟨rfl, hb7⟩; have H7 := hid (H6.out.kept hb7); clear hb7))
  go_ret
  exact ⟨rfl, H7.out.low⟩
set_option maxHeartbeats 3200000 in
theorem Tp.print_some_ok (v : Value) (l : List Tp.In) (d : Nat) (t : List UInt8) (w : World) (hF : Tp.F w) (h : Tp.InAt w.heap.size w v l) (hok : ∀ x ∈ l, x.ok) (hd : d < 256) (q : Nat) (hq : Tp.ofb t = some q) (hc : Tp.chkIn l 0 = 0) :
    Calls Tryd.prog 3 #[v, .int .u8 d, .string (mk t)] w fun e w' => e = .returned (.bool true) ∧ Below w.heap.size w w' := by
  obtain ⟨a1, k1, e1⟩ := h.len
  subst e1
  have H0 : Hid (Tp.Bw w (.slice a1 l.length k1) l w) := hid ⟨st0 w, hF, h⟩
  have hN : Tp.ofbN t = q := by unfold Tp.ofbN; rw [hq]; rfl
  have hE : Tp.ofbE t = 0 := by unfold Tp.ofbE; rw [hq]; rfl
  have HOF : Hid (∀ W, Calls Tryd.prog 8 #[.string (mk t)] W fun e w' => e = .returned (.tuple #[.int .u8 q, .int .i64 0]) ∧ W = w') := hid (fun W => by have h9 := Tp.ofButtons_any t W; rw [hN, hE] at h9; exact h9)
  have HRO : Hid (∀ W, Calls Tryd.prog 9 #[.string (mk t)] W fun e w' => e = .returned (.tuple #[.int .u8 q, .bool true]) ∧ Below W.heap.size W w') := hid (fun W => by have h9 := Tp.refOfButtons t W; rw [hN, hq] at h9; exact h9)
  have HPR : Hid (∀ W, Tp.Bw w (.slice a1 l.length k1) l W → Calls Tryd.prog 7 #[.slice a1 l.length k1] W fun e w' => e = .returned (.tuple #[.string (mk (Tp.printS l)), .int .i64 (Tp.chkIn l 0)]) ∧ Below W.heap.size W w') := hid (fun W h => Tp.print_any l _ _ W h.inp h.low.size hok h.fc)
  have hbb : ((mk (Tp.btn d)).toList == (mk (Tp.btn d)).toList) = true := by simp
  have HOK := hid hok
  clear hF h hok hN hE hq
  have hp : Tp.printS l = Tp.text l := if_pos hc
  rw [hp, hc] at HPR
  have HC := hid hc
  clear hp hc
  go_enter Tryd.func3, Tryd.ntmps3
  go_wp2_with (first
    | (go_at_call 7; refine (HPR.out _ H0.out).mono ?_; rintro e w1 ⟨rfl, hb1⟩; have H1 := hid (H0.out.kept hb1); clear hb1)
    | (go_at_call 8; refine (HOF.out _).mono ?_; rintro e w2 ⟨rfl, rfl⟩)
    | (go_at_call 9; refine (HRO.out _).mono ?_; rintro e w3 ⟨rfl, hb3⟩; have H3 := hid (H1.out.kept hb3); clear hb3)
    | (go_at_call 10; refine (Tp.taped _ H3.out.fc).mono ?_; rintro e w4 ⟨rfl, hb4⟩; have H4 := hid (H3.out.kept hb4); clear hb4)
    | (go_at_call 11; refine (Tp.buttons_any d hd _).mono ?_; rintro e w5 ⟨rfl, hb5⟩; have H5 := hid (H4.out.kept hb5); clear hb5)
    | (go_at_call 12; have hq5 := H5.out; clear hq5; refine (Tp.refButtons d hd _).mono ?_; rintro e w6 ⟨rfl, hb6⟩; have H6 := hid (H5.out.kept hb6); clear hb6)
    | (go_at_call 13; refine (Tp.rcheck l _ _ 0 _ H6.out.inp H6.out.low.size).mono ?_; rw [HC.out]; rintro e w7 ⟨rfl, hb7⟩; have H7 := hid (H6.out.kept hb7); clear hb7))
  go_loopw [14, 78] (fun s i wr => ∃ j : Nat, j ≤ l.length ∧ i = .int .i64 j ∧ s = .string (mk (Tp.text (l.take j))) ∧ Tp.Bw w (.slice a1 l.length k1) l wr) (fun _ i _ => l.length - (intOf i).toNat)
  case atStart => exact ⟨0, Nat.zero_le _, rfl, rfl, H7.out⟩
  case round =>
    obtain ⟨j, hj, rfl, rfl, hw⟩ := hrel
    have HW := hid hw
    have hl40 := Tp.chk_40 HC.out
    by_cases hlt : j < l.length
    · obtain ⟨x, hx⟩ : ∃ x, l[j]? = some x := ⟨_, List.getElem?_eq_getElem hlt⟩
      have hxo := HOK.out x (List.mem_of_getElem? hx)
      have HN := hid (Tp.text_next hx)
      have hlen := Tp.text_len (l.take j) (fun y hy => HOK.out y (List.mem_of_mem_take hy))
      rw [List.length_take, Nat.min_eq_left hj] at hlen
      obtain ⟨g, o, k, ev, gz, x0, x1, x2⟩ := hw.inp.at' hx
      cases ev
      have hjl : (j : Int) < l.length := by omega
      have hj0 : (0 : Int) ≤ j := by omega
      obtain ⟨c, p, z⟩ := x
      simp only at x0 x1 x2
      obtain ⟨c0, c1, p0, p1, hz⟩ := hxo
      simp only at c0 c1 p0 p1 hz
      have h1 := Lib.itoa_length_le c c0 c1
      have h2 := Lib.itoa_length_le p p0 p1
      have HK : Hid (Tp.Lw wr wr.heap.size c p z (wr.alloc (.cells #[.int .i64 c, .int .i64 p, .int .u8 z] 34))) := hid ⟨stA (st0 wr) _, HW.out.fc.kept (stA (st0 wr) _), Bx.new wr [.int .i64 c, .int .i64 p, .int .u8 z] _ rfl⟩
      have HLN : Hid ((⟨c, p, z⟩ : Tp.In).line = Lib.itoa c ++ [32] ++ Lib.itoa p ++ [32] ++ Tp.btn z) := hid rfl
      generalize hT : Tp.text (l.take j) = T at *
      generalize hA : Lib.itoa c = A at *
      generalize hB : Lib.itoa p = B at *
      generalize hD : Tp.btn z = D at *
      have h3 : D.length = 8 := by rw [← hD]; rfl
      have zA : (mk A).size = A.length := rfl
      have zB : (mk B).size = B.length := rfl
      have zD : (mk D).size = D.length := rfl
      have zT : (mk T).size = T.length := rfl
      have s1 : ¬ 9223372036854775807 < (mk A).size + 1 := by omega
      have s2 : ¬ 9223372036854775807 < (mk A).size + 1 + (mk B).size := by omega
      have s3 : ¬ 9223372036854775807 < (mk A).size + 1 + (mk B).size + 1 := by omega
      have s4 : ¬ 9223372036854775807 < (mk A).size + 1 + (mk B).size + 1 + (mk D).size := by omega
      have s5 : ¬ 9223372036854775807 < (mk A).size + 1 + (mk B).size + 1 + (mk D).size + 1 := by omega
      have s6 : ¬ 9223372036854775807 < (mk T).size + ((mk A).size + 1 + (mk B).size + 1 + (mk D).size + 1) := by omega
      clear zA zB zD zT h1 h2 h3 hw hx hlen
      go_wp2
      go_region_held3 (fun w' => w'.cell? ⟨wr.heap.size, 0, none⟩ = some (.int .i64 c) ∧ w'.cell? ⟨wr.heap.size, 1, none⟩ = some (.int .i64 p) ∧ w'.cell? ⟨wr.heap.size, 2, none⟩ = some (.int .u8 z) ∧ Tp.Lw wr wr.heap.size c p z w')
        (first
          | with_reducible exact Tp.Lw.all HK.out.drew
          | with_reducible exact Tp.lw_keep (by assumption) (by assumption)
          | (go_keep; done))
        (first
          | (go_at_call 14; have hq := HX1.out; clear hq; refine (Tp.itoa_any p p0 p1 _ HX1.out.fc).mono ?_; rw [hB]; rintro e v2 ⟨rfl, hb2⟩; have HX2 := hid (HX1.out.kept hb2))
          | (go_at_call 14; refine (Tp.itoa_any c c0 c1 _ HK.out.drew.fc).mono ?_; rw [hA]; rintro e v1 ⟨rfl, hb1⟩; have HX1 := hid (HK.out.drew.kept hb1))
          | (go_at_call 12; refine (Tp.refButtons z hz _).mono ?_; rw [hD]; rintro e v3 ⟨rfl, hb3⟩))
      go_wp2
      refine ⟨⟨j + 1, by omega, by simp, ?_, HW.out.kept (HX2.out.kept hb3).low⟩, by simp [intOf]; omega⟩
      rw [HN.out, HLN.out, show (⟨#[32]⟩ : ByteArray) = mk [32] from rfl, show (⟨#[10]⟩ : ByteArray) = mk [10] from rfl, Tp.mk_app, Tp.mk_app, Tp.mk_app, Tp.mk_app, Tp.mk_app, Tp.mk_app]
      simp
    · have hj2 : j = l.length := by omega
      subst hj2
      have hnl : ¬ (l.length : Int) < l.length := by omega
      rw [List.take_length]
      have htt : ((mk (Tp.text l)).toList == (mk (Tp.text l)).toList) = true := by simp
      clear hw
      go_wp2
      go_ret
      exact ⟨rfl, HW.out.low⟩
set_option maxHeartbeats 3200000 in
theorem Tp.print_none_bad (v : Value) (l : List Tp.In) (d : Nat) (t : List UInt8) (w : World) (hF : Tp.F w) (h : Tp.InAt w.heap.size w v l) (hok : ∀ x ∈ l, x.ok) (hd : d < 256) (hq : Tp.ofb t = none) (hc : Tp.chkIn l 0 ≠ 0) :
    Calls Tryd.prog 3 #[v, .int .u8 d, .string (mk t)] w fun e w' => e = .returned (.bool true) ∧ Below w.heap.size w w' := by
  obtain ⟨a1, k1, e1⟩ := h.len
  subst e1
  have H0 : Hid (Tp.Bw w (.slice a1 l.length k1) l w) := hid ⟨st0 w, hF, h⟩
  have hN : Tp.ofbN t = 0 := by unfold Tp.ofbN; rw [hq]; rfl
  have hE : Tp.ofbE t = 1 := by unfold Tp.ofbE; rw [hq]; rfl
  have HOF : Hid (∀ W, Calls Tryd.prog 8 #[.string (mk t)] W fun e w' => e = .returned (.tuple #[.int .u8 0, .int .i64 1]) ∧ W = w') := hid (fun W => by have h9 := Tp.ofButtons_any t W; rw [hN, hE] at h9; exact h9)
  have HRO : Hid (∀ W, Calls Tryd.prog 9 #[.string (mk t)] W fun e w' => e = .returned (.tuple #[.int .u8 0, .bool false]) ∧ Below W.heap.size W w') := hid (fun W => by have h9 := Tp.refOfButtons t W; rw [hN, hq] at h9; exact h9)
  have HPR : Hid (∀ W, Tp.Bw w (.slice a1 l.length k1) l W → Calls Tryd.prog 7 #[.slice a1 l.length k1] W fun e w' => e = .returned (.tuple #[.string (mk (Tp.printS l)), .int .i64 (Tp.chkIn l 0)]) ∧ Below W.heap.size W w') := hid (fun W h => Tp.print_any l _ _ W h.inp h.low.size hok h.fc)
  have hbb : ((mk (Tp.btn d)).toList == (mk (Tp.btn d)).toList) = true := by simp
  have HOK := hid hok
  clear hF h hok hN hE hq
  have hp : Tp.printS l = [] := if_neg hc
  rw [hp] at HPR
  have hne : (Tp.chkIn l 0 != 0) = true := by simpa using hc
  have hem : (mk ([] : List UInt8)).toList.isEmpty = true := by rw [Tp.mk_empty]; rfl
  generalize hce : Tp.chkIn l 0 = ce at *
  have hee : (ce == ce) = true := by simp
  clear hp hc
  go_enter Tryd.func3, Tryd.ntmps3
  go_wp2_with (first
    | (go_at_call 7; refine (HPR.out _ H0.out).mono ?_; rintro e w1 ⟨rfl, hb1⟩; have H1 := hid (H0.out.kept hb1); clear hb1)
    | (go_at_call 8; refine (HOF.out _).mono ?_; rintro e w2 ⟨rfl, rfl⟩)
    | (go_at_call 9; refine (HRO.out _).mono ?_; rintro e w3 ⟨rfl, hb3⟩; have H3 := hid (H1.out.kept hb3); clear hb3)
    | (go_at_call 10; refine (Tp.taped _ H3.out.fc).mono ?_; rintro e w4 ⟨rfl, hb4⟩; have H4 := hid (H3.out.kept hb4); clear hb4)
    | (go_at_call 11; refine (Tp.buttons_any d hd _).mono ?_; rintro e w5 ⟨rfl, hb5⟩; have H5 := hid (H4.out.kept hb5); clear hb5)
    | (go_at_call 12; have hq5 := H5.out; clear hq5; refine (Tp.refButtons d hd _).mono ?_; rintro e w6 ⟨rfl, hb6⟩; have H6 := hid (H5.out.kept hb6); clear hb6)
    | (go_at_call 13; refine (Tp.rcheck l _ _ 0 _ H6.out.inp H6.out.low.size).mono ?_; rw [hce]; rintro e w7 ⟨rfl, hb7⟩; have H7 := hid (H6.out.kept hb7); clear hb7))
  go_ret
  exact ⟨rfl, H7.out.low⟩
set_option maxHeartbeats 3200000 in
theorem Tp.print_none_ok (v : Value) (l : List Tp.In) (d : Nat) (t : List UInt8) (w : World) (hF : Tp.F w) (h : Tp.InAt w.heap.size w v l) (hok : ∀ x ∈ l, x.ok) (hd : d < 256) (hq : Tp.ofb t = none) (hc : Tp.chkIn l 0 = 0) :
    Calls Tryd.prog 3 #[v, .int .u8 d, .string (mk t)] w fun e w' => e = .returned (.bool true) ∧ Below w.heap.size w w' := by
  obtain ⟨a1, k1, e1⟩ := h.len
  subst e1
  have H0 : Hid (Tp.Bw w (.slice a1 l.length k1) l w) := hid ⟨st0 w, hF, h⟩
  have hN : Tp.ofbN t = 0 := by unfold Tp.ofbN; rw [hq]; rfl
  have hE : Tp.ofbE t = 1 := by unfold Tp.ofbE; rw [hq]; rfl
  have HOF : Hid (∀ W, Calls Tryd.prog 8 #[.string (mk t)] W fun e w' => e = .returned (.tuple #[.int .u8 0, .int .i64 1]) ∧ W = w') := hid (fun W => by have h9 := Tp.ofButtons_any t W; rw [hN, hE] at h9; exact h9)
  have HRO : Hid (∀ W, Calls Tryd.prog 9 #[.string (mk t)] W fun e w' => e = .returned (.tuple #[.int .u8 0, .bool false]) ∧ Below W.heap.size W w') := hid (fun W => by have h9 := Tp.refOfButtons t W; rw [hN, hq] at h9; exact h9)
  have HPR : Hid (∀ W, Tp.Bw w (.slice a1 l.length k1) l W → Calls Tryd.prog 7 #[.slice a1 l.length k1] W fun e w' => e = .returned (.tuple #[.string (mk (Tp.printS l)), .int .i64 (Tp.chkIn l 0)]) ∧ Below W.heap.size W w') := hid (fun W h => Tp.print_any l _ _ W h.inp h.low.size hok h.fc)
  have hbb : ((mk (Tp.btn d)).toList == (mk (Tp.btn d)).toList) = true := by simp
  have HOK := hid hok
  clear hF h hok hN hE hq
  have hp : Tp.printS l = Tp.text l := if_pos hc
  rw [hp, hc] at HPR
  have HC := hid hc
  clear hp hc
  go_enter Tryd.func3, Tryd.ntmps3
  go_wp2_with (first
    | (go_at_call 7; refine (HPR.out _ H0.out).mono ?_; rintro e w1 ⟨rfl, hb1⟩; have H1 := hid (H0.out.kept hb1); clear hb1)
    | (go_at_call 8; refine (HOF.out _).mono ?_; rintro e w2 ⟨rfl, rfl⟩)
    | (go_at_call 9; refine (HRO.out _).mono ?_; rintro e w3 ⟨rfl, hb3⟩; have H3 := hid (H1.out.kept hb3); clear hb3)
    | (go_at_call 10; refine (Tp.taped _ H3.out.fc).mono ?_; rintro e w4 ⟨rfl, hb4⟩; have H4 := hid (H3.out.kept hb4); clear hb4)
    | (go_at_call 11; refine (Tp.buttons_any d hd _).mono ?_; rintro e w5 ⟨rfl, hb5⟩; have H5 := hid (H4.out.kept hb5); clear hb5)
    | (go_at_call 12; have hq5 := H5.out; clear hq5; refine (Tp.refButtons d hd _).mono ?_; rintro e w6 ⟨rfl, hb6⟩; have H6 := hid (H5.out.kept hb6); clear hb6)
    | (go_at_call 13; refine (Tp.rcheck l _ _ 0 _ H6.out.inp H6.out.low.size).mono ?_; rw [HC.out]; rintro e w7 ⟨rfl, hb7⟩; have H7 := hid (H6.out.kept hb7); clear hb7))
  go_loopw [14, 78] (fun s i wr => ∃ j : Nat, j ≤ l.length ∧ i = .int .i64 j ∧ s = .string (mk (Tp.text (l.take j))) ∧ Tp.Bw w (.slice a1 l.length k1) l wr) (fun _ i _ => l.length - (intOf i).toNat)
  case atStart => exact ⟨0, Nat.zero_le _, rfl, rfl, H7.out⟩
  case round =>
    obtain ⟨j, hj, rfl, rfl, hw⟩ := hrel
    have HW := hid hw
    have hl40 := Tp.chk_40 HC.out
    by_cases hlt : j < l.length
    · obtain ⟨x, hx⟩ : ∃ x, l[j]? = some x := ⟨_, List.getElem?_eq_getElem hlt⟩
      have hxo := HOK.out x (List.mem_of_getElem? hx)
      have HN := hid (Tp.text_next hx)
      have hlen := Tp.text_len (l.take j) (fun y hy => HOK.out y (List.mem_of_mem_take hy))
      rw [List.length_take, Nat.min_eq_left hj] at hlen
      obtain ⟨g, o, k, ev, gz, x0, x1, x2⟩ := hw.inp.at' hx
      cases ev
      have hjl : (j : Int) < l.length := by omega
      have hj0 : (0 : Int) ≤ j := by omega
      obtain ⟨c, p, z⟩ := x
      simp only at x0 x1 x2
      obtain ⟨c0, c1, p0, p1, hz⟩ := hxo
      simp only at c0 c1 p0 p1 hz
      have h1 := Lib.itoa_length_le c c0 c1
      have h2 := Lib.itoa_length_le p p0 p1
      have HK : Hid (Tp.Lw wr wr.heap.size c p z (wr.alloc (.cells #[.int .i64 c, .int .i64 p, .int .u8 z] 34))) := hid ⟨stA (st0 wr) _, HW.out.fc.kept (stA (st0 wr) _), Bx.new wr [.int .i64 c, .int .i64 p, .int .u8 z] _ rfl⟩
      have HLN : Hid ((⟨c, p, z⟩ : Tp.In).line = Lib.itoa c ++ [32] ++ Lib.itoa p ++ [32] ++ Tp.btn z) := hid rfl
      generalize hT : Tp.text (l.take j) = T at *
      generalize hA : Lib.itoa c = A at *
      generalize hB : Lib.itoa p = B at *
      generalize hD : Tp.btn z = D at *
      have h3 : D.length = 8 := by rw [← hD]; rfl
      have zA : (mk A).size = A.length := rfl
      have zB : (mk B).size = B.length := rfl
      have zD : (mk D).size = D.length := rfl
      have zT : (mk T).size = T.length := rfl
      have s1 : ¬ 9223372036854775807 < (mk A).size + 1 := by omega
      have s2 : ¬ 9223372036854775807 < (mk A).size + 1 + (mk B).size := by omega
      have s3 : ¬ 9223372036854775807 < (mk A).size + 1 + (mk B).size + 1 := by omega
      have s4 : ¬ 9223372036854775807 < (mk A).size + 1 + (mk B).size + 1 + (mk D).size := by omega
      have s5 : ¬ 9223372036854775807 < (mk A).size + 1 + (mk B).size + 1 + (mk D).size + 1 := by omega
      have s6 : ¬ 9223372036854775807 < (mk T).size + ((mk A).size + 1 + (mk B).size + 1 + (mk D).size + 1) := by omega
      clear zA zB zD zT h1 h2 h3 hw hx hlen
      go_wp2
      go_region_held3 (fun w' => w'.cell? ⟨wr.heap.size, 0, none⟩ = some (.int .i64 c) ∧ w'.cell? ⟨wr.heap.size, 1, none⟩ = some (.int .i64 p) ∧ w'.cell? ⟨wr.heap.size, 2, none⟩ = some (.int .u8 z) ∧ Tp.Lw wr wr.heap.size c p z w')
        (first
          | with_reducible exact Tp.Lw.all HK.out.drew
          | with_reducible exact Tp.lw_keep (by assumption) (by assumption)
          | (go_keep; done))
        (first
          | (go_at_call 14; have hq := HX1.out; clear hq; refine (Tp.itoa_any p p0 p1 _ HX1.out.fc).mono ?_; rw [hB]; rintro e v2 ⟨rfl, hb2⟩; have HX2 := hid (HX1.out.kept hb2))
          | (go_at_call 14; refine (Tp.itoa_any c c0 c1 _ HK.out.drew.fc).mono ?_; rw [hA]; rintro e v1 ⟨rfl, hb1⟩; have HX1 := hid (HK.out.drew.kept hb1))
          | (go_at_call 12; refine (Tp.refButtons z hz _).mono ?_; rw [hD]; rintro e v3 ⟨rfl, hb3⟩))
      go_wp2
      refine ⟨⟨j + 1, by omega, by simp, ?_, HW.out.kept (HX2.out.kept hb3).low⟩, by simp [intOf]; omega⟩
      rw [HN.out, HLN.out, show (⟨#[32]⟩ : ByteArray) = mk [32] from rfl, show (⟨#[10]⟩ : ByteArray) = mk [10] from rfl, Tp.mk_app, Tp.mk_app, Tp.mk_app, Tp.mk_app, Tp.mk_app, Tp.mk_app]
      simp
    · have hj2 : j = l.length := by omega
      subst hj2
      have hnl : ¬ (l.length : Int) < l.length := by omega
      rw [List.take_length]
      have htt : ((mk (Tp.text l)).toList == (mk (Tp.text l)).toList) = true := by simp
      clear hw
      go_wp2
      go_ret
      exact ⟨rfl, HW.out.low⟩
theorem Tp.print_law (v : Value) (l : List Tp.In) (d : Nat) (t : List UInt8) (w : World) (hF : Tp.F w) (h : Tp.InAt w.heap.size w v l) (hok : ∀ x ∈ l, x.ok) (hd : d < 256) :
    Calls Tryd.prog 3 #[v, .int .u8 d, .string (mk t)] w fun e w' => e = .returned (.bool true) ∧ Below w.heap.size w w' := by
  cases hq : Tp.ofb t with
  | none =>
    by_cases hc : Tp.chkIn l 0 = 0
    · exact Tp.print_none_ok v l d t w hF h hok hd hq hc
    · exact Tp.print_none_bad v l d t w hF h hok hd hq hc
  | some q =>
    by_cases hc : Tp.chkIn l 0 = 0
    · exact Tp.print_some_ok v l d t w hF h hok hd q hq hc
    · exact Tp.print_some_bad v l d t w hF h hok hd q hq hc
end Go.Proofs.YtbfflipcmciapaaDoor
