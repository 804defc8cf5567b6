/-
  What package asm's orderLine answers, of any right order; nothing old is written.
-/
import Derived.Test.YtdjhlfoapieohaaGreatDoorAsmD
namespace Go.Proofs.YtdjhlfoapieohaaGreatDoor
open Go.ChangeShapes Go.WideShapes Go.ChangeAt Go.RowKit
set_option linter.unusedVariables false

theorem join_any (k : Nat) (o : S.Ord) (hok : O.okB k o.d o.s o.n o.w = true) (g c : Nat) (w : World) (hc : (S.parts k).length ≤ c) (hg : g < w.heap.size) (hcell : ∀ j, j < (S.parts k).length → w.cell? ⟨g, j, none⟩ = (tcs k o (S.parts k).length)[j]?) :
    Calls Tryz.prog 98 #[.slice (some ⟨g, 0, none⟩) (S.parts k).length c, .string ⟨#[44, 32]⟩] w fun e w' => e = .returned (.string (mk (Lib.join ((S.parts k).map (S.partText o)) S.comma))) ∧ Below w.heap.size w w' := by
  have h4 := parts_le k
  have e1 : (((S.parts k).map (fun p => mk (S.partText o p))).map (·.data.toList)) = (S.parts k).map (S.partText o) := by
    rw [List.map_map]; rfl
  have h := Tryz.strings_Join g 0 c ((S.parts k).map (fun p => mk (S.partText o p))) ⟨#[44, 32]⟩ w (fun j x hx => ?_) hg (by simp; omega) (by simpa using hc) ?_
  · rw [e1, List.length_map] at h
    exact h
  · have hj : j < (S.parts k).length := by
      have := (List.getElem?_eq_some_iff.1 hx).1
      simpa using this
    rw [Nat.zero_add, hcell j hj]
    unfold tcs
    rw [List.take_length, show (fun p => Value.string (mk (S.partText o p))) = Value.string ∘ (fun p => mk (S.partText o p)) from rfl, ← List.map_map, List.getElem?_map, hx]
    rfl
  · rw [e1]
    exact Nat.le_trans (join_small hok) (by omega)
theorem own_slice {w : World} {B : Nat} {t : TypeId} {v : Value} {n : Nat} {xs : List Value} (h : w.ownsRow B t 1 v n xs) (hn : n = 0) : ∃ a cap, v = .slice a 0 cap := by
  subst hn
  rcases h.2 with ⟨h, _⟩ | ⟨g, cap, cur, h, _⟩
  · exact ⟨_, _, h⟩
  · exact ⟨_, _, h⟩
theorem partsOf_0 (k : Nat) (hk : k < 32) (h30 : k ≠ 30) (hp : S.parts k = []) (w : World) (hs : shapesAt w) :
    Calls Tryz.prog 96 #[.int .i64 k] w fun e w' => ∃ a cap, e = .returned (.slice a 0 cap) ∧ Below w.heap.size w w' := by
  refine (partsOf_any k hk h30 w hs).mono fun e w' ⟨v, he, hown, hb⟩ => ?_
  obtain ⟨a, cap, rfl⟩ := own_slice hown (by rw [pcs_len, hp]; rfl)
  exact ⟨a, cap, he, hb⟩
/-- Block g of w tells the parts of an order. -/
def partsAt (w : World) (g k : Nat) : Prop := ∀ j p : Nat, (S.parts k)[j]? = some p → w.cell? ⟨g, j, none⟩ = some (.int .i64 p)
theorem partsOf_n (k : Nat) (hk : k < 32) (h30 : k ≠ 30) (hp : 0 < (S.parts k).length) (w : World) (hs : shapesAt w) :
    Calls Tryz.prog 96 #[.int .i64 k] w fun e w' => ∃ g cap, e = .returned (.slice (some ⟨g, 0, none⟩) (S.parts k).length cap) ∧ partsAt w' g k ∧ w.heap.size ≤ g ∧ g < w'.heap.size ∧ (S.parts k).length ≤ cap ∧ Below w.heap.size w w' := by
  refine (partsOf_any k hk h30 w hs).mono fun e w' ⟨v, he, hown, hb⟩ => ?_
  obtain ⟨g, cap, rfl, h1, h2, h3, h4⟩ := row_slice hown (by rw [pcs_len]; exact hp)
  rw [pcs_len] at he h3 h4
  refine ⟨g, cap, he, fun j p hj => ?_, h1, h2, h3, hb⟩
  rw [h4 j (List.getElem?_eq_some_iff.1 hj).1, pcs_at hj]
theorem partsAt.kept {w w' : World} {g k B : Nat} (h : partsAt w g k) (hb : Below B w w') (hB : g < B) : partsAt w' g k := fun j p hj => (hb.cell hB).trans (h j p hj)
theorem nameS_len : ∀ k, k < 32 → (O.nameS k).size ≤ 4 := by decide +kernel
theorem name_mk (k : Nat) (h30 : k ≠ 30) : O.nameS k = mk (K.row k).1 := by unfold O.nameS; rw [if_neg h30]; rfl
set_option maxRecDepth 100000 in
set_option maxHeartbeats 1600000 in
theorem orderLine_0 (k : Nat) (hk : k < 32) (h30 : k ≠ 30) (hp : S.parts k = []) (d s n ww : Int) (w : World) (hF : AF w) :
    Calls Tryz.prog 69 #[.agg #[.int .i64 k, .int .i64 d, .int .i64 s, .int .i64 n, .int .i64 ww]] w fun e w' => e = .returned (.string (mk ((K.row k).1 ++ [10]))) ∧ Below w.heap.size w w' := by
  have HF := hid hF
  have HP := hid hp
  have hns := nameS_len k hk
  have hns' : ¬ 9223372036854775807 < (O.nameS k).size + 1 := by omega
  clear hF hp
  go_enter Tryz.func69, Tryz.ntmps69
  go_wp2_with (first
    | (go_at_call 50; refine (name_yes k hk h30 _ (af_alloc HF.out _).shapes).mono ?_; rintro e w1 ⟨rfl, hb1⟩; obtain ⟨hc1, hf1⟩ := bcell hb1; have hz1 := lt_box hb1)
    | (go_at_call 96; refine (partsOf_0 k hk h30 HP.out _ ((af_alloc HF.out _).kept hb1).shapes).mono ?_; rintro e w2 ⟨a2, cap2, rfl, hb2⟩))
  go_loop [5, 19] (fun l i => l = .slice none 0 0 ∧ i = .int .i64 0) (fun _ _ => 0)
  case atStart => exact ⟨rfl, rfl⟩
  case round =>
    obtain ⟨rfl, rfl⟩ := hrel
    go_wp2
    go_ret
    rw [name_mk k h30, show (⟨#[10]⟩ : ByteArray) = mk [10] from rfl, mk_append]
    exact ⟨rfl, stp (stp (stA (st0 _) _) hb1) hb2⟩
set_option maxRecDepth 100000 in
set_option maxHeartbeats 1600000 in
theorem orderLine_n (k : Nat) (hk : k < 32) (h30 : k ≠ 30) (hp : 0 < (S.parts k).length) (o : S.Ord) (hok : O.okB k o.d o.s o.n o.w = true) (w : World) (hF : AF w) :
    Calls Tryz.prog 69 #[.agg #[.int .i64 k, .int .i64 o.d, .int .i64 o.s, .int .i64 o.n, .int .i64 o.w]] w fun e w' => e = .returned (.string (mk (S.orderText k o ++ [10]))) ∧ Below w.heap.size w w' := by
  obtain ⟨i0, hi0, hz0, hz1, hz2⟩ := info_parts info_string
  have HF := hid hF
  have HO := hid hok
  have h4 := parts_le k
  clear hF hok
  go_enter Tryz.func69, Tryz.ntmps69
  go_wp2_with (first
    | (go_at_call 50; refine (name_yes k hk h30 _ (af_alloc HF.out _).shapes).mono ?_; rintro e w1 ⟨rfl, hb1⟩; obtain ⟨hc1, hf1⟩ := bcell hb1; have hz1' := lt_box hb1)
    | (go_at_call 96; refine (partsOf_n k hk h30 hp _ ((af_alloc HF.out _).kept hb1).shapes).mono ?_; rintro e w2 ⟨g, cap, rfl, hpa, hg1, hg2, hcap, hb2⟩))
  have hB2 := stp hb1 hb2
  have hF2 := hid ((af_alloc HF.out _).kept hB2)
  have hsz2 := hB2.size
  clear hc1 hf1
  go_loopw [5, 19] (fun l i wr => ∃ j : Nat, j ≤ (S.parts k).length ∧ i = .int .i64 j ∧ wr.ownsRow w2.heap.size 9 1 l j (tcs k o j) ∧ Below w2.heap.size w2 wr) (fun _ i _ => (S.parts k).length - (intOf i).toNat)
  case atStart => exact ⟨0, by omega, rfl, ⟨rfl, Or.inl ⟨rfl, rfl⟩⟩, Below.refl _ _⟩
  case round =>
    obtain ⟨j, hj, rfl, hown, hbl⟩ := hrel
    have hszr := hbl.size
    by_cases hlt : j < (S.parts k).length
    · obtain ⟨p, hpj⟩ : ∃ p, (S.parts k)[j]? = some p := ⟨_, List.getElem?_eq_getElem hlt⟩
      have hp4 := parts_lt hpj
      have hcp := (hpa.kept hbl hg2) j p hpj
      have hgr : g < wr.heap.size := by omega
      have hfield : wr.cell? ⟨w.heap.size, offP p, none⟩ = some (.int .i64 (o.get p)) := by
        have hsz : w.heap.size < w2.heap.size := by simp at hsz2; omega
        rw [hbl.cell hsz, hB2.cell (by simp)]
        exact (cell_new w _ _ _ rfl).trans (ordCell_at k o p hp4)
      have hwr : w.heap.size < wr.heap.size := by simp at hsz2; omega
      have hbd := get_bd HO.out p
      have hlt' : (j : Int) < (S.parts k).length := by omega
      clear hpa
      have hil := itoa_len (o.get p) (by omega)
      have hi' : (mk (Lib.itoa (o.get p))).size ≤ 7 := hil
      have hi2 : ¬ 9223372036854775807 < 1 + (mk (Lib.itoa (o.get p))).size := by omega
      clear hil hi'
      by_cases h0 : p = 0
      · subst h0
        go_wp2_with (first
          | (go_at_call 97; refine (of_any 0 hp4 _ _).mono ?_; rintro e w' ⟨rfl, rfl⟩)
          | (go_at_call 68; refine (itoa_any (o.get 0) (by omega) (by omega) _ (hF2.out.kept hbl)).mono ?_; rintro e w3 ⟨rfl, hb3⟩; have hown1 := hown.kept (grown_of_below hb3) (own_none _); have hB3 := stp hbl hb3)
          | (at_builtin; refine wpList_append_lies _ (by rfl) _ _ _ (by rfl) w2.heap.size 9 i0 _ 1 16 Tryz.underlying33 hi0 hz0 hz1 hz2 rfl (by omega) _ j _ (by rfl) (hown1.alloc _) ⟨w3.heap.size, 0, none⟩ 1 1 [.string (⟨#[114]⟩ ++ mk (Lib.itoa (o.get 0)))] (by rfl) (by rfl) (World.news_of_block (cs := #[.string (⟨#[114]⟩ ++ mk (Lib.itoa (o.get 0)))]) (t := 9) (fr := (0, 0)) (heap_alloc_new w3 _)) (by simp [Value.oneCell']) (by omega) (by unfold maxLen; omega) (by omega) (by have := hB3.size; simp; omega) (w3.heap.size + 1) (by simp) ?_; intro gg cp w4 hown4 hgrow hat hlt4))
        go_roundw
        case rel => exact ⟨j + 1, by omega, by go_num, by rw [tcs_step hpj, partText_r o 0 (Or.inl rfl)]; exact hown4, (stA hB3 _).grown hgrow (stA hB3 _).size (fun q hq => (hown.lt q hq).1)⟩
        case measure => simp [intOf]; omega
      · by_cases h1 : p = 1
        · subst h1
          go_wp2_with (first
          | (go_at_call 97; refine (of_any 1 hp4 _ _).mono ?_; rintro e w' ⟨rfl, rfl⟩)
          | (go_at_call 68; refine (itoa_any (o.get 1) (by omega) (by omega) _ (hF2.out.kept hbl)).mono ?_; rintro e w3 ⟨rfl, hb3⟩; have hown1 := hown.kept (grown_of_below hb3) (own_none _); have hB3 := stp hbl hb3)
          | (at_builtin; refine wpList_append_lies _ (by rfl) _ _ _ (by rfl) w2.heap.size 9 i0 _ 1 16 Tryz.underlying33 hi0 hz0 hz1 hz2 rfl (by omega) _ j _ (by rfl) (hown1.alloc _) ⟨w3.heap.size, 0, none⟩ 1 1 [.string (⟨#[114]⟩ ++ mk (Lib.itoa (o.get 1)))] (by rfl) (by rfl) (World.news_of_block (cs := #[.string (⟨#[114]⟩ ++ mk (Lib.itoa (o.get 1)))]) (t := 9) (fr := (0, 0)) (heap_alloc_new w3 _)) (by simp [Value.oneCell']) (by omega) (by unfold maxLen; omega) (by omega) (by have := hB3.size; simp; omega) (w3.heap.size + 1) (by simp) ?_; intro gg cp w4 hown4 hgrow hat hlt4))
          go_roundw
          case rel => exact ⟨j + 1, by omega, by go_num, by rw [tcs_step hpj, partText_r o 1 (Or.inr rfl)]; exact hown4, (stA hB3 _).grown hgrow (stA hB3 _).size (fun q hq => (hown.lt q hq).1)⟩
          case measure => simp [intOf]; omega
        · have g0 : ((p : Int) == 0) = false := by rw [beq_eq_false_iff_ne]; omega
          have g1 : ((p : Int) == 1) = false := by rw [beq_eq_false_iff_ne]; omega
          go_wp2_with (first
          | (go_at_call 97; refine (of_any p hp4 _ _).mono ?_; rintro e w' ⟨rfl, rfl⟩)
          | (go_at_call 68; refine (itoa_any (o.get p) (by omega) (by omega) _ (hF2.out.kept hbl)).mono ?_; rintro e w3 ⟨rfl, hb3⟩; have hown1 := hown.kept (grown_of_below hb3) (own_none _); have hB3 := stp hbl hb3)
          | (at_builtin; refine wpList_append_lies _ (by rfl) _ _ _ (by rfl) w2.heap.size 9 i0 _ 1 16 Tryz.underlying33 hi0 hz0 hz1 hz2 rfl (by omega) _ j _ (by rfl) (hown1.alloc _) ⟨w3.heap.size, 0, none⟩ 1 1 [.string (mk (Lib.itoa (o.get p)))] (by rfl) (by rfl) (World.news_of_block (cs := #[.string (mk (Lib.itoa (o.get p)))]) (t := 9) (fr := (0, 0)) (heap_alloc_new w3 _)) (by simp [Value.oneCell']) (by omega) (by unfold maxLen; omega) (by omega) (by have := hB3.size; simp; omega) (w3.heap.size + 1) (by simp) ?_; intro gg cp w4 hown4 hgrow hat hlt4))
          go_roundw
          case rel => exact ⟨j + 1, by omega, by go_num, by rw [tcs_step hpj, partText_n o p (by omega)]; exact hown4, (stA hB3 _).grown hgrow (stA hB3 _).size (fun q hq => (hown.lt q hq).1)⟩
          case measure => simp [intOf]; omega
    · have hjn : j = (S.parts k).length := by omega
      subst hjn
      obtain ⟨g', cap', rfl, hg1', hg2', hc', hcell'⟩ := row_slice hown hp
      have hns := nameS_len k hk
      have hjs : (mk (Lib.join ((S.parts k).map (S.partText o)) S.comma)).size ≤ 48 := join_small HO.out
      have q1 : ¬ 9223372036854775807 < 1 + (mk (Lib.join ((S.parts k).map (S.partText o)) S.comma)).size := by omega
      have q2 : ¬ 9223372036854775807 < (O.nameS k).size + (1 + (mk (Lib.join ((S.parts k).map (S.partText o)) S.comma)).size) := by omega
      have q3 : ¬ 9223372036854775807 < (O.nameS k).size + (1 + (mk (Lib.join ((S.parts k).map (S.partText o)) S.comma)).size) + 1 := by omega
      have hp' : (0 : Int) < (S.parts k).length := by omega
      have HJ := hid (join_any k o HO.out g' cap' wr hc' hg2' hcell')
      clear hcell' hpa
      go_wp2_with (go_at_call 98; refine HJ.out.mono ?_; rintro e w5 ⟨rfl, hb5⟩)
      go_ret
      refine ⟨?_, stp (stp (stp (stA (st0 _) _) hB2) hbl) hb5⟩
      rw [name_mk k h30, show (⟨#[10]⟩ : ByteArray) = mk [10] from rfl, show (⟨#[32]⟩ : ByteArray) = mk [32] from rfl, mk_append, mk_append, mk_append]
      unfold S.orderText
      rw [if_neg (fun h => by rw [h] at hp; simp at hp)]
      simp
theorem orderLine_any (k : Nat) (hk : k < 32) (h30 : k ≠ 30) (o : S.Ord) (hok : O.okB k o.d o.s o.n o.w = true) (w : World) (hF : AF w) :
    Calls Tryz.prog 69 #[.agg #[.int .i64 k, .int .i64 o.d, .int .i64 o.s, .int .i64 o.n, .int .i64 o.w]] w fun e w' => e = .returned (.string (mk (S.orderText k o ++ [10]))) ∧ Below w.heap.size w w' := by
  by_cases hp : S.parts k = []
  · have h := orderLine_0 k hk h30 hp o.d o.s o.n o.w w hF
    have e : S.orderText k o = (K.row k).1 := by unfold S.orderText; rw [if_pos hp]; simp
    rw [e]; exact h
  · exact orderLine_n k hk h30 (by cases h : S.parts k <;> simp_all) o hok w hF
end Go.Proofs.YtdjhlfoapieohaaGreatDoor
