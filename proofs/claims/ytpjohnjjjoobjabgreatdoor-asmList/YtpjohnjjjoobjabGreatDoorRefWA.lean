/-
  What the reference's WordsOf answers of a right order: its words, in a new block; nothing old is written.
-/
import Derived.Test.YtpjohnjjjoobjabGreatDoorRefCA
import Derived.Test.YtpjohnjjjoobjabGreatDoorOrdD
import Derived.Deep.AppendLies
import Derived.Deep.DeepCutAuto
import Derived.Laws.OwnMore
namespace Go.Proofs.YtpjohnjjjoobjabGreatDoor
open Go.ChangeShapes Go.WideShapes Go.ChangeAt Go.RowKit
set_option linter.unusedVariables false

theorem info_u16 : (Tryz.prog.info? 45).map (fun i => (i.zero, i.size, i.bytes)) = some (some (.int .u16 0), 1, 2) := by kernel_rfl
theorem boxD {w w1 X : World} {k : Nat} {d s n ww f : Int} {t t' : TypeId} (hX : Below ((w.alloc (.cells #[.int .i64 k, .int .i64 d, .int .i64 s, .int .i64 n, .int .i64 ww] t)).alloc (.cells #[.int .u16 f] t')).heap.size ((w.alloc (.cells #[.int .i64 k, .int .i64 d, .int .i64 s, .int .i64 n, .int .i64 ww] t)).alloc (.cells #[.int .u16 f] t')) X) (hb : Below X.heap.size X w1) :
    w1.cell? ⟨w.heap.size, 0, none⟩ = some (.int .i64 k) ∧ Below ((w.alloc (.cells #[.int .i64 k, .int .i64 d, .int .i64 s, .int .i64 n, .int .i64 ww] t)).alloc (.cells #[.int .u16 f] t')).heap.size ((w.alloc (.cells #[.int .i64 k, .int .i64 d, .int .i64 s, .int .i64 n, .int .i64 ww] t)).alloc (.cells #[.int .u16 f] t')) w1 := by
  have hB := stp hX hb
  exact ⟨(hB.cell (by simp; omega)).trans (by simp), hB⟩
theorem own_cap {w : World} {base : Nat} {e : TypeId} {size n cap g : Nat} {xs : List Value} (h : w.ownsRow base e size (.slice (some ⟨g, 0, none⟩) n cap) n xs) : n ≤ cap := by
  rcases h.2 with ⟨hv, _⟩ | ⟨g', cap', cur, hv, _, _, hn, _⟩
  · cases hv
  · cases hv; exact hn
set_option maxRecDepth 100000 in
set_option maxHeartbeats 1600000 in
theorem wordsOf_1 (k : Nat) (hk : k < 32) (h30 : k ≠ 30) (d s n ww : Int) (hok : O.okB k d s n ww = true) (hc : O.hasC k 119 = false) (w : World) (hF : Facts w) :
    Calls Tryz.prog 25 #[.agg #[.int .i64 k, .int .i64 d, .int .i64 s, .int .i64 n, .int .i64 ww]] w fun e w' => ∃ g c, e = .returned (.slice (some ⟨g, 0, none⟩) 1 c) ∧ 1 ≤ c ∧ wordsAt w' g [O.first k d s n] ∧ g < w'.heap.size ∧ Below w.heap.size w w' := by
  obtain ⟨⟨d0, d1⟩, ⟨s0, s1⟩, ⟨n0, n1⟩, ⟨w0, ww1⟩⟩ := O.ok_bd hok
  have hf : O.first k d s n = k * 2048 + d * 256 + s * 32 + n % 32 := by unfold O.first; omega
  have HFst := hid hf
  have HF := hid hF
  have HC := hid hc
  clear hF hok hc hf
  have hki : (0 : Int) ≤ k := by omega
  have hki2 : (k : Int) < 32 := by omega
  obtain ⟨i0, hi0, hz0, hz1, hz2⟩ := info_parts info_u16
  go_enter Tryz.func25, Tryz.ntmps25
  go_upto_region 2 with fail
  go_cut [28] (fun b28 wx => b28 = .bool false ∧ Below ((w.alloc (.cells #[.int .i64 k, .int .i64 d, .int .i64 s, .int .i64 n, .int .i64 ww] 47)).alloc (.cells #[.int .u16 (k * 2048 + d * 256 + s * 32 + n % 32)] 45)).heap.size ((w.alloc (.cells #[.int .i64 k, .int .i64 d, .int .i64 s, .int .i64 n, .int .i64 ww] 47)).alloc (.cells #[.int .u16 (k * 2048 + d * 256 + s * 32 + n % 32)] 45)) wx)
  case first =>
    have ad : ∀ (W : World) (o : Obj), W.drew.alloc o = (W.alloc o).drew := fun _ _ => rfl
    go_region_with (first
      | (go_at_call 23; refine (kinds_of _ (by repeat first | exact HF.out | apply facts_drew | apply facts_alloc)).mono ?_; rintro e w1 ⟨g, cap, rfl, htb, hg1, hg2, hb1⟩; obtain ⟨c0, c1, c2⟩ := htb k hk; clear htb; obtain ⟨q0, hB⟩ := boxD (w := w) (k := k) (d := d) (s := s) (n := n) (ww := ww) (f := (k * 2048 + d * 256 + s * 32 + n % 32)) (t := 47) (t' := 45) (by repeat first | with_reducible exact st0 _ | apply Below.drew | apply stA) hb1)
      | (go_at_call 29; refine (contains_3 k hk _).mono ?_; rw [HC.out]; rintro e w' ⟨rfl, rfl⟩))
    all_goals (go_wp2_with fail; go_meet)
    all_goals first | exact ⟨rfl, hB⟩ | exact ⟨rfl, hB.drew⟩ | exact ⟨rfl, hB.drew.drew⟩
  case rest =>
  obtain ⟨rfl, hBw⟩ := hcut
  go_wp2
  go_ret
  refine ⟨w.heap.size + 1, 1, rfl, by omega, fun i hi => ?_, by have := hBw.size; simp at this; omega, stp (stA (stA (st0 _) _) _) hBw⟩
  obtain rfl : i = 0 := by simpa using hi
  rw [hBw.cell (by simp), HFst.out]
  exact cell_new _ _ _ _ (by simp)
set_option maxRecDepth 100000 in
set_option maxHeartbeats 1600000 in
theorem wordsOf_2 (k : Nat) (hk : k < 32) (h30 : k ≠ 30) (d s n ww : Int) (hok : O.okB k d s n ww = true) (hc : O.hasC k 119 = true) (w : World) (hF : Facts w) :
    Calls Tryz.prog 25 #[.agg #[.int .i64 k, .int .i64 d, .int .i64 s, .int .i64 n, .int .i64 ww]] w fun e w' => ∃ g c, e = .returned (.slice (some ⟨g, 0, none⟩) 2 c) ∧ 2 ≤ c ∧ wordsAt w' g [O.first k d s n, ww] ∧ g < w'.heap.size ∧ Below w.heap.size w w' := by
  obtain ⟨⟨d0, d1⟩, ⟨s0, s1⟩, ⟨n0, n1⟩, ⟨w0, ww1⟩⟩ := O.ok_bd hok
  have hf : O.first k d s n = k * 2048 + d * 256 + s * 32 + n % 32 := by unfold O.first; omega
  have HFst := hid hf
  have HF := hid hF
  have HC := hid hc
  clear hF hok hc hf
  have hki : (0 : Int) ≤ k := by omega
  have hki2 : (k : Int) < 32 := by omega
  obtain ⟨i0, hi0, hz0, hz1, hz2⟩ := info_parts info_u16
  go_enter Tryz.func25, Tryz.ntmps25
  go_upto_region 2 with fail
  go_cut [28] (fun b28 wx => b28 = .bool true ∧ Below ((w.alloc (.cells #[.int .i64 k, .int .i64 d, .int .i64 s, .int .i64 n, .int .i64 ww] 47)).alloc (.cells #[.int .u16 (k * 2048 + d * 256 + s * 32 + n % 32)] 45)).heap.size ((w.alloc (.cells #[.int .i64 k, .int .i64 d, .int .i64 s, .int .i64 n, .int .i64 ww] 47)).alloc (.cells #[.int .u16 (k * 2048 + d * 256 + s * 32 + n % 32)] 45)) wx)
  case first =>
    have ad : ∀ (W : World) (o : Obj), W.drew.alloc o = (W.alloc o).drew := fun _ _ => rfl
    go_region_with (first
      | (go_at_call 23; refine (kinds_of _ (by repeat first | exact HF.out | apply facts_drew | apply facts_alloc)).mono ?_; rintro e w1 ⟨g, cap, rfl, htb, hg1, hg2, hb1⟩; obtain ⟨c0, c1, c2⟩ := htb k hk; clear htb; obtain ⟨q0, hB⟩ := boxD (w := w) (k := k) (d := d) (s := s) (n := n) (ww := ww) (f := (k * 2048 + d * 256 + s * 32 + n % 32)) (t := 47) (t' := 45) (by repeat first | with_reducible exact st0 _ | apply Below.drew | apply stA) hb1)
      | (go_at_call 29; refine (contains_3 k hk _).mono ?_; rw [HC.out]; rintro e w' ⟨rfl, rfl⟩))
    all_goals (go_wp2_with fail; go_meet)
    all_goals first | exact ⟨rfl, hB⟩ | exact ⟨rfl, hB.drew⟩ | exact ⟨rfl, hB.drew.drew⟩
  case rest =>
  obtain ⟨rfl, hBw⟩ := hcut
  have q4 : wc.cell? ⟨w.heap.size, 4, none⟩ = some (.int .i64 ww) := (hBw.cell (by simp; omega)).trans (by simp)
  have hown := (World.ownsRow_lit (base := w.heap.size) (e := 45) (size := 1) (w.alloc (.cells #[.int .i64 k, .int .i64 d, .int .i64 s, .int .i64 n, .int .i64 ww] 47)) #[.int .u16 (k * 2048 + d * 256 + s * 32 + n % 32)] 1 (by simp) (by unfold maxLen; omega) rfl).kept (grown_of_below hBw) (Or.inr (fun h => by simp [Value.ownBlock] at h))
  rw [show (w.alloc (.cells #[.int .i64 k, .int .i64 d, .int .i64 s, .int .i64 n, .int .i64 ww] 47)).heap.size = w.heap.size + 1 by simp] at hown
  have hz : w.heap.size + 1 < wc.heap.size := by have := hBw.size; simp at this; omega
  go_wp2_with (at_builtin; refine wpList_append_lies _ (by rfl) _ _ _ (by rfl) w.heap.size 45 i0 _ 1 2 Tryz.underlying43 hi0 hz0 hz1 hz2 rfl (by omega) _ 1 _ (by rfl) (hown.alloc _) ⟨wc.heap.size, 0, none⟩ 1 1 [.int .u16 ww] (by rfl) (by rfl) (World.news_of_block (cs := #[.int .u16 ww]) (t := 45) (fr := (0, 0)) (heap_alloc_new wc _)) (by simp [Value.oneCell']) (by omega) (by unfold maxLen; omega) (by omega) (by simp; omega) (wc.heap.size + 1) (by simp) ?_; intro gg cp w3 hown3 hgrow hat hlt3)
  go_ret
  have hb0 := stA (stp (stA (stA (st0 w) _) _) hBw) (.cells #[.int .u16 ww] 45)
  refine ⟨gg, cp, rfl, own_cap hown3, fun i hi => ?_, hlt3, hb0.grown hgrow hb0.size (fun j hj => by simp [Value.ownBlock] at hj; omega)⟩
  have hi' : i = 0 ∨ i = 1 := by simp at hi; omega
  rw [hown3.cellAt i (by omega), HFst.out]
  rcases hi' with rfl | rfl <;> rfl
theorem wordsOf_any (op d s n ww : Int) (h1 : O.isOp op = true) (hok : O.okB op.toNat d s n ww = true) (w : World) (hF : Facts w) :
    Calls Tryz.prog 25 #[.agg #[.int .i64 op, .int .i64 d, .int .i64 s, .int .i64 n, .int .i64 ww]] w fun e w' => ∃ g c, e = .returned (.slice (some ⟨g, 0, none⟩) (O.words op d s n ww).length c) ∧ (O.words op d s n ww).length ≤ c ∧ wordsAt w' g (O.words op d s n ww) ∧ g < w'.heap.size ∧ Below w.heap.size w w' := by
  obtain ⟨a1, a2, a3⟩ := (O.isOp_iff op).1 h1
  obtain ⟨k, rfl⟩ := Int.eq_ofNat_of_zero_le a1
  rw [Int.toNat_natCast] at hok
  unfold O.words
  rw [Int.toNat_natCast]
  cases hc : O.hasC k 119
  · exact wordsOf_1 k (by omega) (by omega) d s n ww hok hc w hF
  · exact wordsOf_2 k (by omega) (by omega) d s n ww hok hc w hF
end Go.Proofs.YtpjohnjjjoobjabGreatDoor
