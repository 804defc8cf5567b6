/-
  The reference's Built: an order's parts, an order's line.
-/
import Derived.Test.YtdjhlfoapieohaaGreatDoorZcC
namespace Go.Proofs.YtdjhlfoapieohaaGreatDoor
open Go.ChangeShapes Go.WideShapes Go.ChangeAt Go.RowKit
set_option linter.unusedVariables false

set_option maxRecDepth 100000 in
set_option maxHeartbeats 1600000 in
theorem part_d_len (Q : Exit → Act → World → Prop) (a : Act) (w w1 : World) (v5 v6 : Value) (mp gl n k bi : Nat) (t op nm : S.By) (bo gp L cap j : Nat) (has : ByteArray) (x d s nn v : Int) (p : S.By) (hS : Sh a v5 v6 mp gl n k bi t op nm (.slice (some ⟨gp, 0, none⟩) L cap) bo has) (s228 : sl a 228 = (.slice (some ⟨gp, 0, none⟩) L cap)) (s229 : sl a 229 = .int .i64 L) (s230 : sl a 230 = .int .i64 j) (hO : Ob w1 bo x d s nn v w) (hj : j < L) (hL : L ≤ 10) (hh : has.size = L) (hc : (bs has)[j]? = some 100) (hp : w.cell? ⟨gp, j, none⟩ = some (.string (mk p))) (hgp : gp < w.heap.size) (hpl : p.length ≤ 10000) (hB : Bi w bi k) (hF : AF w) (hE : EF w) (hq : p.length ≠ 2)
    (hR : ∀ a' w', Rt a' k 1 → Below w.heap.size w w' → Q .ret a' w') :
    ((cGo [1, 1, 1, 1, 1, 1, 1, 0, 1, 2, 3, 1, 1, 0, 2, 1, 1, 1, 1, 1, 1, 1, 1, 1, 1, 0, 1, 5, 1, 1, 1, 1, 1, 0, 1, 2, 3] bBody)).wp Tryz.prog Q a w := by
  obtain ⟨⟨⟨⟨⟨sz, df, s5, s6, s7, s8, s52, s53, s54⟩, s9, s10, s11⟩, s14, s17, s20⟩, s23⟩, s26⟩ := hS
  have h0 := bs_get has j 100 hc
  have hj1 : (j : Int) < L := by omega
  have hj0 : (0 : Int) ≤ j := by omega
  have hj2 : (j : Int) < has.size := by omega
  have hj3 : j < has.size := by omega
  have HB := hid hB
  have HO := hid hO
  have HWh := hid (whole_at p hpl w hF hE)
  have HF := hid hF
  have HIx : Hid (∀ w, AF w → Calls Tryz.prog 16 #[.string ⟨#[114, 48, 114, 49, 114, 50, 114, 51, 114, 52, 114, 53, 114, 54, 114, 55]⟩, .string (mk p)] w fun e w' => e = .returned (.int .i64 (Lib.index S.regs p)) ∧ w = w') := fun w h => index_any ⟨#[114, 48, 114, 49, 114, 50, 114, 51, 114, 52, 114, 53, 114, 54, 114, 55]⟩ (mk p) (by decide) w h
  have hsz : ((mk p).size : Int) = p.length := by rw [mk_size]
  have hl1 : ((p.length : Int) == 2) = false := by simp; omega
  have hl2 : ((p.length : Int) != 2) = true := by simp; omega
  clear hq
  clear hB hF hE hO hc
  obtain ⟨f, hf, rfl⟩ := act_open a sz df
  rw [hf] at s5 s6 s7 s8 s52 s53 s54 s9 s10 s11 s14 s17 s20 s23 s26 s228 s229 s230
  clear hf sz df
  rw [s5, s6, s7, s8, s52, s53, s54, s9, s10, s11, s14, s17, s20, s23, s26, s228, s229, s230]
  conv => arg 2; whnf
  go_wp2_with (first
    | (go_at_call 17; refine HWh.out.mono ?_; rintro e w2 ⟨nv, rfl, hnv, hb2⟩; have O2 := hid (HO.out.kept hb2); obtain ⟨_, _, oz2, p0, p1, p2, p3, p4, of2⟩ := O2.out)
    | (go_at_call 16; refine (HIx.out _ (HF.out.kept hb2)).mono ?_; rintro e w3 ⟨rfl, rfl⟩)
    | (go_at_call 13; refine ((HB.out.kept hb2).fail _).mono ?_; rintro e w4 ⟨rfl, hb4⟩))
  exact hR _ _ ⟨rfl, rfl, rfl, rfl⟩ (stp hb2 hb4)
set_option maxRecDepth 100000 in
set_option maxHeartbeats 1600000 in
theorem part_d_sign (Q : Exit → Act → World → Prop) (a : Act) (w w1 : World) (v5 v6 : Value) (mp gl n k bi : Nat) (t op nm : S.By) (bo gp L cap j : Nat) (has : ByteArray) (x d s nn v : Int) (p : S.By) (hS : Sh a v5 v6 mp gl n k bi t op nm (.slice (some ⟨gp, 0, none⟩) L cap) bo has) (s228 : sl a 228 = (.slice (some ⟨gp, 0, none⟩) L cap)) (s229 : sl a 229 = .int .i64 L) (s230 : sl a 230 = .int .i64 j) (hO : Ob w1 bo x d s nn v w) (hj : j < L) (hL : L ≤ 10) (hh : has.size = L) (hc : (bs has)[j]? = some 100) (hp : w.cell? ⟨gp, j, none⟩ = some (.string (mk p))) (hgp : gp < w.heap.size) (hpl : p.length ≤ 10000) (hB : Bi w bi k) (hF : AF w) (hE : EF w) (u y : UInt8) (hq : p = [u, y]) (hu : u ≠ 114)
    (hR : ∀ a' w', Rt a' k 1 → Below w.heap.size w w' → Q .ret a' w') :
    ((cGo [1, 1, 1, 1, 1, 1, 1, 0, 1, 2, 3, 1, 1, 0, 2, 1, 1, 1, 1, 1, 1, 1, 1, 1, 1, 0, 1, 5, 1, 1, 1, 1, 1, 0, 1, 2, 3] bBody)).wp Tryz.prog Q a w := by
  obtain ⟨⟨⟨⟨⟨sz, df, s5, s6, s7, s8, s52, s53, s54⟩, s9, s10, s11⟩, s14, s17, s20⟩, s23⟩, s26⟩ := hS
  have h0 := bs_get has j 100 hc
  have hj1 : (j : Int) < L := by omega
  have hj0 : (0 : Int) ≤ j := by omega
  have hj2 : (j : Int) < has.size := by omega
  have hj3 : j < has.size := by omega
  have HB := hid hB
  have HO := hid hO
  have HWh := hid (whole_at p hpl w hF hE)
  have HF := hid hF
  have HIx : Hid (∀ w, AF w → Calls Tryz.prog 16 #[.string ⟨#[114, 48, 114, 49, 114, 50, 114, 51, 114, 52, 114, 53, 114, 54, 114, 55]⟩, .string (mk p)] w fun e w' => e = .returned (.int .i64 (Lib.index S.regs p)) ∧ w = w') := fun w h => index_any ⟨#[114, 48, 114, 49, 114, 50, 114, 51, 114, 52, 114, 53, 114, 54, 114, 55]⟩ (mk p) (by decide) w h
  have hsz : (mk p).size = 2 := by rw [mk_size, hq]; rfl
  have hg := bs_get (mk p) 0 u (by rw [bs_mk, hq]; rfl)
  have hu1 : ((u.toNat : Int) == 114) = false := by
    rw [beq_eq_false_iff_ne]
    intro e
    exact hu (UInt8.toNat_inj.1 (by simp; omega))
  have hu2 : ((u.toNat : Int) != 114) = true := by rw [bne, hu1]; rfl
  clear hq hu
  clear hB hF hE hO hc
  obtain ⟨f, hf, rfl⟩ := act_open a sz df
  rw [hf] at s5 s6 s7 s8 s52 s53 s54 s9 s10 s11 s14 s17 s20 s23 s26 s228 s229 s230
  clear hf sz df
  rw [s5, s6, s7, s8, s52, s53, s54, s9, s10, s11, s14, s17, s20, s23, s26, s228, s229, s230]
  conv => arg 2; whnf
  go_wp2_with (first
    | (go_at_call 17; refine HWh.out.mono ?_; rintro e w2 ⟨nv, rfl, hnv, hb2⟩; have O2 := hid (HO.out.kept hb2); obtain ⟨_, _, oz2, p0, p1, p2, p3, p4, of2⟩ := O2.out)
    | (go_at_call 16; refine (HIx.out _ (HF.out.kept hb2)).mono ?_; rintro e w3 ⟨rfl, rfl⟩)
    | (go_at_call 13; refine ((HB.out.kept hb2).fail _).mono ?_; rintro e w4 ⟨rfl, hb4⟩))
  exact hR _ _ ⟨rfl, rfl, rfl, rfl⟩ (stp hb2 hb4)
set_option maxRecDepth 100000 in
set_option maxHeartbeats 1600000 in
theorem part_d_no (Q : Exit → Act → World → Prop) (a : Act) (w w1 : World) (v5 v6 : Value) (mp gl n k bi : Nat) (t op nm : S.By) (bo gp L cap j : Nat) (has : ByteArray) (x d s nn v : Int) (p : S.By) (hS : Sh a v5 v6 mp gl n k bi t op nm (.slice (some ⟨gp, 0, none⟩) L cap) bo has) (s228 : sl a 228 = (.slice (some ⟨gp, 0, none⟩) L cap)) (s229 : sl a 229 = .int .i64 L) (s230 : sl a 230 = .int .i64 j) (hO : Ob w1 bo x d s nn v w) (hj : j < L) (hL : L ≤ 10) (hh : has.size = L) (hc : (bs has)[j]? = some 100) (hp : w.cell? ⟨gp, j, none⟩ = some (.string (mk p))) (hgp : gp < w.heap.size) (hpl : p.length ≤ 10000) (hB : Bi w bi k) (hF : AF w) (hE : EF w) (y : UInt8) (hq : p = [114, y]) (hi : Lib.index S.regs p < 0)
    (hR : ∀ a' w', Rt a' k 1 → Below w.heap.size w w' → Q .ret a' w') :
    ((cGo [1, 1, 1, 1, 1, 1, 1, 0, 1, 2, 3, 1, 1, 0, 2, 1, 1, 1, 1, 1, 1, 1, 1, 1, 1, 0, 1, 5, 1, 1, 1, 1, 1, 0, 1, 2, 3] bBody)).wp Tryz.prog Q a w := by
  obtain ⟨⟨⟨⟨⟨sz, df, s5, s6, s7, s8, s52, s53, s54⟩, s9, s10, s11⟩, s14, s17, s20⟩, s23⟩, s26⟩ := hS
  have h0 := bs_get has j 100 hc
  have hj1 : (j : Int) < L := by omega
  have hj0 : (0 : Int) ≤ j := by omega
  have hj2 : (j : Int) < has.size := by omega
  have hj3 : j < has.size := by omega
  have HB := hid hB
  have HO := hid hO
  have HWh := hid (whole_at p hpl w hF hE)
  have HF := hid hF
  have HIx : Hid (∀ w, AF w → Calls Tryz.prog 16 #[.string ⟨#[114, 48, 114, 49, 114, 50, 114, 51, 114, 52, 114, 53, 114, 54, 114, 55]⟩, .string (mk p)] w fun e w' => e = .returned (.int .i64 (Lib.index S.regs p)) ∧ w = w') := fun w h => index_any ⟨#[114, 48, 114, 49, 114, 50, 114, 51, 114, 52, 114, 53, 114, 54, 114, 55]⟩ (mk p) (by decide) w h
  have hsz : (mk p).size = 2 := by rw [mk_size, hq]; rfl
  have hg := bs_get (mk p) 0 114 (by rw [bs_mk, hq]; rfl)
  generalize Lib.index S.regs p = r at *
  clear hq
  clear hB hF hE hO hc
  obtain ⟨f, hf, rfl⟩ := act_open a sz df
  rw [hf] at s5 s6 s7 s8 s52 s53 s54 s9 s10 s11 s14 s17 s20 s23 s26 s228 s229 s230
  clear hf sz df
  rw [s5, s6, s7, s8, s52, s53, s54, s9, s10, s11, s14, s17, s20, s23, s26, s228, s229, s230]
  conv => arg 2; whnf
  go_wp2_with (first
    | (go_at_call 17; refine HWh.out.mono ?_; rintro e w2 ⟨nv, rfl, hnv, hb2⟩; have O2 := hid (HO.out.kept hb2); obtain ⟨_, _, oz2, p0, p1, p2, p3, p4, of2⟩ := O2.out)
    | (go_at_call 16; refine (HIx.out _ (HF.out.kept hb2)).mono ?_; rintro e w3 ⟨rfl, rfl⟩)
    | (go_at_call 13; refine ((HB.out.kept hb2).fail _).mono ?_; rintro e w4 ⟨rfl, hb4⟩))
  exact hR _ _ ⟨rfl, rfl, rfl, rfl⟩ (stp hb2 hb4)
set_option maxRecDepth 100000 in
set_option maxHeartbeats 1600000 in
theorem part_d_ok (Q : Exit → Act → World → Prop) (a : Act) (w w1 : World) (v5 v6 : Value) (mp gl n k bi : Nat) (t op nm : S.By) (bo gp L cap j : Nat) (has : ByteArray) (x d s nn v : Int) (p : S.By) (hS : Sh a v5 v6 mp gl n k bi t op nm (.slice (some ⟨gp, 0, none⟩) L cap) bo has) (s228 : sl a 228 = (.slice (some ⟨gp, 0, none⟩) L cap)) (s229 : sl a 229 = .int .i64 L) (s230 : sl a 230 = .int .i64 j) (hO : Ob w1 bo x d s nn v w) (hj : j < L) (hL : L ≤ 10) (hh : has.size = L) (hc : (bs has)[j]? = some 100) (hp : w.cell? ⟨gp, j, none⟩ = some (.string (mk p))) (hgp : gp < w.heap.size) (hpl : p.length ≤ 10000) (hB : Bi w bi k) (hF : AF w) (hE : EF w) (y : UInt8) (hq : p = [114, y]) (r : Int) (hr : Lib.index S.regs p = r) (hi : 0 ≤ r) (hi2 : r ≤ 100)
    (hN : ∀ a' w', Sh a' v5 v6 mp gl n k bi t op nm (.slice (some ⟨gp, 0, none⟩) L cap) bo has → sl a' 228 = (.slice (some ⟨gp, 0, none⟩) L cap) → sl a' 229 = .int .i64 L → sl a' 230 = .int .i64 (j + 1 : Nat) → Ob w1 bo x (r / 2) s nn v w' → Q .normal a' w') :
    ((cGo [1, 1, 1, 1, 1, 1, 1, 0, 1, 2, 3, 1, 1, 0, 2, 1, 1, 1, 1, 1, 1, 1, 1, 1, 1, 0, 1, 5, 1, 1, 1, 1, 1, 0, 1, 2, 3] bBody)).wp Tryz.prog Q a w := by
  obtain ⟨⟨⟨⟨⟨sz, df, s5, s6, s7, s8, s52, s53, s54⟩, s9, s10, s11⟩, s14, s17, s20⟩, s23⟩, s26⟩ := hS
  have h0 := bs_get has j 100 hc
  have hj1 : (j : Int) < L := by omega
  have hj0 : (0 : Int) ≤ j := by omega
  have hj2 : (j : Int) < has.size := by omega
  have hj3 : j < has.size := by omega
  have HB := hid hB
  have HO := hid hO
  have HWh := hid (whole_at p hpl w hF hE)
  have HF := hid hF
  have HIx : Hid (∀ w, AF w → Calls Tryz.prog 16 #[.string ⟨#[114, 48, 114, 49, 114, 50, 114, 51, 114, 52, 114, 53, 114, 54, 114, 55]⟩, .string (mk p)] w fun e w' => e = .returned (.int .i64 (Lib.index S.regs p)) ∧ w = w') := fun w h => index_any ⟨#[114, 48, 114, 49, 114, 50, 114, 51, 114, 52, 114, 53, 114, 54, 114, 55]⟩ (mk p) (by decide) w h
  have hsz : (mk p).size = 2 := by rw [mk_size, hq]; rfl
  have hg := bs_get (mk p) 0 114 (by rw [bs_mk, hq]; rfl)
  rw [hr] at HIx
  have hi3 : ¬ r < 0 := by omega
  have ht : Int.tdiv r 2 = r / 2 := Int.tdiv_eq_ediv_of_nonneg hi
  clear hq hr
  clear hB hF hE hO hc
  obtain ⟨f, hf, rfl⟩ := act_open a sz df
  rw [hf] at s5 s6 s7 s8 s52 s53 s54 s9 s10 s11 s14 s17 s20 s23 s26 s228 s229 s230
  clear hf sz df
  rw [s5, s6, s7, s8, s52, s53, s54, s9, s10, s11, s14, s17, s20, s23, s26, s228, s229, s230]
  conv => arg 2; whnf
  go_wp2_with (first
    | (go_at_call 17; refine HWh.out.mono ?_; rintro e w2 ⟨nv, rfl, hnv, hb2⟩; have O2 := hid (HO.out.kept hb2); obtain ⟨_, _, oz2, p0, p1, p2, p3, p4, of2⟩ := O2.out)
    | (go_at_call 16; refine (HIx.out _ (HF.out.kept hb2)).mono ?_; rintro e w3 ⟨rfl, rfl⟩)
    | (go_at_call 13; refine ((HB.out.kept hb2).fail _).mono ?_; rintro e w4 ⟨rfl, hb4⟩))
  exact hN _ _ ⟨⟨⟨⟨⟨rfl, rfl, rfl, rfl, rfl, rfl, rfl, rfl, rfl⟩, rfl, rfl, rfl⟩, rfl, rfl, rfl⟩, rfl⟩, rfl⟩ rfl rfl (by first | rfl | simp) (O2.out.put1 _)
set_option maxRecDepth 100000 in
set_option maxHeartbeats 1600000 in
theorem part_s_len (Q : Exit → Act → World → Prop) (a : Act) (w w1 : World) (v5 v6 : Value) (mp gl n k bi : Nat) (t op nm : S.By) (bo gp L cap j : Nat) (has : ByteArray) (x d s nn v : Int) (p : S.By) (hS : Sh a v5 v6 mp gl n k bi t op nm (.slice (some ⟨gp, 0, none⟩) L cap) bo has) (s228 : sl a 228 = (.slice (some ⟨gp, 0, none⟩) L cap)) (s229 : sl a 229 = .int .i64 L) (s230 : sl a 230 = .int .i64 j) (hO : Ob w1 bo x d s nn v w) (hj : j < L) (hL : L ≤ 10) (hh : has.size = L) (hc : (bs has)[j]? = some 115) (hp : w.cell? ⟨gp, j, none⟩ = some (.string (mk p))) (hgp : gp < w.heap.size) (hpl : p.length ≤ 10000) (hB : Bi w bi k) (hF : AF w) (hE : EF w) (hq : p.length ≠ 2)
    (hR : ∀ a' w', Rt a' k 1 → Below w.heap.size w w' → Q .ret a' w') :
    ((cGo [1, 1, 1, 1, 1, 1, 1, 0, 1, 2, 3, 1, 1, 0, 2, 1, 1, 1, 1, 1, 1, 1, 1, 1, 1, 0, 1, 5, 1, 1, 1, 1, 1, 0, 1, 2, 3] bBody)).wp Tryz.prog Q a w := by
  obtain ⟨⟨⟨⟨⟨sz, df, s5, s6, s7, s8, s52, s53, s54⟩, s9, s10, s11⟩, s14, s17, s20⟩, s23⟩, s26⟩ := hS
  have h0 := bs_get has j 115 hc
  have hj1 : (j : Int) < L := by omega
  have hj0 : (0 : Int) ≤ j := by omega
  have hj2 : (j : Int) < has.size := by omega
  have hj3 : j < has.size := by omega
  have HB := hid hB
  have HO := hid hO
  have HWh := hid (whole_at p hpl w hF hE)
  have HF := hid hF
  have HIx : Hid (∀ w, AF w → Calls Tryz.prog 16 #[.string ⟨#[114, 48, 114, 49, 114, 50, 114, 51, 114, 52, 114, 53, 114, 54, 114, 55]⟩, .string (mk p)] w fun e w' => e = .returned (.int .i64 (Lib.index S.regs p)) ∧ w = w') := fun w h => index_any ⟨#[114, 48, 114, 49, 114, 50, 114, 51, 114, 52, 114, 53, 114, 54, 114, 55]⟩ (mk p) (by decide) w h
  have hsz : ((mk p).size : Int) = p.length := by rw [mk_size]
  have hl1 : ((p.length : Int) == 2) = false := by simp; omega
  have hl2 : ((p.length : Int) != 2) = true := by simp; omega
  clear hq
  clear hB hF hE hO hc
  obtain ⟨f, hf, rfl⟩ := act_open a sz df
  rw [hf] at s5 s6 s7 s8 s52 s53 s54 s9 s10 s11 s14 s17 s20 s23 s26 s228 s229 s230
  clear hf sz df
  rw [s5, s6, s7, s8, s52, s53, s54, s9, s10, s11, s14, s17, s20, s23, s26, s228, s229, s230]
  conv => arg 2; whnf
  go_wp2_with (first
    | (go_at_call 17; refine HWh.out.mono ?_; rintro e w2 ⟨nv, rfl, hnv, hb2⟩; have O2 := hid (HO.out.kept hb2); obtain ⟨_, _, oz2, p0, p1, p2, p3, p4, of2⟩ := O2.out)
    | (go_at_call 16; refine (HIx.out _ (HF.out.kept hb2)).mono ?_; rintro e w3 ⟨rfl, rfl⟩)
    | (go_at_call 13; refine ((HB.out.kept hb2).fail _).mono ?_; rintro e w4 ⟨rfl, hb4⟩))
  exact hR _ _ ⟨rfl, rfl, rfl, rfl⟩ (stp hb2 hb4)
set_option maxRecDepth 100000 in
set_option maxHeartbeats 1600000 in
theorem part_s_sign (Q : Exit → Act → World → Prop) (a : Act) (w w1 : World) (v5 v6 : Value) (mp gl n k bi : Nat) (t op nm : S.By) (bo gp L cap j : Nat) (has : ByteArray) (x d s nn v : Int) (p : S.By) (hS : Sh a v5 v6 mp gl n k bi t op nm (.slice (some ⟨gp, 0, none⟩) L cap) bo has) (s228 : sl a 228 = (.slice (some ⟨gp, 0, none⟩) L cap)) (s229 : sl a 229 = .int .i64 L) (s230 : sl a 230 = .int .i64 j) (hO : Ob w1 bo x d s nn v w) (hj : j < L) (hL : L ≤ 10) (hh : has.size = L) (hc : (bs has)[j]? = some 115) (hp : w.cell? ⟨gp, j, none⟩ = some (.string (mk p))) (hgp : gp < w.heap.size) (hpl : p.length ≤ 10000) (hB : Bi w bi k) (hF : AF w) (hE : EF w) (u y : UInt8) (hq : p = [u, y]) (hu : u ≠ 114)
    (hR : ∀ a' w', Rt a' k 1 → Below w.heap.size w w' → Q .ret a' w') :
    ((cGo [1, 1, 1, 1, 1, 1, 1, 0, 1, 2, 3, 1, 1, 0, 2, 1, 1, 1, 1, 1, 1, 1, 1, 1, 1, 0, 1, 5, 1, 1, 1, 1, 1, 0, 1, 2, 3] bBody)).wp Tryz.prog Q a w := by
  obtain ⟨⟨⟨⟨⟨sz, df, s5, s6, s7, s8, s52, s53, s54⟩, s9, s10, s11⟩, s14, s17, s20⟩, s23⟩, s26⟩ := hS
  have h0 := bs_get has j 115 hc
  have hj1 : (j : Int) < L := by omega
  have hj0 : (0 : Int) ≤ j := by omega
  have hj2 : (j : Int) < has.size := by omega
  have hj3 : j < has.size := by omega
  have HB := hid hB
  have HO := hid hO
  have HWh := hid (whole_at p hpl w hF hE)
  have HF := hid hF
  have HIx : Hid (∀ w, AF w → Calls Tryz.prog 16 #[.string ⟨#[114, 48, 114, 49, 114, 50, 114, 51, 114, 52, 114, 53, 114, 54, 114, 55]⟩, .string (mk p)] w fun e w' => e = .returned (.int .i64 (Lib.index S.regs p)) ∧ w = w') := fun w h => index_any ⟨#[114, 48, 114, 49, 114, 50, 114, 51, 114, 52, 114, 53, 114, 54, 114, 55]⟩ (mk p) (by decide) w h
  have hsz : (mk p).size = 2 := by rw [mk_size, hq]; rfl
  have hg := bs_get (mk p) 0 u (by rw [bs_mk, hq]; rfl)
  have hu1 : ((u.toNat : Int) == 114) = false := by
    rw [beq_eq_false_iff_ne]
    intro e
    exact hu (UInt8.toNat_inj.1 (by simp; omega))
  have hu2 : ((u.toNat : Int) != 114) = true := by rw [bne, hu1]; rfl
  clear hq hu
  clear hB hF hE hO hc
  obtain ⟨f, hf, rfl⟩ := act_open a sz df
  rw [hf] at s5 s6 s7 s8 s52 s53 s54 s9 s10 s11 s14 s17 s20 s23 s26 s228 s229 s230
  clear hf sz df
  rw [s5, s6, s7, s8, s52, s53, s54, s9, s10, s11, s14, s17, s20, s23, s26, s228, s229, s230]
  conv => arg 2; whnf
  go_wp2_with (first
    | (go_at_call 17; refine HWh.out.mono ?_; rintro e w2 ⟨nv, rfl, hnv, hb2⟩; have O2 := hid (HO.out.kept hb2); obtain ⟨_, _, oz2, p0, p1, p2, p3, p4, of2⟩ := O2.out)
    | (go_at_call 16; refine (HIx.out _ (HF.out.kept hb2)).mono ?_; rintro e w3 ⟨rfl, rfl⟩)
    | (go_at_call 13; refine ((HB.out.kept hb2).fail _).mono ?_; rintro e w4 ⟨rfl, hb4⟩))
  exact hR _ _ ⟨rfl, rfl, rfl, rfl⟩ (stp hb2 hb4)
set_option maxRecDepth 100000 in
set_option maxHeartbeats 1600000 in
theorem part_s_no (Q : Exit → Act → World → Prop) (a : Act) (w w1 : World) (v5 v6 : Value) (mp gl n k bi : Nat) (t op nm : S.By) (bo gp L cap j : Nat) (has : ByteArray) (x d s nn v : Int) (p : S.By) (hS : Sh a v5 v6 mp gl n k bi t op nm (.slice (some ⟨gp, 0, none⟩) L cap) bo has) (s228 : sl a 228 = (.slice (some ⟨gp, 0, none⟩) L cap)) (s229 : sl a 229 = .int .i64 L) (s230 : sl a 230 = .int .i64 j) (hO : Ob w1 bo x d s nn v w) (hj : j < L) (hL : L ≤ 10) (hh : has.size = L) (hc : (bs has)[j]? = some 115) (hp : w.cell? ⟨gp, j, none⟩ = some (.string (mk p))) (hgp : gp < w.heap.size) (hpl : p.length ≤ 10000) (hB : Bi w bi k) (hF : AF w) (hE : EF w) (y : UInt8) (hq : p = [114, y]) (hi : Lib.index S.regs p < 0)
    (hR : ∀ a' w', Rt a' k 1 → Below w.heap.size w w' → Q .ret a' w') :
    ((cGo [1, 1, 1, 1, 1, 1, 1, 0, 1, 2, 3, 1, 1, 0, 2, 1, 1, 1, 1, 1, 1, 1, 1, 1, 1, 0, 1, 5, 1, 1, 1, 1, 1, 0, 1, 2, 3] bBody)).wp Tryz.prog Q a w := by
  obtain ⟨⟨⟨⟨⟨sz, df, s5, s6, s7, s8, s52, s53, s54⟩, s9, s10, s11⟩, s14, s17, s20⟩, s23⟩, s26⟩ := hS
  have h0 := bs_get has j 115 hc
  have hj1 : (j : Int) < L := by omega
  have hj0 : (0 : Int) ≤ j := by omega
  have hj2 : (j : Int) < has.size := by omega
  have hj3 : j < has.size := by omega
  have HB := hid hB
  have HO := hid hO
  have HWh := hid (whole_at p hpl w hF hE)
  have HF := hid hF
  have HIx : Hid (∀ w, AF w → Calls Tryz.prog 16 #[.string ⟨#[114, 48, 114, 49, 114, 50, 114, 51, 114, 52, 114, 53, 114, 54, 114, 55]⟩, .string (mk p)] w fun e w' => e = .returned (.int .i64 (Lib.index S.regs p)) ∧ w = w') := fun w h => index_any ⟨#[114, 48, 114, 49, 114, 50, 114, 51, 114, 52, 114, 53, 114, 54, 114, 55]⟩ (mk p) (by decide) w h
  have hsz : (mk p).size = 2 := by rw [mk_size, hq]; rfl
  have hg := bs_get (mk p) 0 114 (by rw [bs_mk, hq]; rfl)
  generalize Lib.index S.regs p = r at *
  clear hq
  clear hB hF hE hO hc
  obtain ⟨f, hf, rfl⟩ := act_open a sz df
  rw [hf] at s5 s6 s7 s8 s52 s53 s54 s9 s10 s11 s14 s17 s20 s23 s26 s228 s229 s230
  clear hf sz df
  rw [s5, s6, s7, s8, s52, s53, s54, s9, s10, s11, s14, s17, s20, s23, s26, s228, s229, s230]
  conv => arg 2; whnf
  go_wp2_with (first
    | (go_at_call 17; refine HWh.out.mono ?_; rintro e w2 ⟨nv, rfl, hnv, hb2⟩; have O2 := hid (HO.out.kept hb2); obtain ⟨_, _, oz2, p0, p1, p2, p3, p4, of2⟩ := O2.out)
    | (go_at_call 16; refine (HIx.out _ (HF.out.kept hb2)).mono ?_; rintro e w3 ⟨rfl, rfl⟩)
    | (go_at_call 13; refine ((HB.out.kept hb2).fail _).mono ?_; rintro e w4 ⟨rfl, hb4⟩))
  exact hR _ _ ⟨rfl, rfl, rfl, rfl⟩ (stp hb2 hb4)
set_option maxRecDepth 100000 in
set_option maxHeartbeats 1600000 in
theorem part_s_ok (Q : Exit → Act → World → Prop) (a : Act) (w w1 : World) (v5 v6 : Value) (mp gl n k bi : Nat) (t op nm : S.By) (bo gp L cap j : Nat) (has : ByteArray) (x d s nn v : Int) (p : S.By) (hS : Sh a v5 v6 mp gl n k bi t op nm (.slice (some ⟨gp, 0, none⟩) L cap) bo has) (s228 : sl a 228 = (.slice (some ⟨gp, 0, none⟩) L cap)) (s229 : sl a 229 = .int .i64 L) (s230 : sl a 230 = .int .i64 j) (hO : Ob w1 bo x d s nn v w) (hj : j < L) (hL : L ≤ 10) (hh : has.size = L) (hc : (bs has)[j]? = some 115) (hp : w.cell? ⟨gp, j, none⟩ = some (.string (mk p))) (hgp : gp < w.heap.size) (hpl : p.length ≤ 10000) (hB : Bi w bi k) (hF : AF w) (hE : EF w) (y : UInt8) (hq : p = [114, y]) (r : Int) (hr : Lib.index S.regs p = r) (hi : 0 ≤ r) (hi2 : r ≤ 100)
    (hN : ∀ a' w', Sh a' v5 v6 mp gl n k bi t op nm (.slice (some ⟨gp, 0, none⟩) L cap) bo has → sl a' 228 = (.slice (some ⟨gp, 0, none⟩) L cap) → sl a' 229 = .int .i64 L → sl a' 230 = .int .i64 (j + 1 : Nat) → Ob w1 bo x d (r / 2) nn v w' → Q .normal a' w') :
    ((cGo [1, 1, 1, 1, 1, 1, 1, 0, 1, 2, 3, 1, 1, 0, 2, 1, 1, 1, 1, 1, 1, 1, 1, 1, 1, 0, 1, 5, 1, 1, 1, 1, 1, 0, 1, 2, 3] bBody)).wp Tryz.prog Q a w := by
  obtain ⟨⟨⟨⟨⟨sz, df, s5, s6, s7, s8, s52, s53, s54⟩, s9, s10, s11⟩, s14, s17, s20⟩, s23⟩, s26⟩ := hS
  have h0 := bs_get has j 115 hc
  have hj1 : (j : Int) < L := by omega
  have hj0 : (0 : Int) ≤ j := by omega
  have hj2 : (j : Int) < has.size := by omega
  have hj3 : j < has.size := by omega
  have HB := hid hB
  have HO := hid hO
  have HWh := hid (whole_at p hpl w hF hE)
  have HF := hid hF
  have HIx : Hid (∀ w, AF w → Calls Tryz.prog 16 #[.string ⟨#[114, 48, 114, 49, 114, 50, 114, 51, 114, 52, 114, 53, 114, 54, 114, 55]⟩, .string (mk p)] w fun e w' => e = .returned (.int .i64 (Lib.index S.regs p)) ∧ w = w') := fun w h => index_any ⟨#[114, 48, 114, 49, 114, 50, 114, 51, 114, 52, 114, 53, 114, 54, 114, 55]⟩ (mk p) (by decide) w h
  have hsz : (mk p).size = 2 := by rw [mk_size, hq]; rfl
  have hg := bs_get (mk p) 0 114 (by rw [bs_mk, hq]; rfl)
  rw [hr] at HIx
  have hi3 : ¬ r < 0 := by omega
  have ht : Int.tdiv r 2 = r / 2 := Int.tdiv_eq_ediv_of_nonneg hi
  clear hq hr
  clear hB hF hE hO hc
  obtain ⟨f, hf, rfl⟩ := act_open a sz df
  rw [hf] at s5 s6 s7 s8 s52 s53 s54 s9 s10 s11 s14 s17 s20 s23 s26 s228 s229 s230
  clear hf sz df
  rw [s5, s6, s7, s8, s52, s53, s54, s9, s10, s11, s14, s17, s20, s23, s26, s228, s229, s230]
  conv => arg 2; whnf
  go_wp2_with (first
    | (go_at_call 17; refine HWh.out.mono ?_; rintro e w2 ⟨nv, rfl, hnv, hb2⟩; have O2 := hid (HO.out.kept hb2); obtain ⟨_, _, oz2, p0, p1, p2, p3, p4, of2⟩ := O2.out)
    | (go_at_call 16; refine (HIx.out _ (HF.out.kept hb2)).mono ?_; rintro e w3 ⟨rfl, rfl⟩)
    | (go_at_call 13; refine ((HB.out.kept hb2).fail _).mono ?_; rintro e w4 ⟨rfl, hb4⟩))
  exact hN _ _ ⟨⟨⟨⟨⟨rfl, rfl, rfl, rfl, rfl, rfl, rfl, rfl, rfl⟩, rfl, rfl, rfl⟩, rfl, rfl, rfl⟩, rfl⟩, rfl⟩ rfl rfl (by first | rfl | simp) (O2.out.put2 _)
set_option maxRecDepth 100000 in
set_option maxHeartbeats 1600000 in
theorem part_n_no (Q : Exit → Act → World → Prop) (a : Act) (w w1 : World) (v5 v6 : Value) (mp gl n k bi : Nat) (t op nm : S.By) (bo gp L cap j : Nat) (has : ByteArray) (x d s nn v : Int) (p : S.By) (hS : Sh a v5 v6 mp gl n k bi t op nm (.slice (some ⟨gp, 0, none⟩) L cap) bo has) (s228 : sl a 228 = (.slice (some ⟨gp, 0, none⟩) L cap)) (s229 : sl a 229 = .int .i64 L) (s230 : sl a 230 = .int .i64 j) (hO : Ob w1 bo x d s nn v w) (hj : j < L) (hL : L ≤ 10) (hh : has.size = L) (hc : (bs has)[j]? = some 110) (hp : w.cell? ⟨gp, j, none⟩ = some (.string (mk p))) (hgp : gp < w.heap.size) (hpl : p.length ≤ 10000) (hB : Bi w bi k) (hF : AF w) (hE : EF w) (hm : S.num p = none)
    (hR : ∀ a' w', Rt a' k 1 → Below w.heap.size w w' → Q .ret a' w') :
    ((cGo [1, 1, 1, 1, 1, 1, 1, 0, 1, 2, 3, 1, 1, 0, 2, 1, 1, 1, 1, 1, 1, 1, 1, 1, 1, 0, 1, 5, 1, 1, 1, 1, 1, 0, 1, 2, 3] bBody)).wp Tryz.prog Q a w := by
  obtain ⟨⟨⟨⟨⟨sz, df, s5, s6, s7, s8, s52, s53, s54⟩, s9, s10, s11⟩, s14, s17, s20⟩, s23⟩, s26⟩ := hS
  have h0 := bs_get has j 110 hc
  have hj1 : (j : Int) < L := by omega
  have hj0 : (0 : Int) ≤ j := by omega
  have hj2 : (j : Int) < has.size := by omega
  have hj3 : j < has.size := by omega
  have HB := hid hB
  have HO := hid hO
  have HWh := hid (whole_at p hpl w hF hE)
  have HF := hid hF
  rw [hm] at HWh
  clear hm
  clear hB hF hE hO hc
  obtain ⟨f, hf, rfl⟩ := act_open a sz df
  rw [hf] at s5 s6 s7 s8 s52 s53 s54 s9 s10 s11 s14 s17 s20 s23 s26 s228 s229 s230
  clear hf sz df
  rw [s5, s6, s7, s8, s52, s53, s54, s9, s10, s11, s14, s17, s20, s23, s26, s228, s229, s230]
  conv => arg 2; whnf
  go_wp2_with (first
    | (go_at_call 17; refine HWh.out.mono ?_; rintro e w2 ⟨nv, rfl, hnv, hb2⟩; have O2 := hid (HO.out.kept hb2); obtain ⟨_, _, oz2, p0, p1, p2, p3, p4, of2⟩ := O2.out)
    | (go_at_call 13; refine ((HB.out.kept hb2).fail _).mono ?_; rintro e w4 ⟨rfl, hb4⟩))
  exact hR _ _ ⟨rfl, rfl, rfl, rfl⟩ (stp hb2 hb4)
set_option maxRecDepth 100000 in
set_option maxHeartbeats 1600000 in
theorem part_n_ok (Q : Exit → Act → World → Prop) (a : Act) (w w1 : World) (v5 v6 : Value) (mp gl n k bi : Nat) (t op nm : S.By) (bo gp L cap j : Nat) (has : ByteArray) (x d s nn v : Int) (p : S.By) (hS : Sh a v5 v6 mp gl n k bi t op nm (.slice (some ⟨gp, 0, none⟩) L cap) bo has) (s228 : sl a 228 = (.slice (some ⟨gp, 0, none⟩) L cap)) (s229 : sl a 229 = .int .i64 L) (s230 : sl a 230 = .int .i64 j) (hO : Ob w1 bo x d s nn v w) (hj : j < L) (hL : L ≤ 10) (hh : has.size = L) (hc : (bs has)[j]? = some 110) (hp : w.cell? ⟨gp, j, none⟩ = some (.string (mk p))) (hgp : gp < w.heap.size) (hpl : p.length ≤ 10000) (hB : Bi w bi k) (hF : AF w) (hE : EF w) (y : Int) (hm : S.num p = some y)
    (hN : ∀ a' w', Sh a' v5 v6 mp gl n k bi t op nm (.slice (some ⟨gp, 0, none⟩) L cap) bo has → sl a' 228 = (.slice (some ⟨gp, 0, none⟩) L cap) → sl a' 229 = .int .i64 L → sl a' 230 = .int .i64 (j + 1 : Nat) → Ob w1 bo x d s y v w' → Q .normal a' w') :
    ((cGo [1, 1, 1, 1, 1, 1, 1, 0, 1, 2, 3, 1, 1, 0, 2, 1, 1, 1, 1, 1, 1, 1, 1, 1, 1, 0, 1, 5, 1, 1, 1, 1, 1, 0, 1, 2, 3] bBody)).wp Tryz.prog Q a w := by
  obtain ⟨⟨⟨⟨⟨sz, df, s5, s6, s7, s8, s52, s53, s54⟩, s9, s10, s11⟩, s14, s17, s20⟩, s23⟩, s26⟩ := hS
  have h0 := bs_get has j 110 hc
  have hj1 : (j : Int) < L := by omega
  have hj0 : (0 : Int) ≤ j := by omega
  have hj2 : (j : Int) < has.size := by omega
  have hj3 : j < has.size := by omega
  have HB := hid hB
  have HO := hid hO
  have HWh := hid (whole_at p hpl w hF hE)
  have HF := hid hF
  rw [hm] at HWh
  clear hm
  clear hB hF hE hO hc
  obtain ⟨f, hf, rfl⟩ := act_open a sz df
  rw [hf] at s5 s6 s7 s8 s52 s53 s54 s9 s10 s11 s14 s17 s20 s23 s26 s228 s229 s230
  clear hf sz df
  rw [s5, s6, s7, s8, s52, s53, s54, s9, s10, s11, s14, s17, s20, s23, s26, s228, s229, s230]
  conv => arg 2; whnf
  go_wp2_with (first
    | (go_at_call 17; refine HWh.out.mono ?_; rintro e w2 ⟨nv, rfl, hnv, hb2⟩; have O2 := hid (HO.out.kept hb2); obtain ⟨_, _, oz2, p0, p1, p2, p3, p4, of2⟩ := O2.out; obtain rfl := hnv y rfl)
    | (go_at_call 13; refine ((HB.out.kept hb2).fail _).mono ?_; rintro e w4 ⟨rfl, hb4⟩))
  exact hN _ _ ⟨⟨⟨⟨⟨rfl, rfl, rfl, rfl, rfl, rfl, rfl, rfl, rfl⟩, rfl, rfl, rfl⟩, rfl, rfl, rfl⟩, rfl⟩, rfl⟩ rfl rfl (by first | rfl | simp) (O2.out.put3 _)
set_option maxRecDepth 100000 in
set_option maxHeartbeats 1600000 in
theorem part_w_name (Q : Exit → Act → World → Prop) (a : Act) (w w1 : World) (v5 v6 : Value) (mp gl n k bi : Nat) (t op nm : S.By) (bo gp L cap j : Nat) (has : ByteArray) (x d s nn v : Int) (p : S.By) (hS : Sh a v5 v6 mp gl n k bi t op nm (.slice (some ⟨gp, 0, none⟩) L cap) bo has) (s228 : sl a 228 = (.slice (some ⟨gp, 0, none⟩) L cap)) (s229 : sl a 229 = .int .i64 L) (s230 : sl a 230 = .int .i64 j) (hO : Ob w1 bo x d s nn v w) (hj : j < L) (hL : L ≤ 10) (hh : has.size = L) (hc : (bs has)[j]? = some 119) (hp : w.cell? ⟨gp, j, none⟩ = some (.string (mk p))) (hgp : gp < w.heap.size) (hpl : p.length ≤ 10000) (hB : Bi w bi k) (hF : AF w) (hE : EF w) (hn : S.nameOk p = true)
    (hN : ∀ a' w', Sh a' v5 v6 mp gl n k bi t op p (.slice (some ⟨gp, 0, none⟩) L cap) bo has → sl a' 228 = (.slice (some ⟨gp, 0, none⟩) L cap) → sl a' 229 = .int .i64 L → sl a' 230 = .int .i64 (j + 1 : Nat) → Ob w1 bo x d s nn v w' → Q .normal a' w') :
    ((cGo [1, 1, 1, 1, 1, 1, 1, 0, 1, 2, 3, 1, 1, 0, 2, 1, 1, 1, 1, 1, 1, 1, 1, 1, 1, 0, 1, 5, 1, 1, 1, 1, 1, 0, 1, 2, 3] bBody)).wp Tryz.prog Q a w := by
  obtain ⟨⟨⟨⟨⟨sz, df, s5, s6, s7, s8, s52, s53, s54⟩, s9, s10, s11⟩, s14, s17, s20⟩, s23⟩, s26⟩ := hS
  have h0 := bs_get has j 119 hc
  have hj1 : (j : Int) < L := by omega
  have hj0 : (0 : Int) ≤ j := by omega
  have hj2 : (j : Int) < has.size := by omega
  have hj3 : j < has.size := by omega
  have HB := hid hB
  have HO := hid hO
  have HWh := hid (whole_at p hpl w hF hE)
  have HF := hid hF
  have HNm : Hid (∀ w', AF w' → Calls Tryz.prog 8 #[.string (mk p)] w' fun e w' => e = .returned (.bool (S.nameOk p)) ∧ Below _ _ w') := fun w' h => isName_any p w' h
  rw [hn] at HNm
  clear hn
  clear hB hF hE hO hc
  obtain ⟨f, hf, rfl⟩ := act_open a sz df
  rw [hf] at s5 s6 s7 s8 s52 s53 s54 s9 s10 s11 s14 s17 s20 s23 s26 s228 s229 s230
  clear hf sz df
  rw [s5, s6, s7, s8, s52, s53, s54, s9, s10, s11, s14, s17, s20, s23, s26, s228, s229, s230]
  conv => arg 2; whnf
  go_wp2_with (first
    | (go_at_call 17; refine HWh.out.mono ?_; rintro e w2 ⟨nv, rfl, hnv, hb2⟩; have O2 := hid (HO.out.kept hb2); obtain ⟨_, _, oz2, p0, p1, p2, p3, p4, of2⟩ := O2.out)
    | (go_at_call 8; refine (HNm.out _ (HF.out.kept hb2)).mono ?_; rintro e w3 ⟨rfl, hb3⟩; have O3 := hid (O2.out.kept hb3); obtain ⟨_, _, oz3, q0, q1, q2, q3, q4, of3⟩ := O3.out)
    | (go_at_call 13; refine (((HB.out.kept hb2).kept hb3).fail _).mono ?_; rintro e w4 ⟨rfl, hb4⟩))
  exact hN _ _ ⟨⟨⟨⟨⟨rfl, rfl, rfl, rfl, rfl, rfl, rfl, rfl, rfl⟩, rfl, rfl, rfl⟩, rfl, rfl, rfl⟩, rfl⟩, rfl⟩ rfl rfl (by first | rfl | simp) O3.out
theorem Bi.far {W : World} {bi k bo i : Nat} {v : Value} (h : Bi W bi k) (hne : bo ≠ bi) : Bi (W.setCell ⟨bo, i, none⟩ v) bi k := ⟨by simpa using h.z, (World.cell?_setCell_far _ _ _ v hne).trans h.c⟩
set_option maxRecDepth 100000 in
set_option maxHeartbeats 1600000 in
theorem part_w_no (Q : Exit → Act → World → Prop) (a : Act) (w w1 : World) (v5 v6 : Value) (mp gl n k bi : Nat) (t op nm : S.By) (bo gp L cap j : Nat) (has : ByteArray) (x d s nn v : Int) (p : S.By) (hS : Sh a v5 v6 mp gl n k bi t op nm (.slice (some ⟨gp, 0, none⟩) L cap) bo has) (s228 : sl a 228 = (.slice (some ⟨gp, 0, none⟩) L cap)) (s229 : sl a 229 = .int .i64 L) (s230 : sl a 230 = .int .i64 j) (hO : Ob w1 bo x d s nn v w) (hj : j < L) (hL : L ≤ 10) (hh : has.size = L) (hc : (bs has)[j]? = some 119) (hp : w.cell? ⟨gp, j, none⟩ = some (.string (mk p))) (hgp : gp < w.heap.size) (hpl : p.length ≤ 10000) (hB : Bi w bi k) (hF : AF w) (hE : EF w) (hn : S.nameOk p = false) (hm : S.num p = none) (hbi : bi < w1.heap.size)
    (hR : ∀ a' w', Rt a' k 1 → Below w1.heap.size w1 w' → Q .ret a' w') :
    ((cGo [1, 1, 1, 1, 1, 1, 1, 0, 1, 2, 3, 1, 1, 0, 2, 1, 1, 1, 1, 1, 1, 1, 1, 1, 1, 0, 1, 5, 1, 1, 1, 1, 1, 0, 1, 2, 3] bBody)).wp Tryz.prog Q a w := by
  obtain ⟨⟨⟨⟨⟨sz, df, s5, s6, s7, s8, s52, s53, s54⟩, s9, s10, s11⟩, s14, s17, s20⟩, s23⟩, s26⟩ := hS
  have h0 := bs_get has j 119 hc
  have hj1 : (j : Int) < L := by omega
  have hj0 : (0 : Int) ≤ j := by omega
  have hj2 : (j : Int) < has.size := by omega
  have hj3 : j < has.size := by omega
  have HB := hid hB
  have HO := hid hO
  have HWh := hid (whole_at p hpl w hF hE)
  have HF := hid hF
  have HNm : Hid (∀ w', AF w' → Calls Tryz.prog 8 #[.string (mk p)] w' fun e w' => e = .returned (.bool (S.nameOk p)) ∧ Below _ _ w') := fun w' h => isName_any p w' h
  rw [hn] at HNm
  rw [hm] at HWh
  have hnb : bo ≠ bi := by have := hO.hb; omega
  clear hn hm
  clear hB hF hE hO hc
  obtain ⟨f, hf, rfl⟩ := act_open a sz df
  rw [hf] at s5 s6 s7 s8 s52 s53 s54 s9 s10 s11 s14 s17 s20 s23 s26 s228 s229 s230
  clear hf sz df
  rw [s5, s6, s7, s8, s52, s53, s54, s9, s10, s11, s14, s17, s20, s23, s26, s228, s229, s230]
  conv => arg 2; whnf
  go_wp2_with (first
    | (go_at_call 17; refine HWh.out.mono ?_; rintro e w2 ⟨nv, rfl, hnv, hb2⟩; have O2 := hid (HO.out.kept hb2); obtain ⟨_, _, oz2, p0, p1, p2, p3, p4, of2⟩ := O2.out)
    | (go_at_call 8; refine (HNm.out _ (HF.out.kept hb2)).mono ?_; rintro e w3 ⟨rfl, hb3⟩; have O3 := hid (O2.out.kept hb3); obtain ⟨_, _, oz3, q0, q1, q2, q3, q4, of3⟩ := O3.out)
    | (go_at_call 13; refine ((((HB.out.kept hb2).kept hb3).far hnb).fail _).mono ?_; rintro e w4 ⟨rfl, hb4⟩))
  exact hR _ _ ⟨rfl, rfl, rfl, rfl⟩ ((O3.out.put4 nv).kept hb4).low
set_option maxRecDepth 100000 in
set_option maxHeartbeats 1600000 in
theorem part_w_num (Q : Exit → Act → World → Prop) (a : Act) (w w1 : World) (v5 v6 : Value) (mp gl n k bi : Nat) (t op nm : S.By) (bo gp L cap j : Nat) (has : ByteArray) (x d s nn v : Int) (p : S.By) (hS : Sh a v5 v6 mp gl n k bi t op nm (.slice (some ⟨gp, 0, none⟩) L cap) bo has) (s228 : sl a 228 = (.slice (some ⟨gp, 0, none⟩) L cap)) (s229 : sl a 229 = .int .i64 L) (s230 : sl a 230 = .int .i64 j) (hO : Ob w1 bo x d s nn v w) (hj : j < L) (hL : L ≤ 10) (hh : has.size = L) (hc : (bs has)[j]? = some 119) (hp : w.cell? ⟨gp, j, none⟩ = some (.string (mk p))) (hgp : gp < w.heap.size) (hpl : p.length ≤ 10000) (hB : Bi w bi k) (hF : AF w) (hE : EF w) (hn : S.nameOk p = false) (y : Int) (hm : S.num p = some y)
    (hN : ∀ a' w', Sh a' v5 v6 mp gl n k bi t op nm (.slice (some ⟨gp, 0, none⟩) L cap) bo has → sl a' 228 = (.slice (some ⟨gp, 0, none⟩) L cap) → sl a' 229 = .int .i64 L → sl a' 230 = .int .i64 (j + 1 : Nat) → Ob w1 bo x d s nn y w' → Q .normal a' w') :
    ((cGo [1, 1, 1, 1, 1, 1, 1, 0, 1, 2, 3, 1, 1, 0, 2, 1, 1, 1, 1, 1, 1, 1, 1, 1, 1, 0, 1, 5, 1, 1, 1, 1, 1, 0, 1, 2, 3] bBody)).wp Tryz.prog Q a w := by
  obtain ⟨⟨⟨⟨⟨sz, df, s5, s6, s7, s8, s52, s53, s54⟩, s9, s10, s11⟩, s14, s17, s20⟩, s23⟩, s26⟩ := hS
  have h0 := bs_get has j 119 hc
  have hj1 : (j : Int) < L := by omega
  have hj0 : (0 : Int) ≤ j := by omega
  have hj2 : (j : Int) < has.size := by omega
  have hj3 : j < has.size := by omega
  have HB := hid hB
  have HO := hid hO
  have HWh := hid (whole_at p hpl w hF hE)
  have HF := hid hF
  have HNm : Hid (∀ w', AF w' → Calls Tryz.prog 8 #[.string (mk p)] w' fun e w' => e = .returned (.bool (S.nameOk p)) ∧ Below _ _ w') := fun w' h => isName_any p w' h
  rw [hn] at HNm
  rw [hm] at HWh
  clear hn hm
  clear hB hF hE hO hc
  obtain ⟨f, hf, rfl⟩ := act_open a sz df
  rw [hf] at s5 s6 s7 s8 s52 s53 s54 s9 s10 s11 s14 s17 s20 s23 s26 s228 s229 s230
  clear hf sz df
  rw [s5, s6, s7, s8, s52, s53, s54, s9, s10, s11, s14, s17, s20, s23, s26, s228, s229, s230]
  conv => arg 2; whnf
  go_wp2_with (first
    | (go_at_call 17; refine HWh.out.mono ?_; rintro e w2 ⟨nv, rfl, hnv, hb2⟩; have O2 := hid (HO.out.kept hb2); obtain ⟨_, _, oz2, p0, p1, p2, p3, p4, of2⟩ := O2.out; obtain rfl := hnv y rfl)
    | (go_at_call 8; refine (HNm.out _ (HF.out.kept hb2)).mono ?_; rintro e w3 ⟨rfl, hb3⟩; have O3 := hid (O2.out.kept hb3); obtain ⟨_, _, oz3, q0, q1, q2, q3, q4, of3⟩ := O3.out)
    | (go_at_call 13; refine (((HB.out.kept hb2).kept hb3).fail _).mono ?_; rintro e w4 ⟨rfl, hb4⟩))
  exact hN _ _ ⟨⟨⟨⟨⟨rfl, rfl, rfl, rfl, rfl, rfl, rfl, rfl, rfl⟩, rfl, rfl, rfl⟩, rfl, rfl, rfl⟩, rfl⟩, rfl⟩ rfl rfl (by first | rfl | simp) (O3.out.put4 _)
set_option maxRecDepth 100000 in
set_option maxHeartbeats 1600000 in
theorem secF_5a (Q : Exit → Act → World → Prop) (a : Act) (w : World) (v5 v6 : Value) (mp gl n k bi : Nat) (t op nm : S.By) (bo : Nat) (has : ByteArray) (ra : Option Addr) (L rc : Nat) (hS : Sh a v5 v6 mp gl n k bi t op nm (.slice ra L rc) bo has)
    (hN : ∀ a', Sh a' v5 v6 mp gl n k bi t op nm (.slice ra L rc) bo has → sl a' 228 = (.slice ra L rc) → sl a' 229 = .int .i64 L → sl a' 230 = .int .i64 (0 : Nat) → Q .normal a' w) :
    ((cGo [1, 1, 1, 1, 1, 1, 1, 0, 1, 2, 3, 1, 1, 0, 2, 1, 1, 1, 1, 1, 1, 1, 1, 1, 1, 0, 1, 5, 1, 1, 1, 1, 1, 0, 0] bBody)).wp Tryz.prog Q a w := by
  obtain ⟨⟨⟨⟨⟨sz, df, s5, s6, s7, s8, s52, s53, s54⟩, s9, s10, s11⟩, s14, s17, s20⟩, s23⟩, s26⟩ := hS
  obtain ⟨f, hf, rfl⟩ := act_open a sz df
  rw [hf] at s5 s6 s7 s8 s52 s53 s54 s9 s10 s11 s14 s17 s20 s23 s26
  clear hf sz df
  rw [s5, s6, s7, s8, s52, s53, s54, s9, s10, s11, s14, s17, s20, s23, s26]
  conv => arg 2; whnf
  go_wp2
  first | exact hN _ ⟨⟨⟨⟨⟨rfl, rfl, rfl, rfl, rfl, rfl, rfl, rfl, rfl⟩, rfl, rfl, rfl⟩, rfl, rfl, rfl⟩, rfl⟩, rfl⟩ rfl rfl rfl | exact ⟨⟨⟨⟨⟨rfl, rfl, rfl, rfl, rfl, rfl, rfl, rfl, rfl⟩, rfl, rfl, rfl⟩, rfl, rfl, rfl⟩, rfl⟩, rfl⟩ | (refine hN _ ⟨⟨⟨⟨⟨rfl, rfl, rfl, rfl, rfl, rfl, rfl, rfl, rfl⟩, rfl, rfl, rfl⟩, rfl, rfl, rfl⟩, rfl⟩, rfl⟩ ?_ ?_ ?_ <;> rfl)
set_option maxRecDepth 100000 in
set_option maxHeartbeats 1600000 in
theorem secF_5x (Q : Exit → Act → World → Prop) (a : Act) (w : World) (v5 v6 : Value) (mp gl n k bi : Nat) (t op nm : S.By) (bo : Nat) (has : ByteArray) (ra : Option Addr) (L rc : Nat) (hS : Sh a v5 v6 mp gl n k bi t op nm (.slice ra L rc) bo has) (s228 : sl a 228 = (.slice ra L rc)) (s229 : sl a 229 = .int .i64 L) (s230 : sl a 230 = .int .i64 L)
    (hN : ∀ a', Sh a' v5 v6 mp gl n k bi t op nm (.slice ra L rc) bo has → Q (.exit 6) a' w) :
    ((cGo [1, 1, 1, 1, 1, 1, 1, 0, 1, 2, 3, 1, 1, 0, 2, 1, 1, 1, 1, 1, 1, 1, 1, 1, 1, 0, 1, 5, 1, 1, 1, 1, 1, 0, 1, 2, 3] bBody)).wp Tryz.prog Q a w := by
  obtain ⟨⟨⟨⟨⟨sz, df, s5, s6, s7, s8, s52, s53, s54⟩, s9, s10, s11⟩, s14, s17, s20⟩, s23⟩, s26⟩ := hS
  obtain ⟨f, hf, rfl⟩ := act_open a sz df
  rw [hf] at s5 s6 s7 s8 s52 s53 s54 s9 s10 s11 s14 s17 s20 s23 s26 s228 s229 s230
  clear hf sz df
  rw [s5, s6, s7, s8, s52, s53, s54, s9, s10, s11, s14, s17, s20, s23, s26, s228, s229, s230]
  conv => arg 2; whnf
  go_wp2
  exact ⟨⟨⟨⟨⟨rfl, rfl, rfl, rfl, rfl, rfl, rfl, rfl, rfl⟩, rfl, rfl, rfl⟩, rfl, rfl, rfl⟩, rfl⟩, rfl⟩
set_option maxRecDepth 100000 in
set_option maxHeartbeats 1600000 in
theorem secF_6bad (Q : Exit → Act → World → Prop) (a : Act) (w w1 : World) (v5 v6 : Value) (mp gl n k bi : Nat) (t op nm : S.By) (bo : Nat) (has : ByteArray) (ra : Option Addr) (L rc : Nat) (x d s nn v : Int) (hS : Sh a v5 v6 mp gl n k bi t op nm (.slice ra L rc) bo has) (hO : Ob w1 bo x d s nn v w) (hB : Bi w bi k) (hF : Facts w) (e0 : Int) (hck : O.ck x d s nn v = e0) (he : e0 ≠ 0)
    (hR : ∀ a' w', Rt a' k e0 → Below w.heap.size w w' → Q .ret a' w') :
    ((cGo [1, 1, 1, 1, 1, 1, 1, 0, 1, 2, 3, 1, 1, 0, 2, 1, 1, 1, 1, 1, 1, 1, 1, 1, 1, 0, 1, 5, 1, 1, 1, 1, 1, 1, 0] bBody)).wp Tryz.prog Q a w := by
  obtain ⟨⟨⟨⟨⟨sz, df, s5, s6, s7, s8, s52, s53, s54⟩, s9, s10, s11⟩, s14, s17, s20⟩, s23⟩, s26⟩ := hS
  have HC := hid (ckr_any x d s nn v w hF)
  rw [hck] at HC
  obtain ⟨_, _, oz, o0, o1, o2, o3, o4, of⟩ := hO
  have HB := hid hB
  have he1 : (e0 == 0) = false := by simpa using he
  have he2 : (e0 != 0) = true := by rw [bne, he1]; rfl
  clear hB hF hck he
  obtain ⟨f, hf, rfl⟩ := act_open a sz df
  rw [hf] at s5 s6 s7 s8 s52 s53 s54 s9 s10 s11 s14 s17 s20 s23 s26
  clear hf sz df
  rw [s5, s6, s7, s8, s52, s53, s54, s9, s10, s11, s14, s17, s20, s23, s26]
  conv => arg 2; whnf
  go_wp2_with (first
    | (go_at_call 19; refine HC.out.mono ?_; rintro e w2 ⟨rfl, hb2⟩)
    | (go_at_call 13; refine ((HB.out.kept hb2).fail _).mono ?_; rintro e w4 ⟨rfl, hb4⟩))
  exact hR _ _ ⟨rfl, rfl, rfl, rfl⟩ (stp hb2 hb4)
set_option maxRecDepth 100000 in
set_option maxHeartbeats 1600000 in
theorem secF_6ok (Q : Exit → Act → World → Prop) (a : Act) (w w1 : World) (v5 v6 : Value) (mp gl n k bi : Nat) (t op nm : S.By) (bo : Nat) (has : ByteArray) (ra : Option Addr) (L rc : Nat) (x d s nn v : Int) (hS : Sh a v5 v6 mp gl n k bi t op nm (.slice ra L rc) bo has) (hO : Ob w1 bo x d s nn v w) (hF : Facts w) (hck : O.ck x d s nn v = 0)
    (hN : ∀ a' w', Sh a' v5 v6 mp gl n k bi t op nm (.slice ra L rc) bo has → Below w.heap.size w w' → Q .normal a' w') :
    ((cGo [1, 1, 1, 1, 1, 1, 1, 0, 1, 2, 3, 1, 1, 0, 2, 1, 1, 1, 1, 1, 1, 1, 1, 1, 1, 0, 1, 5, 1, 1, 1, 1, 1, 1, 0] bBody)).wp Tryz.prog Q a w := by
  obtain ⟨⟨⟨⟨⟨sz, df, s5, s6, s7, s8, s52, s53, s54⟩, s9, s10, s11⟩, s14, s17, s20⟩, s23⟩, s26⟩ := hS
  have HC := hid (ckr_any x d s nn v w hF)
  rw [hck] at HC
  obtain ⟨_, _, oz, o0, o1, o2, o3, o4, of⟩ := hO
  clear hF hck
  obtain ⟨f, hf, rfl⟩ := act_open a sz df
  rw [hf] at s5 s6 s7 s8 s52 s53 s54 s9 s10 s11 s14 s17 s20 s23 s26
  clear hf sz df
  rw [s5, s6, s7, s8, s52, s53, s54, s9, s10, s11, s14, s17, s20, s23, s26]
  conv => arg 2; whnf
  go_wp2_with (go_at_call 19; refine HC.out.mono ?_; rintro e w2 ⟨rfl, hb2⟩)
  exact hN _ _ ⟨⟨⟨⟨⟨rfl, rfl, rfl, rfl, rfl, rfl, rfl, rfl, rfl⟩, rfl, rfl, rfl⟩, rfl, rfl, rfl⟩, rfl⟩, rfl⟩ hb2
set_option maxRecDepth 100000 in
set_option maxHeartbeats 1600000 in
theorem secF_7 (Q : Exit → Act → World → Prop) (a : Act) (w w1 : World) (v5 v6 : Value) (mp gl n k bi : Nat) (t op nm : S.By) (bo : Nat) (has : ByteArray) (ra : Option Addr) (L rc : Nat) (x d s nn v : Int) (hS : Sh a v5 v6 mp gl n k bi t op nm (.slice ra L rc) bo has) (hO : Ob w1 bo x d s nn v w) (hF : Facts w) (h1 : O.isOp x = true) (hok : O.okB x.toNat d s nn v = true)
    (hN : ∀ a' w' g c, Se a' v5 v6 mp gl n k bi t g c (O.words x d s nn v) nm → wordsAt w' g (O.words x d s nn v) → g < w'.heap.size → Below w.heap.size w w' → Q .normal a' w') :
    ((cGo [1, 1, 1, 1, 1, 1, 1, 0, 1, 2, 3, 1, 1, 0, 2, 1, 1, 1, 1, 1, 1, 1, 1, 1, 1, 0, 1, 5, 1, 1, 1, 1, 1, 1, 1] bBody)).wp Tryz.prog Q a w := by
  obtain ⟨⟨⟨⟨⟨sz, df, s5, s6, s7, s8, s52, s53, s54⟩, s9, s10, s11⟩, s14, s17, s20⟩, s23⟩, s26⟩ := hS
  have HC := hid (wordsOf_any x d s nn v h1 hok w hF)
  obtain ⟨_, _, oz, o0, o1, o2, o3, o4, of⟩ := hO
  clear hF h1 hok
  obtain ⟨f, hf, rfl⟩ := act_open a sz df
  rw [hf] at s5 s6 s7 s8 s52 s53 s54 s9 s10 s11 s14 s17 s20 s23 s26
  clear hf sz df
  rw [s5, s6, s7, s8, s52, s53, s54, s9, s10, s11, s14, s17, s20, s23, s26]
  conv => arg 2; whnf
  go_wp2_with (go_at_call 20; refine HC.out.mono ?_; rintro e w2 ⟨g, c, rfl, hcl, hw2, hg2, hb2⟩)
  exact hN _ _ g c ⟨⟨⟨rfl, rfl, rfl, rfl, rfl, rfl, rfl, rfl, rfl⟩, rfl, rfl, rfl⟩, rfl, rfl⟩ hw2 hg2 hb2
theorem row_cells {w : World} {B : Nat} {v : Value} {ps : List S.By} (h : w.ownsRow B 9 1 v ps.length (strC ps)) (h0 : 0 < ps.length) : ∃ g c, v = .slice (some ⟨g, 0, none⟩) ps.length c ∧ g < w.heap.size ∧ ∀ j p, ps[j]? = some p → w.cell? ⟨g, j, none⟩ = some (.string (mk p)) := by
  rcases h.2 with ⟨_, h1⟩ | ⟨g, cap, cur, rfl, _⟩
  · omega
  · have hc := fun j hj => h.cellAt j hj
    refine ⟨g, cap, rfl, ?_, fun j p hj => ?_⟩
    · have hc0 := hc 0 (by omega)
      unfold strC at hc0
      rw [List.getElem?_map, List.getElem?_eq_getElem h0] at hc0
      exact World.block_lt_of_cell? w _ hc0
    · have hjl : j < ps.length := (List.getElem?_eq_some_iff.1 hj).1
      rw [hc j (by omega)]
      unfold strC
      rw [List.getElem?_map, hj]; rfl
theorem regs_le (p : S.By) : Lib.index S.regs p ≤ 100 := by have h := Lib.index_le S.regs p; have e : (S.regs.length : Int) = 16 := rfl; omega
theorem drop_cons {α : Type} {l : List α} {j : Nat} {x : α} (h : l[j]? = some x) : l.drop j = x :: l.drop (j + 1) := by
  obtain ⟨h1, h2⟩ := List.getElem?_eq_some_iff.1 h
  rw [List.drop_eq_getElem_cons h1, h2]
theorem ck_ok (k : Nat) (d s n w : Int) (hk : k < 32) (h30 : k ≠ 30) (h : O.ck k d s n w = 0) : O.isOp k = true ∧ O.okB ((k : Int)).toNat d s n w = true := by
  have h1 : O.isOp k = true := (O.isOp_iff k).2 ⟨by omega, by omega, by omega⟩
  refine ⟨h1, ?_⟩
  unfold O.ck at h
  rw [h1] at h
  cases ho : O.okB ((k : Int)).toNat d s n w with
  | true => rfl
  | false => rw [ho] at h; revert h; simp
theorem reg_cases (p : S.By) : (p.length ≠ 2 ∧ S.reg p = none) ∨ (∃ u y, p = [u, y] ∧ u ≠ 114 ∧ S.reg p = none) ∨ (∃ y, p = [114, y] ∧ Lib.index S.regs p < 0 ∧ S.reg p = none) ∨ (∃ y, p = [114, y] ∧ 0 ≤ Lib.index S.regs p ∧ S.reg p = some (Lib.index S.regs p / 2)) := by
  have hr := S.reg_index p
  by_cases h2 : p.length = 2
  · match p, h2 with
    | [u, y], _ =>
      by_cases hu : u = 114
      · subst hu
        by_cases hi : 0 ≤ Lib.index S.regs [114, y]
        · exact Or.inr (Or.inr (Or.inr ⟨y, rfl, hi, by rw [hr, if_pos ⟨rfl, rfl, hi⟩]⟩))
        · exact Or.inr (Or.inr (Or.inl ⟨y, rfl, by omega, by rw [hr, if_neg (fun h => hi h.2.2)]⟩))
      · refine Or.inr (Or.inl ⟨u, y, rfl, hu, ?_⟩)
        rw [hr, if_neg (fun h => hu (Option.some.inj h.2.1))]
  · exact Or.inl ⟨h2, by rw [hr, if_neg (fun h => h2 h.1)]⟩
theorem parts_cases (p : Nat) (h : p < 4) : p = 0 ∨ p = 1 ∨ p = 2 ∨ p = 3 := by omega
theorem secF_5 (Q : Exit → Act → World → Prop) (a : Act) (w w1 : World) (v5 v6 v17 : Value) (mp gl n k bi : Nat) (t op : S.By) (bo kk B : Nat) (ps : List S.By) (hS : Sh a v5 v6 mp gl n k bi t op [] v17 bo (K.has kk)) (hO : Ob w1 bo kk 0 0 0 0 w) (hk : kk < 32) (hrow : w1.ownsRow B 9 1 v17 ps.length (strC ps)) (hlen : ps.length = (S.parts kk).length) (hpl : ∀ p ∈ ps, p.length ≤ 10000) (hB : Bi w1 bi k) (hF : AF w1) (hE : EF w1)
    (hN : ∀ a' w' (o : S.Ord) nm, Sh a' v5 v6 mp gl n k bi t op nm v17 bo (K.has kk) → Ob w1 bo kk o.d o.s o.n o.w w' → S.readParts (S.parts kk) ps S.Ord.zero [] = some (o, nm) → Q .normal a' w')
    (hR : ∀ a' w', Rt a' k 1 → Below w1.heap.size w1 w' → S.readParts (S.parts kk) ps S.Ord.zero [] = none → Q .ret a' w') :
    ((cGo [1, 1, 1, 1, 1, 1, 1, 0, 1, 2, 3, 1, 1, 0, 2, 1, 1, 1, 1, 1, 1, 1, 1, 1, 1, 0, 1, 5, 1, 1, 1, 1, 1, 0] bBody)).wp Tryz.prog Q a w := by
  obtain ⟨ra, rc, rfl⟩ := row_form hrow
  have hL10 : ps.length ≤ 10 := by
    have : ∀ k, k < 32 → (S.parts k).length ≤ 4 := by decide +kernel
    have := this kk hk
    omega
  have hhas : (K.has kk).size = ps.length := by
    rw [hlen, ← S.has_len kk hk]; rfl
  show (Code.seq (cGo [1, 1, 1, 1, 1, 1, 1, 0, 1, 2, 3, 1, 1, 0, 2, 1, 1, 1, 1, 1, 1, 1, 1, 1, 1, 0, 1, 5, 1, 1, 1, 1, 1, 0, 0] bBody) (Code.block 6 (Code.loop (cGo [1, 1, 1, 1, 1, 1, 1, 0, 1, 2, 3, 1, 1, 0, 2, 1, 1, 1, 1, 1, 1, 1, 1, 1, 1, 0, 1, 5, 1, 1, 1, 1, 1, 0, 1, 2, 3] bBody)))).wp Tryz.prog Q a w
  refine wp_seq (secF_5a _ a w v5 v6 mp gl n k bi t op [] bo (K.has kk) ra ps.length rc hS ?_)
  intro a2 hS2 h228 h229 h230
  refine wp_block (wp_loop (fun a w => ∃ (j : Nat) (o : S.Ord) (nm : S.By), j ≤ ps.length ∧ Sh a v5 v6 mp gl n k bi t op nm (.slice ra ps.length rc) bo (K.has kk) ∧ sl a 228 = .slice ra ps.length rc ∧ sl a 229 = .int .i64 ps.length ∧ sl a 230 = .int .i64 j ∧ Ob w1 bo kk o.d o.s o.n o.w w ∧ S.readParts (S.parts kk) ps S.Ord.zero [] = S.readParts ((S.parts kk).drop j) (ps.drop j) o nm ∧ (2 ∈ (S.parts kk).drop j → o.w = 0 ∧ nm = [])) (μF 230 ps.length) ⟨0, S.Ord.zero, [], by omega, hS2, h228, h229, h230, hO, rfl, fun _ => ⟨rfl, rfl⟩⟩ ?_)
  rintro a3 w3 ⟨j, o, nm3, hj, hS3, q228, q229, q230, hO3, hrp, hinv⟩
  rw [μF_at (M := ps.length) (w := w3) q230]
  by_cases hjl : j < ps.length
  · obtain ⟨gp, cap, hv, hgp, hcells⟩ := row_cells hrow (by omega)
    injection hv with hv1 hv2 hv3
    subst hv1 hv3
    have hgp3 : gp < w3.heap.size := Nat.lt_of_lt_of_le hgp hO3.low.size
    have hcell : ∀ j p, ps[j]? = some p → ∀ w3, Below w1.heap.size w1 w3 → w3.cell? ⟨gp, j, none⟩ = some (.string (mk p)) := fun j p hp w3 hb => (hb.cell (p := ⟨gp, j, none⟩) hgp).trans (hcells j p hp)
    obtain ⟨p, hpj⟩ : ∃ p, ps[j]? = some p := ⟨_, List.getElem?_eq_getElem hjl⟩
    obtain ⟨pk, hkj⟩ : ∃ pk, (S.parts kk)[j]? = some pk := ⟨_, List.getElem?_eq_getElem (by omega)⟩
    have hpk4 : pk < 4 := S.parts_lt kk pk (List.mem_of_getElem? hkj)
    have hcj : (bs (K.has kk))[j]? = some (S.sgn pk) := S.has_at kk hk j pk hkj
    rw [drop_cons hkj, drop_cons hpj] at hrp
    rw [drop_cons hkj] at hinv
    have hnd := S.parts_nodup kk
    have hinv' : 2 ∈ (S.parts kk).drop (j + 1) → o.w = 0 ∧ nm3 = [] := fun h => hinv (List.mem_cons_of_mem _ h)
    have hmeas : ∀ (a' : Act) (w' : World), sl a' 230 = .int .i64 (j + 1 : Nat) → μF 230 ps.length a' w' < ps.length - j := fun a' w' h => by rw [μF_at (M := ps.length) (w := w') h]; omega
    have hlow : ∀ w', Below w3.heap.size w3 w' → Below w1.heap.size w1 w' := fun w' h => stp hO3.low h
    have hbad : S.readPart pk p o nm3 = none → S.readParts (S.parts kk) ps S.Ord.zero [] = none := fun h => by rw [hrp]; unfold S.readParts; rw [h]; rfl
    have hgood : ∀ o' nm', S.readPart pk p o nm3 = some (o', nm') → S.readParts (S.parts kk) ps S.Ord.zero [] = S.readParts ((S.parts kk).drop (j + 1)) (ps.drop (j + 1)) o' nm' := fun o' nm' h => by
      rw [hrp]
      show (S.readPart pk p o nm3).bind _ = _
      rw [h]
      rfl
    rcases parts_cases pk hpk4 with rfl | rfl | rfl | rfl
    · rcases reg_cases p with ⟨h2, hr⟩ | ⟨u, y, hq, hu, hr⟩ | ⟨y, hq, hi, hr⟩ | ⟨y, hq, hi, hr⟩
      · exact part_d_len _ a3 w3 w1 v5 v6 mp gl n k bi t op nm3 bo gp ps.length rc j (K.has kk) _ _ _ _ _ p hS3 q228 q229 q230 hO3 hjl hL10 hhas hcj (hcell j p hpj w3 hO3.low) hgp3 (hpl p (List.mem_of_getElem? hpj)) (hB.kept hO3.low) (hF.kept hO3.low) (hE.kept hO3.low) h2 (fun a' w' h1 h2 => hR a' w' h1 (hlow w' h2) (hbad (by unfold S.readPart; rw [hr]; rfl)))
      · exact part_d_sign _ a3 w3 w1 v5 v6 mp gl n k bi t op nm3 bo gp ps.length rc j (K.has kk) _ _ _ _ _ p hS3 q228 q229 q230 hO3 hjl hL10 hhas hcj (hcell j p hpj w3 hO3.low) hgp3 (hpl p (List.mem_of_getElem? hpj)) (hB.kept hO3.low) (hF.kept hO3.low) (hE.kept hO3.low) u y hq hu (fun a' w' h1 h2 => hR a' w' h1 (hlow w' h2) (hbad (by unfold S.readPart; rw [hr]; rfl)))
      · exact part_d_no _ a3 w3 w1 v5 v6 mp gl n k bi t op nm3 bo gp ps.length rc j (K.has kk) _ _ _ _ _ p hS3 q228 q229 q230 hO3 hjl hL10 hhas hcj (hcell j p hpj w3 hO3.low) hgp3 (hpl p (List.mem_of_getElem? hpj)) (hB.kept hO3.low) (hF.kept hO3.low) (hE.kept hO3.low) y hq hi (fun a' w' h1 h2 => hR a' w' h1 (hlow w' h2) (hbad (by unfold S.readPart; rw [hr]; rfl)))
      · refine part_d_ok _ a3 w3 w1 v5 v6 mp gl n k bi t op nm3 bo gp ps.length rc j (K.has kk) _ _ _ _ _ p hS3 q228 q229 q230 hO3 hjl hL10 hhas hcj (hcell j p hpj w3 hO3.low) hgp3 (hpl p (List.mem_of_getElem? hpj)) (hB.kept hO3.low) (hF.kept hO3.low) (hE.kept hO3.low) y hq _ rfl hi (regs_le p) (fun a' w' h1 h2 h3 h4 h5 => ⟨⟨j + 1, o.set 0 (Lib.index S.regs p / 2), nm3, by omega, h1, h2, h3, h4, h5, hgood _ _ (by unfold S.readPart; rw [hr]; rfl), hinv'⟩, hmeas a' w' h4⟩)
    · rcases reg_cases p with ⟨h2, hr⟩ | ⟨u, y, hq, hu, hr⟩ | ⟨y, hq, hi, hr⟩ | ⟨y, hq, hi, hr⟩
      · exact part_s_len _ a3 w3 w1 v5 v6 mp gl n k bi t op nm3 bo gp ps.length rc j (K.has kk) _ _ _ _ _ p hS3 q228 q229 q230 hO3 hjl hL10 hhas hcj (hcell j p hpj w3 hO3.low) hgp3 (hpl p (List.mem_of_getElem? hpj)) (hB.kept hO3.low) (hF.kept hO3.low) (hE.kept hO3.low) h2 (fun a' w' h1 h2 => hR a' w' h1 (hlow w' h2) (hbad (by unfold S.readPart; rw [hr]; rfl)))
      · exact part_s_sign _ a3 w3 w1 v5 v6 mp gl n k bi t op nm3 bo gp ps.length rc j (K.has kk) _ _ _ _ _ p hS3 q228 q229 q230 hO3 hjl hL10 hhas hcj (hcell j p hpj w3 hO3.low) hgp3 (hpl p (List.mem_of_getElem? hpj)) (hB.kept hO3.low) (hF.kept hO3.low) (hE.kept hO3.low) u y hq hu (fun a' w' h1 h2 => hR a' w' h1 (hlow w' h2) (hbad (by unfold S.readPart; rw [hr]; rfl)))
      · exact part_s_no _ a3 w3 w1 v5 v6 mp gl n k bi t op nm3 bo gp ps.length rc j (K.has kk) _ _ _ _ _ p hS3 q228 q229 q230 hO3 hjl hL10 hhas hcj (hcell j p hpj w3 hO3.low) hgp3 (hpl p (List.mem_of_getElem? hpj)) (hB.kept hO3.low) (hF.kept hO3.low) (hE.kept hO3.low) y hq hi (fun a' w' h1 h2 => hR a' w' h1 (hlow w' h2) (hbad (by unfold S.readPart; rw [hr]; rfl)))
      · refine part_s_ok _ a3 w3 w1 v5 v6 mp gl n k bi t op nm3 bo gp ps.length rc j (K.has kk) _ _ _ _ _ p hS3 q228 q229 q230 hO3 hjl hL10 hhas hcj (hcell j p hpj w3 hO3.low) hgp3 (hpl p (List.mem_of_getElem? hpj)) (hB.kept hO3.low) (hF.kept hO3.low) (hE.kept hO3.low) y hq _ rfl hi (regs_le p) (fun a' w' h1 h2 h3 h4 h5 => ⟨⟨j + 1, o.set 1 (Lib.index S.regs p / 2), nm3, by omega, h1, h2, h3, h4, h5, hgood _ _ (by unfold S.readPart; rw [hr]; rfl), hinv'⟩, hmeas a' w' h4⟩)
    · obtain ⟨hw0, hnm0⟩ := hinv (List.mem_cons_self ..)
      have hno : 2 ∉ (S.parts kk).drop (j + 1) := fun h => by
        have := hnd.sublist (List.drop_sublist j (S.parts kk))
        rw [drop_cons hkj] at this
        exact (List.nodup_cons.1 this).1 h
      cases hn : S.nameOk p with
      | true =>
        have hrd : S.readPart 2 p o nm3 = some (o.set 2 0, p) := by unfold S.readPart S.wordOrName; rw [hn]; rfl
        refine part_w_name _ a3 w3 w1 v5 v6 mp gl n k bi t op nm3 bo gp ps.length rc j (K.has kk) _ _ _ _ _ p hS3 q228 q229 q230 hO3 hjl hL10 hhas hcj (hcell j p hpj w3 hO3.low) hgp3 (hpl p (List.mem_of_getElem? hpj)) (hB.kept hO3.low) (hF.kept hO3.low) (hE.kept hO3.low) hn (fun a' w' h1 h2 h3 h4 h5 => ⟨⟨j + 1, o.set 2 0, p, by omega, h1, h2, h3, h4, ?_, hgood _ _ hrd, fun h => absurd h hno⟩, hmeas a' w' h4⟩)
        rw [hw0] at h5; exact h5
      | false =>
        cases hm : S.num p with
        | none => exact part_w_no _ a3 w3 w1 v5 v6 mp gl n k bi t op nm3 bo gp ps.length rc j (K.has kk) _ _ _ _ _ p hS3 q228 q229 q230 hO3 hjl hL10 hhas hcj (hcell j p hpj w3 hO3.low) hgp3 (hpl p (List.mem_of_getElem? hpj)) (hB.kept hO3.low) (hF.kept hO3.low) (hE.kept hO3.low) hn hm hB.z (fun a' w' h1 h2 => hR a' w' h1 h2 (hbad (by unfold S.readPart S.wordOrName; rw [hn, hm]; rfl)))
        | some y =>
          have hrd : S.readPart 2 p o nm3 = some (o.set 2 y, nm3) := by unfold S.readPart S.wordOrName; rw [hn, hm, hnm0]; rfl
          exact part_w_num _ a3 w3 w1 v5 v6 mp gl n k bi t op nm3 bo gp ps.length rc j (K.has kk) _ _ _ _ _ p hS3 q228 q229 q230 hO3 hjl hL10 hhas hcj (hcell j p hpj w3 hO3.low) hgp3 (hpl p (List.mem_of_getElem? hpj)) (hB.kept hO3.low) (hF.kept hO3.low) (hE.kept hO3.low) hn y hm (fun a' w' h1 h2 h3 h4 h5 => ⟨⟨j + 1, o.set 2 y, nm3, by omega, h1, h2, h3, h4, h5, hgood _ _ hrd, fun h => absurd h hno⟩, hmeas a' w' h4⟩)
    · cases hm : S.num p with
      | none => exact part_n_no _ a3 w3 w1 v5 v6 mp gl n k bi t op nm3 bo gp ps.length rc j (K.has kk) _ _ _ _ _ p hS3 q228 q229 q230 hO3 hjl hL10 hhas hcj (hcell j p hpj w3 hO3.low) hgp3 (hpl p (List.mem_of_getElem? hpj)) (hB.kept hO3.low) (hF.kept hO3.low) (hE.kept hO3.low) hm (fun a' w' h1 h2 => hR a' w' h1 (hlow w' h2) (hbad (by unfold S.readPart; rw [hm]; rfl)))
      | some y => exact part_n_ok _ a3 w3 w1 v5 v6 mp gl n k bi t op nm3 bo gp ps.length rc j (K.has kk) _ _ _ _ _ p hS3 q228 q229 q230 hO3 hjl hL10 hhas hcj (hcell j p hpj w3 hO3.low) hgp3 (hpl p (List.mem_of_getElem? hpj)) (hB.kept hO3.low) (hF.kept hO3.low) (hE.kept hO3.low) y hm (fun a' w' h1 h2 h3 h4 h5 => ⟨⟨j + 1, o.set 3 y, nm3, by omega, h1, h2, h3, h4, h5, hgood _ _ (by unfold S.readPart; rw [hm]; rfl), hinv'⟩, hmeas a' w' h4⟩)
  · have hje : j = ps.length := by omega
    subst hje
    refine secF_5x _ a3 w3 v5 v6 mp gl n k bi t op nm3 bo (K.has kk) ra ps.length rc hS3 q228 q229 q230 (fun a' h => ex_in (hN a' w3 o nm3 h hO3 ?_))
    rw [hrp, List.drop_eq_nil_of_le (by omega), List.drop_length]
    rfl
/-- What a line with an order comes to. -/
theorem secF (Q : Exit → Act → World → Prop) (a : Act) (w : World) (v5 v6 v17 : Value) (mp gl n k bi : Nat) (t op : S.By) (B : Nat) (ps : List S.By) (hS : Sf a v5 v6 mp gl n k bi t op [] v17) (hrow : w.ownsRow B 9 1 v17 ps.length (strC ps)) (hps : ps.length ≤ 10000) (hpl : ∀ p ∈ ps, p.length ≤ 10000) (hB : Bi w bi k) (hF : AF w) (hE : EF w) (hA : Facts w)
    (hN : ∀ a' w' g c ws nm, Se a' v5 v6 mp gl n k bi t g c ws nm → wordsAt w' g ws → g < w'.heap.size → Below w.heap.size w w' → 0 < ws.length → ws.length ≤ 10 → (∀ x ∈ ws, 0 ≤ x ∧ x ≤ 65535) → (∀ ln st, S.readOrder op ps ln st = S.put ws nm ln st) → Q .normal a' w')
    (hR : ∀ a' w' e, Rt a' k e → Below w.heap.size w w' → (∀ ln st, S.readOrder op ps ln st = .error e) → Q .ret a' w') :
    ((cGo [1, 1, 1, 1, 1, 1, 1, 0, 1, 2, 3, 1, 1, 0, 2, 1, 1, 1, 1, 1, 1, 1, 1, 1, 1, 0, 1, 5] bBody)).wp Tryz.prog Q a w := by
  show (Code.seq (cGo [1, 1, 1, 1, 1, 1, 1, 0, 1, 2, 3, 1, 1, 0, 2, 1, 1, 1, 1, 1, 1, 1, 1, 1, 1, 0, 1, 5, 0] bBody) (Code.seq (cGo [1, 1, 1, 1, 1, 1, 1, 0, 1, 2, 3, 1, 1, 0, 2, 1, 1, 1, 1, 1, 1, 1, 1, 1, 1, 0, 1, 5, 1, 0] bBody) (Code.seq (cGo [1, 1, 1, 1, 1, 1, 1, 0, 1, 2, 3, 1, 1, 0, 2, 1, 1, 1, 1, 1, 1, 1, 1, 1, 1, 0, 1, 5, 1, 1, 0] bBody) (Code.seq (cGo [1, 1, 1, 1, 1, 1, 1, 0, 1, 2, 3, 1, 1, 0, 2, 1, 1, 1, 1, 1, 1, 1, 1, 1, 1, 0, 1, 5, 1, 1, 1, 0] bBody) (Code.seq (cGo [1, 1, 1, 1, 1, 1, 1, 0, 1, 2, 3, 1, 1, 0, 2, 1, 1, 1, 1, 1, 1, 1, 1, 1, 1, 0, 1, 5, 1, 1, 1, 1, 0] bBody) (Code.seq (cGo [1, 1, 1, 1, 1, 1, 1, 0, 1, 2, 3, 1, 1, 0, 2, 1, 1, 1, 1, 1, 1, 1, 1, 1, 1, 0, 1, 5, 1, 1, 1, 1, 1, 0] bBody) (Code.seq (cGo [1, 1, 1, 1, 1, 1, 1, 0, 1, 2, 3, 1, 1, 0, 2, 1, 1, 1, 1, 1, 1, 1, 1, 1, 1, 0, 1, 5, 1, 1, 1, 1, 1, 1, 0] bBody) (cGo [1, 1, 1, 1, 1, 1, 1, 0, 1, 2, 3, 1, 1, 0, 2, 1, 1, 1, 1, 1, 1, 1, 1, 1, 1, 0, 1, 5, 1, 1, 1, 1, 1, 1, 1] bBody)))))))).wp Tryz.prog Q a w
  refine wp_seq (secF_0 _ a w v5 v6 v17 mp gl n k bi t op [] hS ?_)
  intro a1 w1 hS1 hO1
  refine wp_seq (secF_1 _ a1 w1 w v5 v6 v17 mp gl n k bi t op [] w.heap.size hS1 hO1 (hA.kept hO1.low) ?_)
  intro a2 w2 hS2 hO2
  rw [S.lastOp_32] at hO2
  cases hop : S.opOf op with
  | none =>
    rw [hop] at hO2
    refine wp_seq (secF_2bad _ a2 w2 w v5 v6 v17 mp gl n k bi t op [] w.heap.size _ _ _ _ _ hS2 hO2 (by decide) (hB.kept hO2.low) ?_)
    intro a' w' h1 h2
    exact hR a' w' 5 h1 (stp hO2.low h2) (fun ln st => by unfold S.readOrder; rw [hop])
  | some kk =>
    rw [hop] at hO2
    replace hO2 : Ob w w.heap.size (kk : Int) 0 0 0 0 w2 := hO2
    obtain ⟨hk, h30⟩ := S.opOf_lt hop
    refine wp_seq (secF_2ok _ a2 w2 w v5 v6 v17 mp gl n k bi t op [] w.heap.size _ _ _ _ _ hS2 hO2 (by omega) ?_)
    intro a3 hS3
    refine wp_seq (secF_3 _ a3 w2 w v5 v6 v17 mp gl n k bi t op [] w.heap.size kk _ _ _ _ hS3 hO2 hk (hA.kept hO2.low) ?_)
    intro a4 w4 hS4 hb4
    have hO4 := hO2.kept hb4
    obtain ⟨ra, rc, hv⟩ := row_form hrow
    subst hv
    have hsz : (K.has kk).size = (S.parts kk).length := by rw [← S.has_len kk hk]; rfl
    have hsz4 : (K.has kk).size ≤ 10 := by
      have : ∀ k, k < 32 → (S.parts k).length ≤ 4 := by decide +kernel
      have := this kk hk
      omega
    by_cases hlen : ps.length = (S.parts kk).length
    · refine wp_seq (secF_4ok _ a4 w4 v5 v6 mp gl n k bi t op [] w.heap.size (K.has kk) ra ps.length rc hS4 (by omega) ?_)
      intro a5 hS5
      refine wp_seq (secF_5 _ a5 w4 w v5 v6 _ mp gl n k bi t op w.heap.size kk B ps hS5 hO4 hk hrow hlen hpl hB hF hE ?_ ?_)
      · intro a6 w6 o nm hS6 hO6 hrp
        by_cases hck : O.ck kk o.d o.s o.n o.w = 0
        · obtain ⟨hi, hok⟩ := ck_ok kk o.d o.s o.n o.w hk h30 hck
          refine wp_seq (secF_6ok _ a6 w6 w v5 v6 mp gl n k bi t op nm w.heap.size (K.has kk) ra ps.length rc _ _ _ _ _ hS6 hO6 (hA.kept hO6.low) hck ?_)
          intro a7 w7 hS7 hb7
          have hO7 := hO6.kept hb7
          refine secF_7 _ a7 w7 w v5 v6 mp gl n k bi t op nm w.heap.size (K.has kk) ra ps.length rc _ _ _ _ _ hS7 hO7 (hA.kept hO7.low) hi hok ?_
          intro a8 w8 g c h1 h2 h3 h4
          refine hN a8 w8 g c _ nm h1 h2 h3 (stp hO7.low h4) ?_ ?_ ?_ ?_
          · unfold O.words; split <;> simp
          · unfold O.words; split <;> simp
          · exact words_bd hk hok
          · intro ln st
            unfold S.readOrder
            rw [hop]
            simp only [hlen, if_true, hrp, hck]
        · refine wp_seq (secF_6bad _ a6 w6 w v5 v6 mp gl n k bi t op nm w.heap.size (K.has kk) ra ps.length rc _ _ _ _ _ hS6 hO6 (hB.kept hO6.low) (hA.kept hO6.low) _ rfl hck ?_)
          intro a' w' h1 h2
          refine hR a' w' _ h1 (stp hO6.low h2) (fun ln st => ?_)
          unfold S.readOrder
          rw [hop]
          simp only [hlen, if_true, hrp]
          rw [if_neg hck]
      · intro a' w' h1 h2 hrp
        refine hR a' w' 1 h1 h2 (fun ln st => ?_)
        unfold S.readOrder
        rw [hop]
        simp only [hlen, if_true, hrp]
    · refine wp_seq (secF_4bad _ a4 w4 v5 v6 mp gl n k bi t op [] w.heap.size (K.has kk) ra ps.length rc hS4 (by omega) hps hsz4 (hB.kept hO4.low) ?_)
      intro a' w' h1 h2
      refine hR a' w' 4 h1 (stp hO4.low h2) (fun ln st => ?_)
      unfold S.readOrder
      rw [hop]
      simp only [hlen, if_false]
end Go.Proofs.YtdjhlfoapieohaaGreatDoor
