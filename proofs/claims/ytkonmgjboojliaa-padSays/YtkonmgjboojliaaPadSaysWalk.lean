/-
  The Go text of the law PadSays returns true for any pad and any two bytes.
-/
import Derived.Test.YtkonmgjboojliaaPadA
namespace Go.Proofs.Ytkonmgjboojliaa
open Go.ChangeShapes Go.WideShapes Go.ChangeAt Go.RowKit
set_option linter.unusedVariables false

/-- A pad lies at a box. -/
structure Pat (W : World) (b : Nat) (d : Int) (l : Bool) (s : Int) : Prop where
  z : b < W.heap.size
  c0 : W.cell? ⟨b, 0, none⟩ = some (.int .u8 d)
  c1 : W.cell? ⟨b, 1, none⟩ = some (.bool l)
  c2 : W.cell? ⟨b, 2, none⟩ = some (.int .u8 s)
theorem Pat.kept {W w1 : World} {b : Nat} {d s : Int} {l : Bool} (h : Pat W b d l s) (hb : Below W.heap.size W w1) : Pat w1 b d l s :=
  ⟨Nat.lt_of_lt_of_le h.z hb.size, (hb.cell (p := ⟨b, 0, none⟩) h.z).trans h.c0, (hb.cell (p := ⟨b, 1, none⟩) h.z).trans h.c1, (hb.cell (p := ⟨b, 2, none⟩) h.z).trans h.c2⟩
theorem Pat.over {W : World} {b : Nat} {d s : Int} {l : Bool} (h : Pat W b d l s) (o : Obj) : Pat (W.alloc o) b d l s := h.kept (stA (st0 W) o)
theorem Pat.new (W : World) (d s : Int) (l : Bool) : Pat (W.alloc (.cells #[.int .u8 d, .bool l, .int .u8 s] 23)) W.heap.size d l s :=
  ⟨by simp, Pl.new _ _ _ _ rfl, Pl.new _ _ _ _ rfl, Pl.new _ _ _ _ rfl⟩
/-- What PadSays' boxes hold while it compares. -/
structure SaysK (w : World) (b0 b1 b2 b3 : Nat) (d s : Int) (l : Bool) (W : World) : Prop where
  low : Below w.heap.size w W
  p : Pat W b0 d l s
  q : Pat W b1 d l (sel l s (s * 2 % 256 + 1))
  r : Pat W b2 d false 255
  t : Pat W b3 d l (sel l s (s * 2 % 256 + 1))
section
variable {w W w1 : World} {b0 b1 b2 b3 : Nat} {d s : Int} {l : Bool}
theorem SaysK.all (h : SaysK w b0 b1 b2 b3 d s l W) : W.cell? ⟨b0, 0, none⟩ = some (.int .u8 (d)) ∧ W.cell? ⟨b0, 1, none⟩ = some (.bool l) ∧ W.cell? ⟨b0, 2, none⟩ = some (.int .u8 (s)) ∧ W.cell? ⟨b1, 0, none⟩ = some (.int .u8 (d)) ∧ W.cell? ⟨b1, 1, none⟩ = some (.bool l) ∧ W.cell? ⟨b1, 2, none⟩ = some (.int .u8 (sel l s (s * 2 % 256 + 1))) ∧ W.cell? ⟨b3, 0, none⟩ = some (.int .u8 (d)) ∧ W.cell? ⟨b3, 1, none⟩ = some (.bool l) ∧ W.cell? ⟨b3, 2, none⟩ = some (.int .u8 (sel l s (s * 2 % 256 + 1))) ∧ SaysK w b0 b1 b2 b3 d s l W :=
  ⟨h.p.c0, h.p.c1, h.p.c2, h.q.c0, h.q.c1, h.q.c2, h.t.c0, h.t.c1, h.t.c2, h⟩
theorem SaysK.drew (h : SaysK w b0 b1 b2 b3 d s l W) : SaysK w b0 b1 b2 b3 d s l W.drew :=
  ⟨h.low.drew, ⟨h.p.z, h.p.c0, h.p.c1, h.p.c2⟩, ⟨h.q.z, h.q.c0, h.q.c1, h.q.c2⟩, ⟨h.r.z, h.r.c0, h.r.c1, h.r.c2⟩, ⟨h.t.z, h.t.c0, h.t.c1, h.t.c2⟩⟩
theorem says_keep (h : W.cell? ⟨b0, 0, none⟩ = some (.int .u8 (d)) ∧ W.cell? ⟨b0, 1, none⟩ = some (.bool l) ∧ W.cell? ⟨b0, 2, none⟩ = some (.int .u8 (s)) ∧ W.cell? ⟨b1, 0, none⟩ = some (.int .u8 (d)) ∧ W.cell? ⟨b1, 1, none⟩ = some (.bool l) ∧ W.cell? ⟨b1, 2, none⟩ = some (.int .u8 (sel l s (s * 2 % 256 + 1))) ∧ W.cell? ⟨b3, 0, none⟩ = some (.int .u8 (d)) ∧ W.cell? ⟨b3, 1, none⟩ = some (.bool l) ∧ W.cell? ⟨b3, 2, none⟩ = some (.int .u8 (sel l s (s * 2 % 256 + 1))) ∧ SaysK w b0 b1 b2 b3 d s l W) (hb : Below W.heap.size W w1) : w1.cell? ⟨b0, 0, none⟩ = some (.int .u8 (d)) ∧ w1.cell? ⟨b0, 1, none⟩ = some (.bool l) ∧ w1.cell? ⟨b0, 2, none⟩ = some (.int .u8 (s)) ∧ w1.cell? ⟨b1, 0, none⟩ = some (.int .u8 (d)) ∧ w1.cell? ⟨b1, 1, none⟩ = some (.bool l) ∧ w1.cell? ⟨b1, 2, none⟩ = some (.int .u8 (sel l s (s * 2 % 256 + 1))) ∧ w1.cell? ⟨b3, 0, none⟩ = some (.int .u8 (d)) ∧ w1.cell? ⟨b3, 1, none⟩ = some (.bool l) ∧ w1.cell? ⟨b3, 2, none⟩ = some (.int .u8 (sel l s (s * 2 % 256 + 1))) ∧ SaysK w b0 b1 b2 b3 d s l w1 := by
  obtain ⟨_, _, _, _, _, _, _, _, _, h⟩ := h
  exact SaysK.all ⟨stp h.low hb, h.p.kept hb, h.q.kept hb, h.r.kept hb, h.t.kept hb⟩
end
/-- Between two of the reference's Reads. -/
structure LoopR (w : World) (br bx : Nat) (n k : Nat) (W : World) : Prop where
  low : Below w.heap.size w W
  x : Pat W bx n false (shN n k)
  f : ∀ o, W.frozen? ⟨bx, o, none⟩ = false
  r : Pat W br n false 255
  ne : br ≠ bx ∧ w.heap.size ≤ bx
theorem LoopR.next {w W w1 : World} {br bx n k : Nat} (h : LoopR w br bx n k W) (hb' : Below W.heap.size W w1) :
    LoopR w br bx n (k + 1) ((w1.setCells bx 0 [.int .u8 n, .bool false, .int .u8 (shN n (k + 1))]).drew) := by
  have hx := h.x.kept hb'
  have hr := h.r.kept hb'
  have hf : ∀ j, w1.frozen? ⟨bx, j, none⟩ = false := fun j => (hb'.frozen (p := ⟨bx, j, none⟩) h.x.z).trans (h.f j)
  have hth : w1.there bx 0 3 := fun j hj => by
    refine ⟨?_, hf _⟩
    rw [Nat.zero_add]
    match j, hj with
    | 0, _ => rw [hx.c0]; rfl
    | 1, _ => rw [hx.c1]; rfl
    | 2, _ => rw [hx.c2]; rfl
  have hR := World.rangeAt_setCells_same w1 bx 0 [.int .u8 n, .bool false, .int .u8 (shN n (k + 1))] hth
  have hB := Pl.below (b := bx) h.ne.2 [.int .u8 n, .bool false, .int .u8 (shN n (k + 1))] 0 _ (stp h.low hb')
  have hs := setC_size bx [.int .u8 n, .bool false, .int .u8 (shN n (k + 1))] 0 w1
  have ho : ∀ j, (w1.setCells bx 0 [.int .u8 n, .bool false, .int .u8 (shN n (k + 1))]).cell? ⟨br, j, none⟩ = w1.cell? ⟨br, j, none⟩ := fun j => World.cell?_setCells_out _ _ _ _ _ (fun e => absurd e h.ne.1)
  have hF : ∀ j, (w1.setCells bx 0 [.int .u8 n, .bool false, .int .u8 (shN n (k + 1))]).frozen? ⟨bx, j, none⟩ = false := fun j => (World.frozen?_setCells _ _ _ _ _).trans (hf j)
  generalize w1.setCells bx 0 [.int .u8 n, .bool false, .int .u8 (shN n (k + 1))] = X at *
  have z1 : bx < X.heap.size := by rw [hs]; exact hx.z
  have z2 : br < X.heap.size := by rw [hs]; exact hr.z
  exact ⟨hB.drew, ⟨z1, hR 0 _ rfl, hR 1 _ rfl, hR 2 _ rfl⟩, hF, ⟨z2, (ho 0).trans hr.c0, (ho 1).trans hr.c1, (ho 2).trans hr.c2⟩, h.ne⟩
theorem al_next : ∀ d : Nat, d < 256 → ∀ k : Nat, k < 8 → alN d k * 2 + shN d k / 128 = alN d (k + 1) ∧ alN d k ≤ 255 ∧ 0 ≤ alN d k := by decide +kernel
set_option maxRecDepth 100000 in
set_option maxHeartbeats 1600000 in
theorem says_walk (d s x b : Int) (l : Bool) (w : World) (hd : 0 ≤ d ∧ d ≤ 255) (hs : 0 ≤ s ∧ s ≤ 255) (hx : 0 ≤ x ∧ x ≤ 255) (hb : 0 ≤ b ∧ b ≤ 255) :
    Calls Try.prog 3 #[.agg #[.int .u8 d, .bool l, .int .u8 s], .int .u8 x, .int .u8 b] w fun e w' => e = .returned (.bool true) ∧ Below w.heap.size w w' := by
  obtain ⟨n, hn0⟩ := Int.eq_ofNat_of_zero_le hd.1
  have hn : n < 256 := by omega
  have HN := hid hn0
  clear hn0
  have he := neq_pad
  have hq := eq_pad
  go_enter Try.func3, Try.ntmps3
  go_wp2_with (first
    | (go_at_call 5; refine (read_pad _ _ _ _ hd hs).mono ?_; rintro e w1 ⟨rfl, hb1⟩; have P1 := hid ((Pat.new w d s l).kept hb1); obtain ⟨p1z, p10, p11, p12⟩ := P1.out; have B1 := hid (stp (stA (st0 w) _) hb1))
    | (go_at_call 6; refine (all_any _ _ _ _ hd hs).mono ?_; rintro e w2 ⟨rfl, hb2⟩; have P2 := hid ((P1.out.over _).kept hb2); obtain ⟨p2z, p20, p21, p22⟩ := P2.out; have Q2 := hid ((Pat.new w1 _ _ _).kept hb2); obtain ⟨q2z, q20, q21, q22⟩ := Q2.out; have B2 := hid (stp (stA B1.out _) hb2))
    | (go_at_call 7; refine (pr_read _ _ _ _ hd hs).mono ?_; rintro e w3 ⟨rfl, hb3⟩; have K3 := hid (SaysK.mk (stA (stp (stA B2.out _) hb3) _) (((P2.out.over _).kept hb3).over _) (((Q2.out.over _).kept hb3).over _) (((Pat.new w2 _ _ _).kept hb3).over _) (Pat.new w3 _ _ _))))
  have K4 := hid K3.out.all
  have z3 := hid K3.out.p.z
  clear P1 P2 Q2 B1 B2 p10 p11 p12 p20 p21 p22 q20 q21 q22 K3 hb1 hb2 hb3
  refine Pl.cutW (fun W => W.cell? ⟨w.heap.size, 0, none⟩ = some (.int .u8 (d)) ∧ W.cell? ⟨w.heap.size, 1, none⟩ = some (.bool l) ∧ W.cell? ⟨w.heap.size, 2, none⟩ = some (.int .u8 (s)) ∧ W.cell? ⟨w1.heap.size, 0, none⟩ = some (.int .u8 (d)) ∧ W.cell? ⟨w1.heap.size, 1, none⟩ = some (.bool l) ∧ W.cell? ⟨w1.heap.size, 2, none⟩ = some (.int .u8 (sel l s (s * 2 % 256 + 1))) ∧ W.cell? ⟨w3.heap.size, 0, none⟩ = some (.int .u8 (d)) ∧ W.cell? ⟨w3.heap.size, 1, none⟩ = some (.bool l) ∧ W.cell? ⟨w3.heap.size, 2, none⟩ = some (.int .u8 (sel l s (s * 2 % 256 + 1))) ∧ SaysK w w.heap.size w1.heap.size w2.heap.size w3.heap.size d s l W) K4.out ?_
  rintro W ⟨p0, p1, p2, q0, q1, q2, t0, t1, t2, hK⟩
  clear K4 z3
  have HK := hid hK
  clear hK
  go_region_held3 (fun w' => w'.cell? ⟨w.heap.size, 0, none⟩ = some (.int .u8 (d)) ∧ w'.cell? ⟨w.heap.size, 1, none⟩ = some (.bool l) ∧ w'.cell? ⟨w.heap.size, 2, none⟩ = some (.int .u8 (s)) ∧ w'.cell? ⟨w1.heap.size, 0, none⟩ = some (.int .u8 (d)) ∧ w'.cell? ⟨w1.heap.size, 1, none⟩ = some (.bool l) ∧ w'.cell? ⟨w1.heap.size, 2, none⟩ = some (.int .u8 (sel l s (s * 2 % 256 + 1))) ∧ w'.cell? ⟨w3.heap.size, 0, none⟩ = some (.int .u8 (d)) ∧ w'.cell? ⟨w3.heap.size, 1, none⟩ = some (.bool l) ∧ w'.cell? ⟨w3.heap.size, 2, none⟩ = some (.int .u8 (sel l s (s * 2 % 256 + 1))) ∧ SaysK w w.heap.size w1.heap.size w2.heap.size w3.heap.size d s l w')
    (first
      | with_reducible exact SaysK.all HK.out.drew
      | with_reducible exact says_keep (by assumption) (by assumption)
      | (go_keep; done))
    (first
      | (go_at_call 8; refine (pressed_any _).mono ?_; rintro e w4 ⟨rfl, hb4⟩)
      | (go_at_call 9; refine (write_any _ _ _ _ _ hb).mono ?_; rintro e w5 ⟨rfl, hb5⟩)
      | (go_at_call 10; refine (pr_write _ _ _ _ _ hb).mono ?_; rintro e w6 ⟨rfl, hb6⟩)
      | (go_at_call 11; refine (press_any _ _ _ _ _).mono ?_; rintro e w7 ⟨rfl, hb7⟩)
      | (go_at_call 12; refine (pr_press _ _ _ _ _).mono ?_; rintro e w8 ⟨rfl, hb8⟩))
  have K8 := hid (show w8.cell? ⟨w.heap.size, 0, none⟩ = some (.int .u8 (d)) ∧ w8.cell? ⟨w.heap.size, 1, none⟩ = some (.bool l) ∧ w8.cell? ⟨w.heap.size, 2, none⟩ = some (.int .u8 (s)) ∧ w8.cell? ⟨w1.heap.size, 0, none⟩ = some (.int .u8 (d)) ∧ w8.cell? ⟨w1.heap.size, 1, none⟩ = some (.bool l) ∧ w8.cell? ⟨w1.heap.size, 2, none⟩ = some (.int .u8 (sel l s (s * 2 % 256 + 1))) ∧ w8.cell? ⟨w3.heap.size, 0, none⟩ = some (.int .u8 (d)) ∧ w8.cell? ⟨w3.heap.size, 1, none⟩ = some (.bool l) ∧ w8.cell? ⟨w3.heap.size, 2, none⟩ = some (.int .u8 (sel l s (s * 2 % 256 + 1))) ∧ SaysK w w.heap.size w1.heap.size w2.heap.size w3.heap.size d s l w8 by assumption)
  obtain ⟨x0, x1, x2, _, _, _, _, _, _, hK8⟩ := K8.out
  clear K8
  have xz := hK8.p.z
  have HK8 := hid hK8
  clear hK8
  go_wp2_with (first
    | (have zz := z9; clear zz; go_at_call 10; refine (pr_write _ _ 0 _ _ (by omega)).mono ?_; rintro e w10 ⟨rfl, hb10⟩)
    | (go_at_call 10; refine (pr_write _ _ 1 _ _ (by omega)).mono ?_; rintro e w9 ⟨rfl, hb9⟩; have z9 := hb9.size))
  have hn0 := HN.out
  clear HN
  have HL : Hid (LoopR w w2.heap.size w10.heap.size n 0 (w10.alloc (.cells #[.int .u8 d, .bool (odd 0), .int .u8 (sel (odd 0) d (sel (odd 1) d s))] 23))) := by
    have e : sel (odd 0) d (sel (odd 1) d s) = shN n 0 := by rw [(sh_end n hn).1, ← hn0]; rfl
    rw [e, hn0]
    have hr := (HK8.out.r.kept hb9).kept hb10
    have hl := stp (stp HK8.out.low hb9) hb10
    rw [hn0] at hr
    exact ⟨stA hl _, Pat.new _ _ _ _, fun o => Lib.frozen_of_heap (heap_alloc_new w10 _) o, hr.over _, ⟨Nat.ne_of_lt hr.z, hl.size⟩⟩
  clear HK8 x0 x1 x2 xz HK p0 p1 p2 q0 q1 q2 t0 t1 t2 hb9 hb10 z9
  subst hn0
  go_loopw [14, 65] (fun a i wr => ∃ k : Nat, k ≤ 8 ∧ a = .int .i64 (alN n k) ∧ i = .int .i64 k ∧ LoopR w w2.heap.size w10.heap.size n k wr) (fun _ i _ => 8 - (intOf i).toNat)
  case atStart => exact ⟨0, by omega, by rw [(sh_end n hn).2.2.1], rfl, HL.out⟩
  case round =>
    clear HL
    obtain ⟨k, hk, rfl, rfl, hA⟩ := hrel
    have HA := hid hA
    obtain ⟨xz, c0, c1, c2⟩ := hA.x
    have hf := hA.f
    by_cases h8 : k < 8
    · obtain ⟨e1, b0, b1, _, _, _⟩ := sh_next n hn k h8
      obtain ⟨a1, a2, a3⟩ := al_next n hn k h8
      clear hA
      go_wp2_with (go_at_call 7; refine (pr_read _ _ _ _ hd ⟨b0, b1⟩).mono ?_; rintro e w11 ⟨rfl, hb11⟩; obtain ⟨k11, f11⟩ := bcell hb11; have z11 := Nat.lt_of_lt_of_le xz hb11.size)
      refine Pl.cutW (fun U => Below wr.heap.size wr U ∧ Pat U w11.heap.size n false (sel false (shN n k) (shN n (k + 1)))) ⟨stA hb11 _, Pat.new _ _ _ _⟩ ?_
      rintro U ⟨hbU, yz, y0, y1, y2⟩
      have n11 : w11.heap.size ≠ w10.heap.size := Nat.ne_of_gt z11
      have m11 : ¬ (w10.heap.size = w11.heap.size) := Nat.ne_of_lt z11
      obtain ⟨kU, fU⟩ := bcell hbU
      have HU := hid hbU
      clear hbU k11 f11
      go_region_held3 (fun w' => w'.cell? ⟨w11.heap.size, 0, none⟩ = some (.int .u8 n) ∧ w'.cell? ⟨w11.heap.size, 1, none⟩ = some (.bool false) ∧ w'.cell? ⟨w11.heap.size, 2, none⟩ = some (.int .u8 (sel false (shN n k) (shN n (k + 1)))))
        ((go_keep; done))
        (fail)
      go_wp2
      go_roundw
      case rel =>
        have eW : IntKind.i64.wrap (IntKind.i64.wrap (alN n k * 2) + IntKind.i64.wrap (sel false n (shN n k) / 128)) = alN n k * 2 + shN n k / 128 := by
          rw [show sel false n (shN n k) = shN n k from rfl]
          simp [IntKind.wrap, IntKind.bits, IntKind.signed]
          omega
        exact ⟨k + 1, by omega, by rw [← a1, eW], by go_num, HA.out.next HU.out⟩
      case measure => simp [intOf]; omega
    · obtain rfl : k = 8 := by omega
      obtain ⟨_, e1, _, e2⟩ := sh_end n hn
      rw [e1] at c2
      rw [e2]
      obtain ⟨rz, r0, r1, r2⟩ := hA.r
      clear hA
      go_wp2
      go_ret
      exact ⟨rfl, HA.out.low⟩
end Go.Proofs.Ytkonmgjboojliaa
