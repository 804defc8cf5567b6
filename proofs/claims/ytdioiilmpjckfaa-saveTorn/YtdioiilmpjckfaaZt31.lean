/-
  Parts of a proof, joined.
-/
import Derived.Test.YtdioiilmpjckfaaZt30
import Derived.Test.YtdioiilmpjckfaaZt12
import Derived.Deep.DeepCutAuto
namespace Go.Proofs.Ytdioiilmpjckfaa
open Go.ChangeShapes Go.WideShapes Go.ChangeAt Go.RowKit
set_option linter.unusedVariables false
set_option maxRecDepth 100000
theorem Sv.exec_load {P : Program} {a : Act} {o : Oper} {w : World} (ty : TypeId) (x : Operand) (ho : o.op = .load ty x) (b off : Nat) (hx : a.eval x = .pointer (some ⟨b, off, none⟩)) (cs : List Value) (u : TypeDesc) (hc : w.rangeAt b off cs) (hu : P.underlying ty = some u) (hag : u.isRow = true) (hi : (P.info? ty).map (·.size) = some cs.length) :
    (execOp a.eval o).run P w = .ok (.value (.agg cs.toArray)) w := by
  unfold execOp
  simp only [ho, hx, Sem.run_bind, run_loadAt_mid w b off ty cs u hc hu hag hi, Result.andThen_ok, Sem.run_pure]
theorem chk_four (M : Mach) : M.chk = 0 ∨ M.chk = 2 ∨ M.chk = 3 ∨ M.chk = 4 := by
  unfold Mach.chk
  split
  · split
    · split
      · split
        · split <;> simp
        · simp
      · simp
    · simp
  · simp
structure Sv.Two (w : World) (gb : Nat) (p1 p2 : Value) (l1 l2 : List UInt8) (Y : World) : Prop where
  low : Below w.heap.size w Y
  z : gb < Y.heap.size
  c0 : Y.cell? ⟨gb, 0, none⟩ = some p1
  c1 : Y.cell? ⟨gb, 1, none⟩ = some p2
  s1 : sliceAt Y p1 l1
  s2 : sliceAt Y p2 l2
  n1 : l1.length ≤ 100000
  n2 : l2.length ≤ 100000
theorem Sv.Two.kept {w : World} {gb : Nat} {p1 p2 : Value} {l1 l2 : List UInt8} {Y Y' : World} (h : Sv.Two w gb p1 p2 l1 l2 Y) (hb : Below Y.heap.size Y Y') : Sv.Two w gb p1 p2 l1 l2 Y' :=
  ⟨stp h.low hb, Nat.lt_of_lt_of_le h.z hb.size, (hb.cell (p := ⟨gb, 0, none⟩) h.z).trans h.c0, (hb.cell (p := ⟨gb, 1, none⟩) h.z).trans h.c1, h.s1.kept hb, h.s2.kept hb, h.n1, h.n2⟩
theorem Sv.slice_under {B : Nat} {w w' : World} {g o cap : Nat} {l : List UInt8} {n : Nat} (hn : n = l.length) (hg : g < B) (hz : g < w.heap.size) (hc : l.length ≤ cap) (h : bytesAt w g o l) (hb : Below B w w') : sliceAt w' (.slice (some ⟨g, o, none⟩) n cap) l := by
  subst hn
  exact Or.inr ⟨g, o, cap, rfl, hc, Nat.lt_of_lt_of_le hz hb.size, h.kept hb hg⟩
theorem Sv.bytes_take {w : World} {g o : Nat} {l : List UInt8} (h : bytesAt w g o l) (n : Nat) : bytesAt w g o (l.take n) := fun j c hj => by
  rw [List.getElem?_take] at hj
  split at hj
  · exact h j c hj
  · cases hj
theorem Sv.slice_byte (w : World) (m : UInt8) : sliceAt (w.alloc (.cells #[.int .u8 m.toNat] 5)) (.slice (some ⟨w.heap.size, 0, none⟩) 1 1) [m] :=
  Or.inr ⟨w.heap.size, 0, 1, rfl, Nat.le_refl _, by simp, fun j c hj => by
    match j, hj with
    | 0, hj => simp only [List.getElem?_cons_zero, Option.some.injEq] at hj; subst hj; exact Pl.new _ _ _ _ rfl
    | j + 1, hj => simp at hj⟩
def Sv.Sec (N : Mach) (S' : Sl) (x : Int) : Prop := ((x = 2 ∨ x = 3 ∨ x = 4) ∧ ∀ W, SlAt W S' N → Calls Try.prog 5 #[.agg (machL N S').toArray] W fun e w' => e = .returned (.tuple #[.slice none 0 0, .int .i64 x]) ∧ Below W.heap.size W w') ∨
  (x = 0 ∧ N.ok ∧ N.chk = 0)
set_option maxHeartbeats 6400000 in
theorem Sv.torn_ok (M N : Mach) (S S' : Sl) (cut : Int) (more : UInt8) (w : World) (h1 : SlAt w S M) (h2 : SlAt w S' N) (hok : M.ok) (hc : M.chk = 0) (hcut : -9223372036854775808 ≤ cut ∧ cut ≤ 9223372036854775807) (x : Int) (hx : Sv.Sec N S' x) :
    Calls Try.prog 4 #[.agg (machL M S).toArray, .agg (machL N S').toArray, .int .i64 cut, .int .u8 more.toNat] w fun e w' => e = .returned (.bool true) ∧ Below w.heap.size w w' := by
  have HY0 := hid (TW.start (w := w) h1 h2 41 41)
  have HOK := hid hok
  have HC := hid hc
  have HLN := hid (enc_len (chk_fit hok hc))
  have HN : Hid (∀ W, SlAt W S' N → Calls Try.prog 5 #[.agg (machL N S').toArray] W fun e w' => ∃ a n c, e = .returned (.tuple #[.slice a n c, .int .i64 x]) ∧ (x = 0 → sliceAt w' (.slice a n c) (enc N)) ∧ Below W.heap.size W w') := hid (fun W h => by
    rcases hx with ⟨h9, h8⟩ | ⟨rfl, n1, n2⟩
    · exact (h8 W h).mono fun e w' ⟨he, hb⟩ => ⟨none, 0, 0, he, fun e0 => by omega, hb⟩
    · exact (Sv.bytes_ok N S' W h n1 n2).mono fun e w' ⟨v, he, hv, hb⟩ => by
        have hv2 := slice_of_own hv
        obtain ⟨a, c, ev⟩ := slice_len hv2
        subst ev
        exact ⟨a, _, c, he, fun _ => hv2, hb⟩)
  have HX := hid hx
  have HCU := hid hcut
  clear h1 h2 hok hc hx hcut
  go_enter Try.func4, Try.ntmps4
  go_upto_region 5 with (first
    | (go_at_call 7; refine (Sv.saved _).mono ?_; rintro e w4 ⟨rfl, hb4⟩; have HY4 := hid (HY3.out.kept hb4); have HV4 := hid (HV3.out.kept hb4); have HU4 : Hid (x = 0 → sliceAt w4 (.slice na nn nc) (enc N)) := hid (fun e0 => (HU3.out e0).kept hb4); clear hb4)
    | (go_at_call 5; have hq1 := HY1.out.low; clear hq1; refine (HN.out _ HY1.out.sn).mono ?_; rintro e w3 ⟨na, nn, nc, rfl, hu3, hb3⟩; have HY3 := hid (HY1.out.kept hb3); have HV3 := hid (HV1.out.kept hb3); have HU3 := hid hu3; clear hb3 hu3)
    | (refine wpList_load_mid rfl 41 _ rfl (w.heap.size + 1) 0 rfl (machL N S') _ HY1.out.n.c Try.underlying41 rfl info_mach ?_)
    | (go_at_call 5; refine (Sv.bytes_ok M S _ HY0.out.sm HOK.out HC.out).mono ?_; rintro e w1 ⟨vv, rfl, hv1, hb1⟩; obtain ⟨va, vc, evv⟩ := slice_len (slice_of_own hv1); subst evv; have hv2 := slice_of_own hv1; obtain ⟨en, hen⟩ : ∃ en, en = (enc M).length := ⟨_, rfl⟩; rw [← hen] at hv2; rw [← hen]; have HEN := hid hen; have HV1 := hid hv2; have HY1 := hid (HY0.out.kept hb1); have hd4 : ((en : Int) == 0) = false := (by have h9 := HLN.out.1; rw [← hen] at h9; rw [beq_eq_false_iff_ne]; omega); have hd5 : (0 : Int) < en := (by have h9 := HLN.out.1; rw [← hen] at h9; omega); clear hv1 hv2 hb1 hen)
    | (refine wpList_load_mid rfl 41 _ rfl w.heap.size 0 rfl (machL M S) _ HY0.out.m.c Try.underlying41 rfl info_mach ?_))
  go_cut [2, 3, 9, 55] (fun v2 v3 v9 v55 Y => v2 = .int .i64 cut ∧ v3 = .int .u8 more.toNat ∧ v9 = .slice va en vc ∧ v55 = .bool false ∧ TW w M N S S' Y ∧ sliceAt Y (.slice va en vc) (enc M))
  case first =>
    rcases HX.out with ⟨h9, _⟩ | ⟨hx0, n1, n2⟩
    · rcases h9 with rfl | rfl | rfl
      all_goals
        refine wp_region_G (S := fun _ => True) (st := 11) (by kernel_rfl) ?_
        refine wpAnyG_pure (i := 0) (oi := ⟨some 45, _, _, _, _, none⟩) (v := ?_) rfl (by kernel_rfl) (by kernel_rfl) (by kernel_rfl) (by decide) (fun _ _ _ h => h) (Or.inl ⟨by rfl, ?_⟩) (fun _ => trivial) ?_
        rotate_left 1
        focus (intro w hSw; go_simp; try (with_reducible rfl))
        simp only [Act.put, xA, xB, xC]
        refine wpAnyG_pure (i := 1) (oi := ⟨some 46, _, _, _, _, none⟩) (v := ?_) rfl (by kernel_rfl) (by kernel_rfl) (by kernel_rfl) (by decide) (fun _ _ _ h => h) (Or.inl ⟨by rfl, ?_⟩) (fun _ => trivial) ?_
        rotate_left 1
        focus (intro w hSw; go_simp; try (with_reducible rfl))
        simp only [Act.put, xA, xB, xC]
        refine wpAnyG_pure (i := 2) (oi := ⟨some 47, _, _, _, _, none⟩) (v := ?_) rfl (by kernel_rfl) (by kernel_rfl) (by kernel_rfl) (by decide) (fun _ _ _ h => h) (Or.inl ⟨by rfl, ?_⟩) (fun _ => trivial) ?_
        rotate_left 1
        focus (intro w hSw; go_simp; try (with_reducible rfl))
        simp only [Act.put, xA, xB, xC]
        refine wpAnyG_pure (i := 3) (oi := { dst := some 48, op := _, type := _, pos := _, after := _, guard := some (2, true) }) (v := undef) rfl (by kernel_rfl) (by kernel_rfl) (by kernel_rfl) (by decide) (fun _ _ _ h => h) (Or.inr ⟨by rfl, rfl⟩) (fun _ => trivial) ?_
        simp only [Act.put, xA, xB, xC]
        refine wpAnyG_pure (i := 4) (oi := { dst := some 49, op := _, type := _, pos := _, after := _, guard := some (2, true) }) (v := undef) rfl (by kernel_rfl) (by kernel_rfl) (by kernel_rfl) (by decide) (fun _ _ _ h => h) (Or.inr ⟨by rfl, rfl⟩) (fun _ => trivial) ?_
        simp only [Act.put, xA, xB, xC]
        refine wpAnyG_pure (i := 6) (oi := { dst := some 51, op := _, type := _, pos := _, after := _, guard := some (2, true) }) (v := undef) rfl (by kernel_rfl) (by kernel_rfl) (by kernel_rfl) (by decide) (fun _ _ _ h => h) (Or.inr ⟨by rfl, rfl⟩) (fun _ => trivial) ?_
        simp only [Act.put, xA, xB, xC]
        refine wpAnyG_pure (i := 7) (oi := { dst := some 52, op := _, type := _, pos := _, after := _, guard := some (2, true) }) (v := undef) rfl (by kernel_rfl) (by kernel_rfl) (by kernel_rfl) (by decide) (fun _ _ _ h => h) (Or.inr ⟨by rfl, rfl⟩) (fun _ => trivial) ?_
        simp only [Act.put, xA, xB, xC]
        refine wpAnyG_pure (i := 5) (oi := { dst := some 50, op := _, type := _, pos := _, after := _, guard := some (2, true) }) (v := undef) rfl (by kernel_rfl) (by kernel_rfl) (by kernel_rfl) (by decide) (fun _ _ _ h => h) (Or.inr ⟨by rfl, rfl⟩) (fun _ => trivial) ?_
        simp only [Act.put, xA, xB, xC]
        refine wpAnyG_pure (i := 8) (oi := { dst := some 53, op := _, type := _, pos := _, after := _, guard := some (2, true) }) (v := undef) rfl (by kernel_rfl) (by kernel_rfl) (by kernel_rfl) (by decide) (fun _ _ _ h => h) (Or.inr ⟨by rfl, rfl⟩) (fun _ => trivial) ?_
        simp only [Act.put, xA, xB, xC]
        refine wpAnyG_pure (i := 9) (oi := { dst := some 54, op := _, type := _, pos := _, after := _, guard := some (2, true) }) (v := undef) rfl (by kernel_rfl) (by kernel_rfl) (by kernel_rfl) (by decide) (fun _ _ _ h => h) (Or.inr ⟨by rfl, rfl⟩) (fun _ => trivial) ?_
        simp only [Act.put, xA, xB, xC]
        refine wpAnyG_pure (i := 10) (oi := ⟨some 55, _, _, _, _, none⟩) (v := ?_) rfl (by kernel_rfl) (by kernel_rfl) (by kernel_rfl) (by decide) (fun _ _ _ h => h) (Or.inl ⟨by rfl, ?_⟩) (fun _ => trivial) ?_
        rotate_left 1
        focus (intro w hSw; go_simp; try (with_reducible rfl))
        simp only [Act.put, xA, xB, xC]
        refine wpAnyG_done (by kernel_rfl) ?_ _
        refine (by assumption : ∀ (a' : Act) (w' : World), Met _ a' w' → _) _ _ ?_
        go_meet
        exact ⟨rfl, rfl, rfl, rfl, HY4.out.kept (st0 w4).drew, HV4.out.kept (st0 w4).drew⟩
    · subst hx0
      have HU4 := hid (HU4.out rfl)
      have HSE := hid (same_enc (fit_wok (chk_fit HOK.out HC.out)) (fit_wok (chk_fit n1 n2)))
      clear n1 n2
      refine wp_region_G (S := fun W => W.rangeAt w.heap.size 0 (machL M S) ∧ W.rangeAt (w.heap.size + 1) 0 (machL N S')) (st := 8) (by kernel_rfl) ?_
      have hS : w4.drew.rangeAt w.heap.size 0 (machL M S) ∧ w4.drew.rangeAt (w.heap.size + 1) 0 (machL N S') := ⟨HY4.out.m.c, HY4.out.n.c⟩
      refine wpAnyG_pure (i := 0) (oi := ⟨some 45, _, _, _, _, none⟩) (v := ?_) rfl (by kernel_rfl) (by kernel_rfl) (by kernel_rfl) (by decide) (fun _ _ _ h => h) (Or.inl ⟨by rfl, ?_⟩) (fun _ => hS) ?_
      rotate_left 1
      focus (intro w hSw; go_simp; try (with_reducible rfl))
      simp only [Act.put, xA, xB, xC]
      refine wpAnyG_pure (i := 1) (oi := ⟨some 46, _, _, _, _, none⟩) (v := ?_) rfl (by kernel_rfl) (by kernel_rfl) (by kernel_rfl) (by decide) (fun _ _ _ h => h) (Or.inl ⟨by rfl, ?_⟩) (fun _ => hS) ?_
      rotate_left 1
      focus (intro w hSw; go_simp; try (with_reducible rfl))
      simp only [Act.put, xA, xB, xC]
      refine wpAnyG_pure (i := 2) (oi := ⟨some 47, _, _, _, _, none⟩) (v := ?_) rfl (by kernel_rfl) (by kernel_rfl) (by kernel_rfl) (by decide) (fun _ _ _ h => h) (Or.inl ⟨by rfl, ?_⟩) (fun _ => hS) ?_
      rotate_left 1
      focus (intro w hSw; go_simp; try (with_reducible rfl))
      simp only [Act.put, xA, xB, xC]
      refine wpAnyG_pure (i := 3) (oi := { dst := some 48, op := _, type := _, pos := _, after := _, guard := some (2, true) }) (v := ?_) rfl (by kernel_rfl) (by kernel_rfl) (by kernel_rfl) (by decide) (fun _ _ _ h => h) (Or.inl ⟨by rfl, ?_⟩) (fun _ => hS) ?_
      rotate_left 1
      focus (intro w hSw; go_simp; try (with_reducible rfl))
      simp only [Act.put, xA, xB, xC]
      refine wpAnyG_pure (i := 4) (oi := { dst := some 49, op := _, type := _, pos := _, after := _, guard := some (2, true) }) (v := ?_) rfl (by kernel_rfl) (by kernel_rfl) (by kernel_rfl) (by decide) (fun _ _ _ h => h) (Or.inl ⟨by rfl, ?_⟩) (fun _ => hS) ?_
      rotate_left 1
      focus (intro w hSw; go_simp; try (with_reducible rfl))
      simp only [Act.put, xA, xB, xC]
      refine wpAnyG_take (i := 6) (oi := { dst := some 51, op := _, type := _, pos := _, after := _, guard := some (2, true) }) (v := .agg (machL M S).toArray) rfl (by kernel_rfl) (by kernel_rfl) (by kernel_rfl) (by kernel_rfl) (by decide) (by kernel_rfl) (fun _ _ _ h => h) (Or.inl ⟨by rfl, fun w' hSw => Sv.exec_load 41 _ rfl (w.heap.size) 0 rfl (machL M S) _ (hSw.1) Try.underlying41 rfl info_mach⟩) hS ?_
      simp only [Act.put, xA, xB, xC]
      refine wpAnyG_take (i := 7) (oi := { dst := some 52, op := _, type := _, pos := _, after := _, guard := some (2, true) }) (v := .agg (machL N S').toArray) rfl (by kernel_rfl) (by kernel_rfl) (by kernel_rfl) (by kernel_rfl) (by decide) (by kernel_rfl) (fun _ _ _ h => h) (Or.inl ⟨by rfl, fun w' hSw => Sv.exec_load 41 _ rfl (w.heap.size + 1) 0 rfl (machL N S') _ (hSw.2) Try.underlying41 rfl info_mach⟩) hS ?_
      simp only [Act.put, xA, xB, xC]
      refine wpAnyG_one (i := 5) (o := { dst := some 50, op := _, type := _, pos := _, after := _, guard := some (2, true) }) (by kernel_rfl) rfl (fun K hK => ?_)
      go_simp
      go_at_call 11
      refine (equal_any _ _ (enc M) (enc N) _ (HV4.out.kept (st0 w4).drew) (HU4.out.kept (st0 w4).drew)).mono ?_
      rintro e w5 ⟨rfl, rfl⟩
      refine hK.out _ _ (fun _ => hS) ?_
      clear hK K
      try simp only [Act.put, xA, xB, xC]
      refine wpAnyG_one (i := 8) (o := { dst := some 53, op := _, type := _, pos := _, after := _, guard := some (2, true) }) (by kernel_rfl) rfl (fun K hK => ?_)
      go_simp
      go_at_call 9
      refine (Bu.same_two M N S S' _ (HY4.out.kept (st0 w4).drew).sm (HY4.out.kept (st0 w4).drew).sn).mono ?_
      rw [HSE.out]
      rintro e w6 ⟨rfl, hb6⟩
      have HY6 := hid ((HY4.out.kept (st0 w4).drew).kept hb6)
      have HV6 := hid ((HV4.out.kept (st0 w4).drew).kept hb6)
      clear hb6
      refine hK.out _ _ (fun h => by simp at h) ?_
      clear hK K
      try simp only [Act.put, xA, xB, xC]
      refine wpAnyG_pure (i := 9) (oi := { dst := some 54, op := _, type := _, pos := _, after := _, guard := some (2, true) }) (v := ?_) rfl (by kernel_rfl) (by kernel_rfl) (by kernel_rfl) (by decide) (fun _ _ _ h => h) (Or.inl ⟨by rfl, ?_⟩) (fun h => by simp at h) ?_
      rotate_left 1
      focus (intro w hSw; go_simp; try (with_reducible rfl))
      simp only [Act.put, xA, xB, xC]
      refine wpAnyG_pure (i := 10) (oi := ⟨some 55, _, _, _, _, none⟩) (v := ?_) rfl (by kernel_rfl) (by kernel_rfl) (by kernel_rfl) (by decide) (fun _ _ _ h => h) (Or.inl ⟨by rfl, ?_⟩) (fun h => by simp at h) ?_
      rotate_left 1
      focus (intro w hSw; go_simp; try (with_reducible rfl))
      simp only [Act.put, xA, xB, xC]
      refine wpAnyG_done (by kernel_rfl) ?_ _
      refine (by assumption : ∀ (a' : Act) (w' : World), Met _ a' w' → _) _ _ ?_
      go_meet
      exact ⟨rfl, rfl, rfl, (by simp), HY6.out, HV6.out⟩
  case rest =>
    obtain ⟨rfl, rfl, rfl, rfl, hTW, hV⟩ := hcut
    have HTW := hid hTW
    have HCW := hid hV
    rcases hV with ⟨a0, c0, e0, _⟩ | ⟨g, oo, cp, e1, e2, e3, e4⟩
    · exfalso
      simp only [Value.slice.injEq] at e0
      omega
    · simp only [Value.slice.injEq] at e1
      obtain ⟨rfl, hh9, rfl⟩ := e1
      clear hh9
      have HG := hid e3
      have HCB := hid e4
      have HCP : Hid (en ≤ vc) := hid (by rw [HEN.out]; exact e2)
      have HAN : Hid (0 < (en : Int) ∧ (en : Int) ≤ 4000) := hid (by have h9 := HLN.out; rw [← HEN.out] at h9; omega)
      have HLE : Hid ((enc M).length ≤ 4000) := hid (by have h9 := HLN.out; omega)
      clear e2 e3 e4 hTW HY0 HY1 HY3 HY4 HV1 HV3 HV4 HU3 HU4 HN HX
      go_upto_region 7 with fail
      go_cut [67, 68, 69] (fun v67 v68 v69 Y => v68 = .int .i64 2 ∧ v69 = .int .i64 0 ∧ ∃ gb p1 p2 l1 l2, v67 = .slice (some ⟨gb, 0, none⟩) 2 2 ∧ Sv.Two w gb p1 p2 l1 l2 Y)
      case first =>
        refine wp_region_held_drew (S := fun _ => True) (by kernel_rfl) trivial ?_
        intro hS
        refine wpAnyH_take (i := 0) (oi := ⟨some 56, _, _, _, _, none⟩) (v := ?_) rfl (by kernel_rfl) (by kernel_rfl) (by kernel_rfl) (fun _ _ _ h => h) (Or.inl ⟨by rfl, ?_⟩) hS ?_
        rotate_left 1
        focus (intro w hSw; (try dsimp only at hSw); go_simp; try (with_reducible rfl))
        simp only [Act.put, xA, xB, xC]
        refine wpAnyH_take (i := 1) (oi := ⟨some 57, _, _, _, _, none⟩) (v := ?_) rfl (by kernel_rfl) (by kernel_rfl) (by kernel_rfl) (fun _ _ _ h => h) (Or.inl ⟨by rfl, ?_⟩) hS ?_
        rotate_left 1
        focus (intro w hSw; (try dsimp only at hSw); go_simp; try (with_reducible rfl))
        simp only [Act.put, xA, xB, xC]
        refine wpAnyH_take (i := 2) (oi := ⟨some 58, _, _, _, _, none⟩) (v := ?_) rfl (by kernel_rfl) (by kernel_rfl) (by kernel_rfl) (fun _ _ _ h => h) (Or.inl ⟨by rfl, ?_⟩) hS ?_
        rotate_left 1
        focus (intro w hSw; (try dsimp only at hSw); go_simp; try (with_reducible rfl))
        simp only [Act.put, xA, xB, xC]
        refine wpAnyH_take (i := 3) (oi := ⟨some 59, _, _, _, _, none⟩) (v := ?_) rfl (by kernel_rfl) (by kernel_rfl) (by kernel_rfl) (fun _ _ _ h => h) (Or.inl ⟨by rfl, ?_⟩) hS ?_
        rotate_left 1
        focus (intro w hSw; (try dsimp only at hSw); go_simp; try (with_reducible rfl))
        simp only [Act.put, xA, xB, xC]
        refine wpAnyH_take (i := 6) (oi := ⟨some 62, _, _, _, _, none⟩) (v := ?_) rfl (by kernel_rfl) (by kernel_rfl) (by kernel_rfl) (fun _ _ _ h => h) (Or.inl ⟨by rfl, ?_⟩) hS ?_
        rotate_left 1
        focus (intro w hSw; (try dsimp only at hSw); go_simp; try (with_reducible rfl))
        simp only [Act.put, xA, xB, xC]
        refine wpAnyH_take (i := 8) (oi := ⟨some 64, _, _, _, _, none⟩) (v := ?_) rfl (by kernel_rfl) (by kernel_rfl) (by kernel_rfl) (fun _ _ _ h => h) (Or.inl ⟨by rfl, ?_⟩) hS ?_
        rotate_left 1
        focus (intro w hSw; (try dsimp only at hSw); go_simp; try (with_reducible rfl))
        simp only [Act.put, xA, xB, xC]
        refine wpAnyH_take (i := 13) (oi := ⟨some 69, _, _, _, _, none⟩) (v := ?_) rfl (by kernel_rfl) (by kernel_rfl) (by kernel_rfl) (fun _ _ _ h => h) (Or.inl ⟨by rfl, ?_⟩) hS ?_
        rotate_left 1
        focus (intro w hSw; (try dsimp only at hSw); go_simp; try (with_reducible rfl))
        simp only [Act.put, xA, xB, xC]
        refine wpAnyH_ready (rs := [4, 9]) (by kernel_rfl) (by simp) ?_
        refine AllReadyH.cons (o := ⟨some 60, _, _, _, _, none⟩) rfl (fun K hK => ?_) (AllReadyH.cons (o := ⟨some 65, _, _, _, _, none⟩) rfl (fun K hK => ?_) AllReadyH.nil)
        · go_simp
          go_at_call 12
          refine (Sv.at cut en _ HAN.out HCU.out).mono ?_
          rintro e wA ⟨r, rfl, hr0, hr1, rfl⟩
          obtain ⟨rn, rfl⟩ := Int.eq_ofNat_of_zero_le hr0
          have hrn : rn < en := by omega
          have hrc : rn ≤ vc := by have := HCP.out; omega
          clear hr0 hr1
          refine hK.out _ _ trivial (fun _ => ?_)
          clear hK K
          try simp only [Act.put, xA, xB, xC]
          refine wpAnyH_take (i := 5) (oi := ⟨some 61, _, _, _, _, none⟩) (v := ?_) rfl (by kernel_rfl) (by kernel_rfl) (by kernel_rfl) (fun _ _ _ h => h) (Or.inl ⟨by rfl, ?_⟩) hS ?_
          rotate_left 1
          focus (intro w hSw; (try dsimp only at hSw); go_simp; try (with_reducible rfl))
          simp only [Act.put, xA, xB, xC]
          refine wpAnyH_ready (rs := [7, 9]) (by kernel_rfl) (by simp) ?_
          refine AllReadyH.cons (o := ⟨some 63, _, _, _, _, none⟩) rfl (fun K hK => ?_) (AllReadyH.cons (o := ⟨some 65, _, _, _, _, none⟩) rfl (fun K hK => ?_) AllReadyH.nil)
          · go_simp
            go_at_call 13
            refine (Sv.clone (.slice (some ⟨g, oo, none⟩) en vc) (enc M) _ (HCW.out.kept (st0 wc).drew) (Nat.le_trans HLE.out (by decide))).mono ?_
            rintro e wC ⟨vC, rfl, hownC, hbC⟩
            obtain ⟨ca, cn, cc, rfl⟩ := sl_form hownC
            refine hK.out _ _ trivial (fun _ => ?_)
            clear hK K
            try simp only [Act.put, xA, xB, xC]
            refine wpAnyH_ready (rs := [9]) (by kernel_rfl) (by simp) ?_
            refine AllReadyH.cons (o := ⟨some 65, _, _, _, _, none⟩) rfl (fun K hK => ?_) AllReadyH.nil
            go_simp
            refine hK.out _ _ trivial (fun _ => ?_)
            clear hK K
            try simp only [Act.put, xA, xB, xC]
            have hsz : wc.drew.heap.size = wc.heap.size := rfl
            have HT1 := hid (own_of_block hownC (w' := wC.alloc (.cells #[.int .u8 more.toNat] 5)) (fun k hk => heap_alloc_old wC _ (hownC.lt k hk).2))
            have HT2 := hid (Sv.slice_byte wC more)
            have HT3 : Hid (g < wc.heap.size ∧ g < (wC.alloc (.cells #[.int .u8 more.toNat] 5)).heap.size ∧ bytesAt (wC.alloc (.cells #[.int .u8 more.toNat] 5)) g oo (enc M)) := hid (by have hk : Below wc.heap.size wc (wC.alloc (.cells #[.int .u8 more.toNat] 5)) := (st0 wc).drew.trans (stA hbC (.cells #[.int .u8 more.toNat] 5)); exact ⟨HG.out, Nat.lt_of_lt_of_le HG.out hk.size, HCB.out.kept hk HG.out⟩)
            have HT4 : Hid (wc.heap.size ≤ (wC.alloc (.cells #[.int .u8 more.toNat] 5)).heap.size) := hid (stA hbC (.cells #[.int .u8 more.toNat] 5)).size
            have HT5 := hid (stp HTW.out.low ((st0 wc).drew.trans (stA hbC (.cells #[.int .u8 more.toNat] 5))))
            have HT6 := hid HTW.out.low.size
            clear hownC hbC
            refine wpAnyH_ready (rs := [10]) (by kernel_rfl) (by simp) ?_
            refine AllReadyH.cons (o := ⟨some 66, _, _, _, _, none⟩) rfl (fun K hK => ?_) AllReadyH.nil
            refine step_appS (by rfl) (.tmp 63) (.tmp 65) (by rfl) wc.heap.size (.slice ca cn cc) (enc M) rfl HT1.out (.slice (some ⟨wC.heap.size, 0, none⟩) 1 1) rfl [more] HT2.out (by have := HLE.out; simp; omega) HT4.out ?_
            intro vD wD hownD hgr hblk
            have hbD := (Below.refl _ _).grown hgr HT4.out (fun k hk => (HT1.out.lt k hk).1)
            obtain ⟨da, dn, dc, rfl⟩ := sl_form hownD
            have HD1 := hid (slice_of_own hownD)
            have hlt9 : ((enc M).take rn).length = rn := by
              have h9 := HEN.out
              rw [List.length_take]
              omega
            have HD2 := hid (Sv.slice_under (n := rn) (cap := vc) (l := (enc M).take rn) hlt9.symm HT3.out.1 HT3.out.2.1 (by rw [hlt9]; exact hrc) (Sv.bytes_take HT3.out.2.2 rn) hbD)
            have HD3 := hid (HT5.out.trans (hbD.mono HT6.out))
            clear hgr hblk hbD hownD hlt9
            refine hK.out _ _ trivial (fun _ => ?_)
            clear hK K
            try simp only [Act.put, xA, xB, xC]
            refine wpAnyH_ready (rs := [11]) (by kernel_rfl) (by simp) ?_
            refine AllReadyH.cons (o := ⟨some 67, _, _, _, _, none⟩) rfl (fun K hK => ?_) AllReadyH.nil
            go_simp
            refine hK.out _ _ trivial (fun _ => ?_)
            clear hK K
            try simp only [Act.put, xA, xB, xC]
            refine wpAnyH_take (i := 12) (oi := ⟨some 68, _, _, _, _, none⟩) (v := ?_) rfl (by kernel_rfl) (by kernel_rfl) (by kernel_rfl) (fun _ _ _ h => h) (Or.inl ⟨by rfl, ?_⟩) hS ?_
            rotate_left 1
            focus (intro w hSw; (try dsimp only at hSw); go_simp; try (with_reducible rfl))
            simp only [Act.put, xA, xB, xC]
            refine wpAnyH_done (by kernel_rfl) ?_ _
            refine (by assumption : ∀ (a' : Act) (w' : World), Met _ a' w' → _) _ _ ?_
            go_meet
            exact ⟨rfl, rfl, wD.heap.size, _, _, (enc M).take rn, enc M ++ [more], rfl, ⟨stA HD3.out _, by simp, Pl.new _ _ _ _ rfl, Pl.new _ _ _ _ rfl, HD2.out.kept (stA (st0 wD) _), HD1.out.kept (stA (st0 wD) _), by rw [List.length_take]; have := HLE.out; omega, by have h9 := HLE.out; rw [List.length_append]; simp only [List.length_cons, List.length_nil]; omega⟩⟩
          · go_simp
            refine hK.out _ _ trivial (fun _ => ?_)
            clear hK K
            try simp only [Act.put, xA, xB, xC]
            refine wpAnyH_ready (rs := [7]) (by kernel_rfl) (by simp) ?_
            refine AllReadyH.cons (o := ⟨some 63, _, _, _, _, none⟩) rfl (fun K hK => ?_) AllReadyH.nil
            go_simp
            go_at_call 13
            refine (Sv.clone (.slice (some ⟨g, oo, none⟩) en vc) (enc M) _ ((HCW.out.kept (stA (st0 wc) (.cells #[.int .u8 more.toNat] 5))).kept (st0 _).drew) (Nat.le_trans HLE.out (by decide))).mono ?_
            rintro e wC ⟨vC, rfl, hownC, hbC⟩
            obtain ⟨ca, cn, cc, rfl⟩ := sl_form hownC
            refine hK.out _ _ trivial (fun _ => ?_)
            clear hK K
            try simp only [Act.put, xA, xB, xC]
            have hk : Below wc.heap.size wc wC := (stA (st0 wc) (.cells #[.int .u8 more.toNat] 5)).drew.trans (hbC.mono (by simp))
            have HT2 := hid (((Sv.slice_byte wc more).kept (st0 _).drew).kept hbC)
            have hsz : (wc.alloc (.cells #[.int .u8 more.toNat] 5)).drew.heap.size = wc.heap.size + 1 := by simp
            have hz9 : wc.heap.size + 1 ≤ wC.heap.size := by have h9 := hbC.size; rw [hsz] at h9; exact h9
            rw [hsz] at hownC
            have HT1 := hid hownC
            have HT3 : Hid (g < wc.heap.size + 1 ∧ g < wC.heap.size ∧ bytesAt wC g oo (enc M)) := hid ⟨Nat.lt_succ_of_lt HG.out, Nat.lt_of_lt_of_le HG.out hk.size, HCB.out.kept hk HG.out⟩
            have HT4 : Hid (wc.heap.size + 1 ≤ wC.heap.size) := hid hz9
            have HT5 := hid (stp HTW.out.low hk)
            have HT6 : Hid (w.heap.size ≤ wc.heap.size + 1) := hid (Nat.le_succ_of_le HTW.out.low.size)
            clear hk hsz hz9
            clear hownC hbC
            refine wpAnyH_ready (rs := [10]) (by kernel_rfl) (by simp) ?_
            refine AllReadyH.cons (o := ⟨some 66, _, _, _, _, none⟩) rfl (fun K hK => ?_) AllReadyH.nil
            refine step_appS (by rfl) (.tmp 63) (.tmp 65) (by rfl) (wc.heap.size + 1) (.slice ca cn cc) (enc M) rfl HT1.out (.slice (some ⟨wc.heap.size, 0, none⟩) 1 1) rfl [more] HT2.out (by have := HLE.out; simp; omega) HT4.out ?_
            intro vD wD hownD hgr hblk
            have hbD := (Below.refl _ _).grown hgr HT4.out (fun k hk => (HT1.out.lt k hk).1)
            obtain ⟨da, dn, dc, rfl⟩ := sl_form hownD
            have HD1 := hid (slice_of_own hownD)
            have hlt9 : ((enc M).take rn).length = rn := by
              have h9 := HEN.out
              rw [List.length_take]
              omega
            have HD2 := hid (Sv.slice_under (n := rn) (cap := vc) (l := (enc M).take rn) hlt9.symm HT3.out.1 HT3.out.2.1 (by rw [hlt9]; exact hrc) (Sv.bytes_take HT3.out.2.2 rn) hbD)
            have HD3 := hid (HT5.out.trans (hbD.mono HT6.out))
            clear hgr hblk hbD hownD hlt9
            refine hK.out _ _ trivial (fun _ => ?_)
            clear hK K
            try simp only [Act.put, xA, xB, xC]
            refine wpAnyH_ready (rs := [11]) (by kernel_rfl) (by simp) ?_
            refine AllReadyH.cons (o := ⟨some 67, _, _, _, _, none⟩) rfl (fun K hK => ?_) AllReadyH.nil
            go_simp
            refine hK.out _ _ trivial (fun _ => ?_)
            clear hK K
            try simp only [Act.put, xA, xB, xC]
            refine wpAnyH_take (i := 12) (oi := ⟨some 68, _, _, _, _, none⟩) (v := ?_) rfl (by kernel_rfl) (by kernel_rfl) (by kernel_rfl) (fun _ _ _ h => h) (Or.inl ⟨by rfl, ?_⟩) hS ?_
            rotate_left 1
            focus (intro w hSw; (try dsimp only at hSw); go_simp; try (with_reducible rfl))
            simp only [Act.put, xA, xB, xC]
            refine wpAnyH_done (by kernel_rfl) ?_ _
            refine (by assumption : ∀ (a' : Act) (w' : World), Met _ a' w' → _) _ _ ?_
            go_meet
            exact ⟨rfl, rfl, wD.heap.size, _, _, (enc M).take rn, enc M ++ [more], rfl, ⟨stA HD3.out _, by simp, Pl.new _ _ _ _ rfl, Pl.new _ _ _ _ rfl, HD2.out.kept (stA (st0 wD) _), HD1.out.kept (stA (st0 wD) _), by rw [List.length_take]; have := HLE.out; omega, by have h9 := HLE.out; rw [List.length_append]; simp only [List.length_cons, List.length_nil]; omega⟩⟩
        · go_simp
          refine hK.out _ _ trivial (fun _ => ?_)
          clear hK K
          try simp only [Act.put, xA, xB, xC]
          refine wpAnyH_ready (rs := [4]) (by kernel_rfl) (by simp) ?_
          refine AllReadyH.cons (o := ⟨some 60, _, _, _, _, none⟩) rfl (fun K hK => ?_) AllReadyH.nil
          go_simp
          go_at_call 12
          refine (Sv.at cut en _ HAN.out HCU.out).mono ?_
          rintro e wA ⟨r, rfl, hr0, hr1, rfl⟩
          obtain ⟨rn, rfl⟩ := Int.eq_ofNat_of_zero_le hr0
          have hrn : rn < en := by omega
          have hrc : rn ≤ vc := by have := HCP.out; omega
          clear hr0 hr1
          refine hK.out _ _ trivial (fun _ => ?_)
          clear hK K
          try simp only [Act.put, xA, xB, xC]
          refine wpAnyH_take (i := 5) (oi := ⟨some 61, _, _, _, _, none⟩) (v := ?_) rfl (by kernel_rfl) (by kernel_rfl) (by kernel_rfl) (fun _ _ _ h => h) (Or.inl ⟨by rfl, ?_⟩) hS ?_
          rotate_left 1
          focus (intro w hSw; (try dsimp only at hSw); go_simp; try (with_reducible rfl))
          simp only [Act.put, xA, xB, xC]
          refine wpAnyH_ready (rs := [7]) (by kernel_rfl) (by simp) ?_
          refine AllReadyH.cons (o := ⟨some 63, _, _, _, _, none⟩) rfl (fun K hK => ?_) AllReadyH.nil
          go_simp
          go_at_call 13
          refine (Sv.clone (.slice (some ⟨g, oo, none⟩) en vc) (enc M) _ ((HCW.out.kept (stA (st0 wc) (.cells #[.int .u8 more.toNat] 5))).kept (st0 _).drew) (Nat.le_trans HLE.out (by decide))).mono ?_
          rintro e wC ⟨vC, rfl, hownC, hbC⟩
          obtain ⟨ca, cn, cc, rfl⟩ := sl_form hownC
          refine hK.out _ _ trivial (fun _ => ?_)
          clear hK K
          try simp only [Act.put, xA, xB, xC]
          have hk : Below wc.heap.size wc wC := (stA (st0 wc) (.cells #[.int .u8 more.toNat] 5)).drew.trans (hbC.mono (by simp))
          have HT2 := hid (((Sv.slice_byte wc more).kept (st0 _).drew).kept hbC)
          have hsz : (wc.alloc (.cells #[.int .u8 more.toNat] 5)).drew.heap.size = wc.heap.size + 1 := by simp
          have hz9 : wc.heap.size + 1 ≤ wC.heap.size := by have h9 := hbC.size; rw [hsz] at h9; exact h9
          rw [hsz] at hownC
          have HT1 := hid hownC
          have HT3 : Hid (g < wc.heap.size + 1 ∧ g < wC.heap.size ∧ bytesAt wC g oo (enc M)) := hid ⟨Nat.lt_succ_of_lt HG.out, Nat.lt_of_lt_of_le HG.out hk.size, HCB.out.kept hk HG.out⟩
          have HT4 : Hid (wc.heap.size + 1 ≤ wC.heap.size) := hid hz9
          have HT5 := hid (stp HTW.out.low hk)
          have HT6 : Hid (w.heap.size ≤ wc.heap.size + 1) := hid (Nat.le_succ_of_le HTW.out.low.size)
          clear hk hsz hz9
          clear hownC hbC
          refine wpAnyH_ready (rs := [10]) (by kernel_rfl) (by simp) ?_
          refine AllReadyH.cons (o := ⟨some 66, _, _, _, _, none⟩) rfl (fun K hK => ?_) AllReadyH.nil
          refine step_appS (by rfl) (.tmp 63) (.tmp 65) (by rfl) (wc.heap.size + 1) (.slice ca cn cc) (enc M) rfl HT1.out (.slice (some ⟨wc.heap.size, 0, none⟩) 1 1) rfl [more] HT2.out (by have := HLE.out; simp; omega) HT4.out ?_
          intro vD wD hownD hgr hblk
          have hbD := (Below.refl _ _).grown hgr HT4.out (fun k hk => (HT1.out.lt k hk).1)
          obtain ⟨da, dn, dc, rfl⟩ := sl_form hownD
          have HD1 := hid (slice_of_own hownD)
          have hlt9 : ((enc M).take rn).length = rn := by
            have h9 := HEN.out
            rw [List.length_take]
            omega
          have HD2 := hid (Sv.slice_under (n := rn) (cap := vc) (l := (enc M).take rn) hlt9.symm HT3.out.1 HT3.out.2.1 (by rw [hlt9]; exact hrc) (Sv.bytes_take HT3.out.2.2 rn) hbD)
          have HD3 := hid (HT5.out.trans (hbD.mono HT6.out))
          clear hgr hblk hbD hownD hlt9
          refine hK.out _ _ trivial (fun _ => ?_)
          clear hK K
          try simp only [Act.put, xA, xB, xC]
          refine wpAnyH_ready (rs := [11]) (by kernel_rfl) (by simp) ?_
          refine AllReadyH.cons (o := ⟨some 67, _, _, _, _, none⟩) rfl (fun K hK => ?_) AllReadyH.nil
          go_simp
          refine hK.out _ _ trivial (fun _ => ?_)
          clear hK K
          try simp only [Act.put, xA, xB, xC]
          refine wpAnyH_take (i := 12) (oi := ⟨some 68, _, _, _, _, none⟩) (v := ?_) rfl (by kernel_rfl) (by kernel_rfl) (by kernel_rfl) (fun _ _ _ h => h) (Or.inl ⟨by rfl, ?_⟩) hS ?_
          rotate_left 1
          focus (intro w hSw; (try dsimp only at hSw); go_simp; try (with_reducible rfl))
          simp only [Act.put, xA, xB, xC]
          refine wpAnyH_done (by kernel_rfl) ?_ _
          refine (by assumption : ∀ (a' : Act) (w' : World), Met _ a' w' → _) _ _ ?_
          go_meet
          exact ⟨rfl, rfl, wD.heap.size, _, _, (enc M).take rn, enc M ++ [more], rfl, ⟨stA HD3.out _, by simp, Pl.new _ _ _ _ rfl, Pl.new _ _ _ _ rfl, HD2.out.kept (stA (st0 wD) _), HD1.out.kept (stA (st0 wD) _), by rw [List.length_take]; have := HLE.out; omega, by have h9 := HLE.out; rw [List.length_append]; simp only [List.length_cons, List.length_nil]; omega⟩⟩
      case rest =>
        obtain ⟨rfl, rfl, gb, p1, p2, l1, l2, rfl, hT0⟩ := hcut
        have HT0 := hid hT0
        clear hT0
        go_wp2_with fail
        go_loopw [69] (fun i wr => ∃ j : Nat, j ≤ 2 ∧ i = .int .i64 j ∧ Sv.Two w gb p1 p2 l1 l2 wr) (fun i _ => 2 - (intOf i).toNat)
        case atStart => exact ⟨0, by omega, rfl, HT0.out⟩
        case round =>
          obtain ⟨j, hj, rfl, hT⟩ := hrel
          have HTT := hid hT
          have x0 := hT.c0
          have x1 := hT.c1
          have xz := hT.z
          clear hT
          have hjc : j = 0 ∨ j = 1 ∨ j = 2 := by omega
          rcases hjc with rfl | rfl | rfl
          · rcases Sv.of_any p1 l1 (by have := HTT.out.n1; omega) with ⟨X, hx1, hx2, hx3⟩ | hof
            · have HXO := hid hx1
              have HXC := hid hx2
              have HXE := hid hx3
              clear hx1 hx2 hx3
              obtain ⟨pa, pc, ep⟩ := slice_len HTT.out.s1
              subst ep
              go_wp2_with (first
                | (go_at_call 5; refine (Sv.bytes_ok X SX _ HXf.out.sl HXO.out HXC.out).mono ?_; rintro e w8 ⟨kv, rfl, hk8, hb8⟩; obtain ⟨ka, kc, ek⟩ := slice_len (slice_of_own hk8); subst ek; have HK8 := hid (slice_of_own hk8); have HY8 := hid (HYf.out.kept hb8); obtain ⟨kn, hkn⟩ : ∃ kn, kn = (enc X).length := ⟨_, rfl⟩; have HKN := hid hkn; rw [← hkn]; clear hk8 hb8 hkn)
                | (go_at_call 11; refine (equal_any _ _ (enc X) l1 _ (HKN.out ▸ HK8.out) HY8.out.s1).mono ?_; rw [HXE.out]; rintro e w9 ⟨rfl, rfl⟩)
                | (refine wpList_load_mid rfl 41 _ rfl wx.heap.size 0 rfl (machL X SX) _ HXf.out.bx.c Try.underlying41 rfl info_mach ?_)
                | (refine wpList_store_mid rfl 41 _ _ rfl wx.heap.size 0 (machL X SX).toArray rfl rfl (MS.th wx _) info_mach (machL_one _ _ HSX.out.isSl2) ?_; refine Pl.cutL (fun V => Sv.Two w gb (.slice pa l1.length pc) p2 l1 l2 V ∧ MS w wx.heap.size X SX V) ⟨HY2.out.kept (MS.mk0 HY2.out.low HSX.out _).1, (MS.mk0 HY2.out.low HSX.out _).2⟩ ?_; rintro Y3 ⟨q1, q2⟩; have HYf := hid q1; have HXf := hid q2; clear q1 q2)
                | (go_at_call 6; refine (Sv.of_enc _ X _ (HXE.out ▸ HTT.out.s1) HXO.out HXC.out).mono ?_; rintro e wx ⟨SX, rfl, hsx, hb2⟩; have HSX := hid hsx.at; have HY2 := hid (HTT.out.kept hb2); clear hsx hb2))
              exact ⟨⟨0 + 1, by omega, rfl, HY8.out⟩, by simp [intOf]⟩
            · have HOF := hid hof
              clear hof
              obtain ⟨pa, pc, ep⟩ := slice_len HTT.out.s1
              subst ep
              go_wp2_with (first
                | (refine wpList_store_mid rfl 41 _ _ rfl wx.heap.size 0 (machL zeroM nilS).toArray rfl rfl (MS.th wx _) info_mach (machL_one _ _ zero_sl) ?_; refine Pl.cutL (fun V => Sv.Two w gb (.slice pa l1.length pc) p2 l1 l2 V) (HY2.out.kept (MS.mk0 HY2.out.low (zero_slat _) _).1) ?_; rintro Y3 q1; have HY3 := hid q1; clear q1)
                | (go_at_call 6; refine (HOF.out _ HTT.out.s1).mono ?_; rintro e wx ⟨rfl, hb2⟩; have HY2 := hid (HTT.out.kept hb2); clear hb2))
              exact ⟨⟨0 + 1, by omega, rfl, HY3.out⟩, by simp [intOf]⟩
          · rcases Sv.of_any p2 l2 (by have := HTT.out.n2; omega) with ⟨X, hx1, hx2, hx3⟩ | hof
            · have HXO := hid hx1
              have HXC := hid hx2
              have HXE := hid hx3
              clear hx1 hx2 hx3
              obtain ⟨pa, pc, ep⟩ := slice_len HTT.out.s2
              subst ep
              go_wp2_with (first
                | (go_at_call 5; refine (Sv.bytes_ok X SX _ HXf.out.sl HXO.out HXC.out).mono ?_; rintro e w8 ⟨kv, rfl, hk8, hb8⟩; obtain ⟨ka, kc, ek⟩ := slice_len (slice_of_own hk8); subst ek; have HK8 := hid (slice_of_own hk8); have HY8 := hid (HYf.out.kept hb8); obtain ⟨kn, hkn⟩ : ∃ kn, kn = (enc X).length := ⟨_, rfl⟩; have HKN := hid hkn; rw [← hkn]; clear hk8 hb8 hkn)
                | (go_at_call 11; refine (equal_any _ _ (enc X) l2 _ (HKN.out ▸ HK8.out) HY8.out.s2).mono ?_; rw [HXE.out]; rintro e w9 ⟨rfl, rfl⟩)
                | (refine wpList_load_mid rfl 41 _ rfl wx.heap.size 0 rfl (machL X SX) _ HXf.out.bx.c Try.underlying41 rfl info_mach ?_)
                | (refine wpList_store_mid rfl 41 _ _ rfl wx.heap.size 0 (machL X SX).toArray rfl rfl (MS.th wx _) info_mach (machL_one _ _ HSX.out.isSl2) ?_; refine Pl.cutL (fun V => Sv.Two w gb p1 (.slice pa l2.length pc) l1 l2 V ∧ MS w wx.heap.size X SX V) ⟨HY2.out.kept (MS.mk0 HY2.out.low HSX.out _).1, (MS.mk0 HY2.out.low HSX.out _).2⟩ ?_; rintro Y3 ⟨q1, q2⟩; have HYf := hid q1; have HXf := hid q2; clear q1 q2)
                | (go_at_call 6; refine (Sv.of_enc _ X _ (HXE.out ▸ HTT.out.s2) HXO.out HXC.out).mono ?_; rintro e wx ⟨SX, rfl, hsx, hb2⟩; have HSX := hid hsx.at; have HY2 := hid (HTT.out.kept hb2); clear hsx hb2))
              exact ⟨⟨1 + 1, by omega, rfl, HY8.out⟩, by simp [intOf]⟩
            · have HOF := hid hof
              clear hof
              obtain ⟨pa, pc, ep⟩ := slice_len HTT.out.s2
              subst ep
              go_wp2_with (first
                | (refine wpList_store_mid rfl 41 _ _ rfl wx.heap.size 0 (machL zeroM nilS).toArray rfl rfl (MS.th wx _) info_mach (machL_one _ _ zero_sl) ?_; refine Pl.cutL (fun V => Sv.Two w gb p1 (.slice pa l2.length pc) l1 l2 V) (HY2.out.kept (MS.mk0 HY2.out.low (zero_slat _) _).1) ?_; rintro Y3 q1; have HY3 := hid q1; clear q1)
                | (go_at_call 6; refine (HOF.out _ HTT.out.s2).mono ?_; rintro e wx ⟨rfl, hb2⟩; have HY2 := hid (HTT.out.kept hb2); clear hb2))
              exact ⟨⟨1 + 1, by omega, rfl, HY3.out⟩, by simp [intOf]⟩
          · go_wp2
            go_ret
            exact ⟨rfl, HTT.out.low⟩
end Go.Proofs.Ytdioiilmpjckfaa
