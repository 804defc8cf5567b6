/-
  For every machine, every address and every byte the law BusGranted of the program returns true and leaves its arguments as they were; no condition.
-/
import Derived.Test.YthidfdebmjmopaaZbD
import Derived.Test.YthidfdebmjmopaaZbS
import Derived.Test.YthidfdebmjmopaaZbN
import Derived.Laws.BitsAllLaws
import Derived.Test.YthidfdebmjmopaaBusGrantedFrame
namespace Go.Proofs.Ythidfdebmjmopaa
open Go.ChangeShapes Go.WideShapes Go.ChangeAt Go.RowKit
set_option linter.unusedVariables false
set_option maxRecDepth 100000

def Mach.bare (M : Mach) : Mach := { M with granted := false }
theorem bare_chk (M : Mach) : M.bare.chk = M.chk := rfl
theorem bare_cells (M : Mach) (S : Sl) : (machL M S).set 67 (.bool false) = machL M.bare S := rfl
set_option maxHeartbeats 1600000 in
theorem Bu.granted_bad (M : Mach) (S : Sl) (w : World) (a n : Int) (hS : S.lens M) (hz : ∀ j, j < 5 → (M.byt j).length ≤ 9223372036854775807) (hc : M.chk ≠ 0) :
    Calls Try.prog 5 #[.agg (machL M S).toArray, .int .u16 a, .int .u8 n] w fun e w' => e = .returned (.bool true) ∧ Below w.heap.size w w' := by
  have hB := Bx.new w (machL M S) 41 (b := w.heap.size) rfl
  have x67 := hB.at 67 (.bool M.granted) rfl
  have HSL : Hid (S.lens M.bare) := hid hS
  have HZ : Hid (∀ j, j < 5 → (M.bare.byt j).length ≤ 9223372036854775807) := hid hz
  have HCN : Hid (M.bare.chk ≠ 0) := hid hc
  have hne : (M.bare.chk != 0) = true := by simpa using HCN.out
  clear hS hz hc hB
  generalize hcc : M.bare.chk = c at hne
  have HCC := hid hcc
  clear hcc
  go_enter Try.func5, Try.ntmps5
  go_upto_region 2 with fail
  rw [bare_cells]
  refine Pl.cutW (fun X => Below w.heap.size w X ∧ Bx X w.heap.size (machL M.bare S)) ⟨stA (st0 w) _, Bx.new w _ _ rfl⟩ ?_
  rintro Y ⟨hY1, hY2⟩
  have HL := hid hY1
  have HB := hid hY2
  clear hY1 hY2 x67
  go_wp2_with (first
    | (refine wpList_load_mid rfl 41 _ rfl w.heap.size 0 rfl (machL M.bare S) _ HB.out.c Try.underlying41 rfl info_mach ?_)
    | (go_at_call 17; refine (Bu.write_bad M.bare S true _ _ _ HSL.out HZ.out HCN.out).mono ?_; rw [HCC.out]; rintro e w1 ⟨rfl, hb1⟩; have HL1 := hid (stp HL.out hb1); clear hb1)
    | (go_at_call 9; refine (Bu.bussed_any _).mono ?_; rintro e w3 ⟨rfl, hb3⟩; have HL3 := hid (stp HL2.out hb3); clear hb3)
    | (go_at_call 9; refine (Bu.bussed_any _).mono ?_; rintro e w2 ⟨rfl, hb2⟩; have HL2 := hid (stp HX.out hb2); clear hb2)
    | (refine wpList_store_mid rfl 41 _ _ rfl w1.heap.size 0 (machL zeroM nilS).toArray rfl rfl (zero_th w1 _) info_mach (machL_one _ _ zero_sl) ?_
       refine Pl.cutL (fun X => Below w.heap.size w X) (Bl.puts (stA HL1.out _) HL1.out.size _) ?_
       intro X hX
       have HX := hid hX
       clear hX))
  go_ret
  exact ⟨rfl, HL3.out⟩
theorem gr_at {a : Int} (ha : 0 ≤ a ∧ a ≤ 65535) : ∃ c, bits .or .u16 49152 (bits .and .u16 a 4095) = c ∧ 49152 ≤ c ∧ c ≤ 53247 := by
  obtain ⟨N, rfl⟩ := Int.eq_ofNat_of_zero_le ha.1
  refine ⟨_, rfl, ?_⟩
  have hx : N &&& 4095 < 2 ^ 12 := Nat.lt_of_le_of_lt Nat.and_le_right (by decide)
  have h0 : (12 <<< 12 : Nat) = 49152 := by decide
  have h1 := Nat.shiftLeft_add_eq_or_of_lt hx 12
  rw [h0] at h1
  have h2 := u16_and_nat N 4095 (by omega) (by omega)
  have h3 := u16_or_nat 49152 (N &&& 4095) (by omega) (by omega)
  have h4 : bits .or .u16 49152 (bits .and .u16 (N : Int) 4095) = ((49152 ||| (N &&& 4095) : Nat) : Int) := (congrArg (bits .or .u16 49152) h2).trans h3
  rw [h4, ← h1]
  omega
theorem neq_of_eql {P : Program} {w : World} {t : TypeId} {xs ys : Array Value} (h : (binOp .eql t (.agg xs) (.agg ys)).run P w = .ok (.bool true) w) : (binOp .neq t (.agg xs) (.agg ys)).run P w = .ok (.bool false) w := by
  rw [run_eql_struct] at h
  rw [run_neq_struct]
  cases hr : (Op.equalIn 10000 t (.agg xs) (.agg ys)).run P w <;> rw [hr] at h <;> simp_all [Result.andThen]
theorem bare_fit {M : Mach} (h : M.fit) : M.bare.fit := { h with main := h.main }
/-- Two machines in two boxes. -/
def TB (w : World) (b b' : Nat) (M M' : Mach) (S S' : Sl) (Y : World) : Prop := MB w b M S Y ∧ MB w b' M' S' Y
set_option maxHeartbeats 1600000 in
theorem Bu.granted_ok (M : Mach) (S : Sl) (w : World) (a n : Int) (ha : 0 ≤ a ∧ a ≤ 65535) (hn : 0 ≤ n ∧ n ≤ 255) (hs : SlAt w S M) (hf : M.fit) :
    Calls Try.prog 5 #[.agg (machL M S).toArray, .int .u16 a, .int .u8 n] w fun e w' => e = .returned (.bool true) ∧ Below w.heap.size w w' := by
  have hB := Bx.new w (machL M S) 41 (b := w.heap.size) rfl
  have x67 := hB.at 67 (.bool M.granted) rfl
  have HM0 : Hid (MB w w.heap.size M.bare S (w.alloc (.cells (machL M.bare S).toArray 41))) := hid ⟨stA (st0 w) _, Bx.new w _ _ rfl, hs.kept (stA (st0 w) _), bare_fit hf, Nat.le_refl _⟩
  have hg : M.bare.granted = false := rfl
  obtain ⟨g1, g2, g3, g4⟩ := Gr.wr hg a n
  have hw := fun S w hs hf => Bu.write_a M.bare S w a n ha hn hs hf
  have hq := fun (S : Sl) (w : World) (c : Int) (hc : 49152 ≤ c ∧ c ≤ 53247) hs hf => Bu.read_a M.bare S w c (by omega) hs hf
  have hr := fun (c : Int) (hc : 49152 ≤ c ∧ c ≤ 53247) => Gr.rd hg hc
  generalize M.bare.wrA a n = M1 at hw g1 g2 g3 g4
  have HW := hid hw
  have HQ := hid hq
  have HR := hid hr
  clear hs hf hw hq hr hB hg
  go_enter Try.func5, Try.ntmps5
  go_upto_region 2 with fail
  rw [bare_cells]
  generalize M.bare = M0 at *
  refine Pl.cutW (MB w w.heap.size M0 S) HM0.out ?_
  intro Y hY
  have HY := hid hY
  clear hY x67 HM0
  go_upto_region 5 with (first
    | (refine wpList_load_mid rfl 41 _ rfl w.heap.size 0 rfl (machL M0 S) _ HY.out.bx.c Try.underlying41 rfl info_mach ?_)
    | (go_at_call 17; refine (HW.out S _ HY.out.sl HY.out.fit).mono ?_; rintro e w1 ⟨S1, rfl, hs1, hf1, hn1, hb1⟩; have HY1 := hid (HY.out.kept hb1); have HS1 := hid hs1; have HF1 := hid hf1; clear hs1 hf1 hn1 hb1)
    | (go_at_call 9; refine (Bu.bussed_any _).mono ?_; rintro e w2 ⟨rfl, hb2⟩; have HX2 : Hid (TB w w.heap.size w1.heap.size M0 M1 S S1 w2) := hid ⟨HX.out.1.kept hb2, HX.out.2.kept hb2⟩; clear hb2)
    | (refine wpList_store_mid rfl 41 _ _ rfl w1.heap.size 0 (machL M1 S1).toArray rfl rfl (zero_th w1 _) info_mach (machL_one _ _ HS1.out.isSl) ?_
       refine Pl.cutL (TB w w.heap.size w1.heap.size M0 M1 S S1) ⟨HY1.out.kept (Bl.puts (stA (st0 w1) _) (Nat.le_refl _) _), MB.mk0 (n := 0) HY1.out.low HS1.out HF1.out _⟩ ?_
       intro X hX
       have HX := hid hX
       clear hX))
  have HG := hid (And.intro g1 (And.intro g2 (And.intro g3 g4)))
  have hT := HX2.out
  obtain ⟨u0, c0, e0⟩ := hT.1.sl.lens 2 (by omega)
  obtain ⟨u1, c1, e1⟩ := hT.1.sl.lens 4 (by omega)
  obtain ⟨v0, d0, f0⟩ := hT.2.sl.lens 2 (by omega)
  obtain ⟨v1, d1, f1⟩ := hT.2.sl.lens 4 (by omega)
  have x0 := hT.1.bx.at 32 (S.get 2) rfl
  have x1 := hT.1.bx.at 34 (S.get 4) rfl
  have y0 := hT.2.bx.at 32 (S1.get 2) rfl
  have y1 := hT.2.bx.at 34 (S1.get 4) rfl
  have k0 := hT.1.sl 2 (by omega)
  have k1 := hT.1.sl 4 (by omega)
  have l0 := hT.2.sl 2 (by omega)
  have l1 := hT.2.sl 4 (by omega)
  have m0 : M1.byt 2 = M0.byt 2 := g1
  have m1 : M1.byt 4 = M0.byt 4 := g2
  rw [e0] at x0 k0
  rw [e1] at x1 k1
  rw [f0] at y0 l0
  rw [f1] at y1 l1
  rw [m0] at y0 l0
  rw [m1] at y1 l1
  have p41 := hT.1.bx.at 41 (.int .u16 M0.t.r) rfl
  have p42 := hT.1.bx.at 42 (.int .u16 M0.t.c) rfl
  have p43 := hT.1.bx.at 43 (.bool M0.t.on) rfl
  have p44 := hT.1.bx.at 44 (.bool M0.t.g) rfl
  have r41 := hT.2.bx.at 41 (.int .u16 M1.t.r) rfl
  have r42 := hT.2.bx.at 42 (.int .u16 M1.t.c) rfl
  have r43 := hT.2.bx.at 43 (.bool M1.t.on) rfl
  have r44 := hT.2.bx.at 44 (.bool M1.t.g) rfl
  have n1 := hT.1.bx.mainR
  have n2 := hT.2.bx.mainR
  rw [g3] at n2
  rw [g4] at r41 r42 r43 r44
  have q1 := fun W => neq_of_eql (Bu.eq_cpuL M0.main W)
  have q4 := fun W => neq_of_eql (Bu.eq_timer M0.t.r M0.t.c M0.t.on M0.t.g W)
  have hz := hT.1.bx.z
  have hz1 := hT.2.bx.z
  have K0 := hid k0
  have K1 := hid k1
  have L0 := hid l0
  have L1 := hid l1
  have N1 := hid n1
  have N2 := hid n2
  clear hT g1 g2 g3 g4 e0 e1 f0 f1 m0 m1 k0 k1 l0 l1 n1 n2
  go_upto_region 7 with (first
    | (go_at_call 20; refine (equal_any _ _ (M0.byt 2) (M0.byt 2) _ L0.out K0.out).mono ?_; rw [beq_self_eq_true]; rintro e w1 ⟨rfl, rfl⟩)
    | (go_at_call 20; refine (equal_any _ _ (M0.byt 4) (M0.byt 4) _ L1.out K1.out).mono ?_; rw [beq_self_eq_true]; rintro e w1 ⟨rfl, rfl⟩)
    | (refine Bu.loadG rfl 26 _ rfl w.heap.size 0 rfl (cpuL M0.main) _ N1.out Try.underlying26 rfl info_cpu ?_)
    | (refine Bu.loadG rfl 26 _ rfl w1.heap.size 0 rfl (cpuL M0.main) _ N2.out Try.underlying26 rfl info_cpu ?_))
  clear q1 q4 p41 p42 p43 p44 r41 r42 r43 r44 x0 x1 y0 y1 hz hz1 K0 K1 L0 L1 N1 N2 HG
  obtain ⟨c, ec, hc⟩ := gr_at ha
  have HC := hid hc
  clear hc
  go_wp2_with (first
    | (refine wpList_load_mid rfl 41 _ rfl w.heap.size 0 rfl (machL M0 S) _ HX2.out.1.bx.c Try.underlying41 rfl info_mach ?_)
    | (refine Bu.loadG rfl 41 _ rfl w3.heap.size 0 rfl (machL M0 S3) _ HZ.out.2.bx.c Try.underlying41 rfl info_mach ?_)
    | (refine Bu.loadG rfl 41 _ rfl w.heap.size 0 rfl (machL M0 S) _ HZ.out.1.bx.c Try.underlying41 rfl info_mach ?_)
    | (go_at_call 16; refine (HQ.out S _ c HC.out HX2.out.1.sl HX2.out.1.fit).mono ?_; rw [HR.out c HC.out]; rintro e w3 ⟨S3, rfl, hs3, hf3, hn3, hb3⟩; have HX3 := hid (HX2.out.1.kept hb3); have HS3 := hid hs3; have HF3 := hid hf3; clear hs3 hf3 hn3 hb3)
    | (go_at_call 13; refine (Bu.same_any M0 S3 S _ HZ.out.2.sl HZ.out.1.sl).mono ?_; rintro e w4 ⟨rfl, hb4⟩; have HL4 := hid (stp HZ.out.1.low hb4); clear hb4)
    | (refine wpList_store_mid rfl 41 _ _ rfl w3.heap.size 0 (machL M0 S3).toArray rfl rfl (zero_th w3 _) info_mach (machL_one _ _ HS3.out.isSl) ?_
       refine Pl.cutL (TB w w.heap.size w3.heap.size M0 M0 S S3) ⟨HX3.out.kept (Bl.puts (stA (st0 w3) _) (Nat.le_refl _) _), MB.mk0 (n := 0) HX3.out.low HS3.out HF3.out _⟩ ?_
       intro Z hZ
       have HZ := hid hZ
       clear hZ))
  go_ret
  exact ⟨rfl, HL4.out⟩
theorem busGranted_walk : BusGrantedWalk := by
  intro H enc W base v0 v1 v2 d0 d1 d2 p0 p1 p2 k0 t0 k1 t1 k2 t2
  obtain ⟨M, S, rfl, hok, hs, hz⟩ := open_mach k0 t0
  obtain ⟨a, rfl, _, _, wa⟩ := open_int Try.underlying23 k1 t1
  obtain ⟨n, rfl, _, _, wn⟩ := open_int Try.underlying5 k2 t2
  have ha := bounds_u16 wa
  have hn := bounds_u8 wn
  by_cases hc : M.chk = 0
  · exact Bu.granted_ok M S W a n ha hn hs (chk_fit hok hc)
  · exact Bu.granted_bad M S W a n hs.lens hz hc
theorem busGranted_holds : Rows.BusGrantedSaid := busGranted_row busGranted_walk
end Go.Proofs.Ythidfdebmjmopaa
