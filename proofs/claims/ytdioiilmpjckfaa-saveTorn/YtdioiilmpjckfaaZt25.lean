/-
  Parts of a proof, joined.
-/
import Derived.Test.YtdioiilmpjckfaaZt10
import Derived.Test.YtdioiilmpjckfaaZt11
import Derived.Test.YtdioiilmpjckfaaZt24
namespace Go.Proofs.Ytdioiilmpjckfaa
open Go.ChangeShapes Go.WideShapes Go.ChangeAt Go.RowKit
set_option linter.unusedVariables false
set_option maxRecDepth 100000
structure SN (w : World) (M N : Mach) (S1 S2 : Sl) (Y : World) : Prop where
  low : Below w.heap.size w Y
  a : Bx Y w.heap.size (machL M S1)
  b : Bx Y (w.heap.size + 1) (machL N S2)
  l : Bx Y (w.heap.size + 2) (five2 S1 S2)
theorem SN.kept {w Y Y' : World} {M N : Mach} {S1 S2 : Sl} (h : SN w M N S1 S2 Y) (hb : Below Y.heap.size Y Y') : SN w M N S1 S2 Y' := ⟨stp h.low hb, h.a.kept hb, h.b.kept hb, h.l.kept hb⟩
theorem SN.start (w : World) (M N : Mach) (S1 S2 : Sl) (o1 o2 o3 : TypeId) : SN w M N S1 S2 (((w.alloc (.cells (machL M S1).toArray o1)).alloc (.cells (machL N S2).toArray o2)).alloc (.cells (five2 S1 S2).toArray o3)) :=
  ⟨stA (stA (stA (st0 w) _) _) _, ((Bx.new w (machL M S1) o1 rfl).over _).over _, (Bx.new (w.alloc _) (machL N S2) o2 (by simp)).over _, Bx.new _ (five2 S1 S2) o3 (by simp)⟩
def Sq.c_main (M N : Mach) : Bool := (((M.main.r 0 == N.main.r 0) && ((M.main.r 1 == N.main.r 1) && ((M.main.r 2 == N.main.r 2) && ((M.main.r 3 == N.main.r 3) && ((M.main.r 4 == N.main.r 4) && ((M.main.r 5 == N.main.r 5) && ((M.main.r 6 == N.main.r 6) && (M.main.r 7 == N.main.r 7)))))))) && ((M.main.PC == N.main.PC) && ((M.main.Z == N.main.Z) && ((M.main.N == N.main.N) && ((M.main.C == N.main.C) && ((M.main.V == N.main.V) && ((M.main.May == N.main.May) && (M.main.Waits == N.main.Waits))))))))
def Sq.c_aux (M N : Mach) : Bool := (((M.aux.r 0 == N.aux.r 0) && ((M.aux.r 1 == N.aux.r 1) && ((M.aux.r 2 == N.aux.r 2) && ((M.aux.r 3 == N.aux.r 3) && ((M.aux.r 4 == N.aux.r 4) && ((M.aux.r 5 == N.aux.r 5) && ((M.aux.r 6 == N.aux.r 6) && (M.aux.r 7 == N.aux.r 7)))))))) && ((M.aux.PC == N.aux.PC) && ((M.aux.Z == N.aux.Z) && ((M.aux.N == N.aux.N) && ((M.aux.C == N.aux.C) && ((M.aux.V == N.aux.V) && ((M.aux.May == N.aux.May) && (M.aux.Waits == N.aux.Waits))))))))
def Sq.c_pads (M N : Mach) : Bool := (((M.p0.d == N.p0.d) && ((M.p0.l == N.p0.l) && (M.p0.s == N.p0.s))) && ((M.p1.d == N.p1.d) && ((M.p1.l == N.p1.l) && (M.p1.s == N.p1.s))))
def Sq.c_t (M N : Mach) : Bool := ((M.t.r == N.t.r) && ((M.t.c == N.t.c) && ((M.t.on == N.t.on) && (M.t.g == N.t.g))))
def Sq.c_s (M N : Mach) : Bool := ((((M.s.a.p == N.s.a.p) && ((M.s.a.c == N.s.a.c) && ((M.s.a.l == N.s.a.l) && ((M.s.a.h == N.s.a.h) && (M.s.a.n == N.s.a.n))))) && (((M.s.b.p == N.s.b.p) && ((M.s.b.c == N.s.b.c) && ((M.s.b.l == N.s.b.l) && ((M.s.b.h == N.s.b.h) && (M.s.b.n == N.s.b.n))))) && ((M.s.c.p == N.s.c.p) && ((M.s.c.c == N.s.c.c) && ((M.s.c.l == N.s.c.l) && ((M.s.c.h == N.s.c.h) && (M.s.c.n == N.s.c.n))))))) && (M.s.w == N.s.w))
def Sq.c_b (M N : Mach) : Bool := ((M.b.l == N.b.l) && ((M.b.a == N.b.a) && ((M.b.g == N.b.g) && (M.b.f == N.b.f))))
def Sq.c_fr (M N : Mach) : Bool := (M.fr == N.fr)
def Sq.c_to (M N : Mach) : Bool := (M.to == N.to)
def Sq.c_granted (M N : Mach) : Bool := (M.granted == N.granted)
def Sq.c_held (M N : Mach) : Bool := (M.held == N.held)
def Sq.c_mail (M N : Mach) : Bool := ((M.m0 == N.m0) && (M.m1 == N.m1))
def Sq.c_rung (M N : Mach) : Bool := (M.rung == N.rung)
def Sq.c_clock (M N : Mach) : Bool := (M.clock == N.clock)
def Sq.c_mready (M N : Mach) : Bool := (M.mready == N.mready)
def Sq.c_aready (M N : Mach) : Bool := (M.aready == N.aready)
def Sq.rest (M N : Mach) : Bool := (Sq.c_main M N && (Sq.c_aux M N && (Sq.c_pads M N && (Sq.c_t M N && (Sq.c_s M N && (Sq.c_b M N && (Sq.c_fr M N && (Sq.c_to M N && (Sq.c_granted M N && (Sq.c_held M N && (Sq.c_mail M N && (Sq.c_rung M N && (Sq.c_clock M N && (Sq.c_mready M N && Sq.c_aready M N))))))))))))))
def Sq.byts (M N : Mach) : Bool := ((M.mrom == N.mrom) && ((M.arom == N.arom) && ((M.ram == N.ram) && ((M.own == N.own) && (M.video == N.video)))))
theorem Sq.byts_iff (M N : Mach) : Sq.byts M N = true ↔ ∀ j, j < 5 → M.byt j = N.byt j := by
  unfold Sq.byts
  simp only [Bool.and_eq_true, beq_iff_eq]
  constructor
  · rintro ⟨h0, h1, h2, h3, h4⟩ j hj
    rcases five hj with rfl | rfl | rfl | rfl | rfl <;> assumption
  · intro h
    exact ⟨h 0 (by omega), h 1 (by omega), h 2 (by omega), h 3 (by omega), h 4 (by omega)⟩
def Sq.same (M N : Mach) : Bool := Sq.byts M N && Sq.rest M N
set_option maxHeartbeats 6400000 in
theorem Bu.same_two (M N : Mach) (S1 S2 : Sl) (w : World) (h1 : SlAt w S1 M) (h2 : SlAt w S2 N) :
    Calls Try.prog 9 #[.agg (machL M S1).toArray, .agg (machL N S2).toArray] w fun e w' => e = .returned (.bool (Sq.same M N)) ∧ Below w.heap.size w w' := by
  have hA := (Bx.new w (machL M S1) 41 (b := w.heap.size) rfl).over (.cells (machL N S2).toArray 41)
  have hB := Bx.new (w.alloc (.cells (machL M S1).toArray 41)) (machL N S2) 41 (b := w.heap.size + 1) (by simp)
  obtain ⟨a0, c0, e0⟩ := h1.lens 0 (by omega)
  obtain ⟨a1, c1, e1⟩ := h1.lens 1 (by omega)
  obtain ⟨a2, c2, e2⟩ := h1.lens 2 (by omega)
  obtain ⟨a3, c3, e3⟩ := h1.lens 3 (by omega)
  obtain ⟨a4, c4, e4⟩ := h1.lens 4 (by omega)
  obtain ⟨b0, d0, f0⟩ := h2.lens 0 (by omega)
  obtain ⟨b1, d1, f1⟩ := h2.lens 1 (by omega)
  obtain ⟨b2, d2, f2⟩ := h2.lens 2 (by omega)
  obtain ⟨b3, d3, f3⟩ := h2.lens 3 (by omega)
  obtain ⟨b4, d4, f4⟩ := h2.lens 4 (by omega)
  obtain ⟨x0, x1, x2, x3, x4⟩ := mcells5 hA e0 e1 e2 e3 e4
  obtain ⟨y0, y1, y2, y3, y4⟩ := mcells5 hB f0 f1 f2 f3 f4
  have hz := hA.z
  have hz1 := hB.z
  have HE : Hid (five2 S1 S2 = [.slice a0 M.mrom.length c0, .slice b0 N.mrom.length d0, .slice a1 M.arom.length c1, .slice b1 N.arom.length d1, .slice a2 M.ram.length c2, .slice b2 N.ram.length d2, .slice a3 M.own.length c3, .slice b3 N.own.length d3, .slice a4 M.video.length c4, .slice b4 N.video.length d4]) := hid (by
    unfold five2
    have e0' : S1.mr = _ := e0
    have e1' : S1.ar = _ := e1
    have e2' : S1.ra = _ := e2
    have e3' : S1.ow = _ := e3
    have e4' : S1.vi = _ := e4
    have f0' : S2.mr = _ := f0
    have f1' : S2.ar = _ := f1
    have f2' : S2.ra = _ := f2
    have f3' : S2.ow = _ := f3
    have f4' : S2.vi = _ := f4
    rw [e0', e1', e2', e3', e4', f0', f1', f2', f3', f4']
    rfl)
  have H1 := hid h1
  have H2 := hid h2
  clear hA hB e0 e1 e2 e3 e4 f0 f1 f2 f3 f4 h1 h2
  go_enter Try.func9, Try.ntmps9
  go_wp2
  refine Pl.cutW (SN w M N S1 S2) (by have hs := SN.start w M N S1 S2 41 41 65; rw [HE.out] at hs; exact hs) ?_
  intro Y hY
  have HY := hid hY
  clear hY
  go_loopw [34] (fun i wr => ∃ k : Nat, k ≤ 5 ∧ i = .int .i64 k ∧ (∀ j, j < k → M.byt j = N.byt j) ∧ SN w M N S1 S2 wr) (fun i _ => 5 - (intOf i).toNat)
  case atStart => exact ⟨0, by omega, rfl, fun j hj => absurd hj (Nat.not_lt_zero _), HY.out⟩
  case round =>
    clear HY x0 x1 x2 x3 x4 y0 y1 y2 y3 y4 hz hz1
    obtain ⟨k, hk, rfl, hall, hS⟩ := hrel
    have HA := hid hall
    clear hall
    by_cases hlt : k < 5
    · have hlt2 : (k : Int) < 5 := by omega
      obtain ⟨l1, l2⟩ := five2_at S1 S2 k hlt
      obtain ⟨u1, v1, g1⟩ := H1.out.lens k hlt
      obtain ⟨u2, v2, g2⟩ := H2.out.lens k hlt
      have m1 := hS.l.at _ _ l1
      have m2 := hS.l.at _ _ l2
      rw [g1] at m1
      rw [g2] at m2
      have K1 := H1.out k hlt
      have K2 := H2.out k hlt
      rw [g1] at K1
      rw [g2] at K2
      have HK1 := hid (K1.kept hS.low)
      have HK2 := hid (K2.kept hS.low)
      have hz := hS.l.z
      have HS := hid hS
      clear hS l1 l2 g1 g2 K1 K2 HE
      by_cases heq : M.byt k = N.byt k
      · have hb : (M.byt k == N.byt k) = true := by rw [heq]; exact beq_self_eq_true _
        have HEQ := hid heq
        clear heq
        go_wp2_with (go_at_call 11; refine (equal_any _ _ (M.byt k) (N.byt k) _ (HK1.out.kept (stA (st0 _) _)) (HK2.out.kept (stA (st0 _) _))).mono ?_; rw [hb]; rintro e w1 ⟨rfl, rfl⟩)
        go_roundw
        case rel => exact ⟨k + 1, by omega, by go_num, fun j hj => by
          by_cases e : j = k
          · subst e; exact HEQ.out
          · exact HA.out j (by omega), HS.out.kept (stA (st0 _) _)⟩
        case measure => simp [intOf]; omega
      · have hb : (M.byt k == N.byt k) = false := by simpa using heq
        have hsm : Sq.same M N = false := by
          unfold Sq.same
          have hbf : Sq.byts M N = false := by
            cases hh : Sq.byts M N with
            | false => rfl
            | true => exact absurd ((Sq.byts_iff M N).1 hh k hlt) heq
          rw [hbf]; rfl
        have HSM := hid hsm
        clear heq hsm
        go_wp2_with (go_at_call 11; refine (equal_any _ _ (M.byt k) (N.byt k) _ (HK1.out.kept (stA (st0 _) _)) (HK2.out.kept (stA (st0 _) _))).mono ?_; rw [hb]; rintro e w1 ⟨rfl, rfl⟩)
        go_ret
        exact ⟨by show Ending.returned (.bool false) = _; rw [HSM.out], (HS.out.kept (stA (st0 _) _)).low⟩
    · obtain rfl : k = 5 := by omega
      have q1 : ∀ w, (binOp .eql 25 (.agg (cpuL M.main).toArray) (.agg (cpuL N.main).toArray)).run Try.prog w = .ok (.bool (Sq.c_main M N)) w := Sq.cpu (M.main.r 0) (M.main.r 1) (M.main.r 2) (M.main.r 3) (M.main.r 4) (M.main.r 5) (M.main.r 6) (M.main.r 7) M.main.PC M.main.Z M.main.N M.main.C M.main.V M.main.May M.main.Waits (N.main.r 0) (N.main.r 1) (N.main.r 2) (N.main.r 3) (N.main.r 4) (N.main.r 5) (N.main.r 6) (N.main.r 7) N.main.PC N.main.Z N.main.N N.main.C N.main.V N.main.May N.main.Waits
      have q2 : ∀ w, (binOp .eql 25 (.agg (cpuL M.aux).toArray) (.agg (cpuL N.aux).toArray)).run Try.prog w = .ok (.bool (Sq.c_aux M N)) w := Sq.cpu (M.aux.r 0) (M.aux.r 1) (M.aux.r 2) (M.aux.r 3) (M.aux.r 4) (M.aux.r 5) (M.aux.r 6) (M.aux.r 7) M.aux.PC M.aux.Z M.aux.N M.aux.C M.aux.V M.aux.May M.aux.Waits (N.aux.r 0) (N.aux.r 1) (N.aux.r 2) (N.aux.r 3) (N.aux.r 4) (N.aux.r 5) (N.aux.r 6) (N.aux.r 7) N.aux.PC N.aux.Z N.aux.N N.aux.C N.aux.V N.aux.May N.aux.Waits
      have q3 : ∀ w, (binOp .eql 29 (.agg #[.int .u8 M.p0.d, .bool M.p0.l, .int .u8 M.p0.s, .int .u8 M.p1.d, .bool M.p1.l, .int .u8 M.p1.s]) (.agg #[.int .u8 N.p0.d, .bool N.p0.l, .int .u8 N.p0.s, .int .u8 N.p1.d, .bool N.p1.l, .int .u8 N.p1.s])).run Try.prog w = .ok (.bool (Sq.c_pads M N)) w := Sq.pads M.p0.d M.p0.s M.p1.d M.p1.s M.p0.l M.p1.l N.p0.d N.p0.s N.p1.d N.p1.s N.p0.l N.p1.l
      have q4 : ∀ w, (binOp .eql 31 (.agg #[.int .u16 M.t.r, .int .u16 M.t.c, .bool M.t.on, .bool M.t.g]) (.agg #[.int .u16 N.t.r, .int .u16 N.t.c, .bool N.t.on, .bool N.t.g])).run Try.prog w = .ok (.bool (Sq.c_t M N)) w := Sq.timer M.t.r M.t.c M.t.on M.t.g N.t.r N.t.c N.t.on N.t.g
      have q5 : ∀ w, (binOp .eql 36 (.agg (sndL M.s).toArray) (.agg (sndL N.s).toArray)).run Try.prog w = .ok (.bool (Sq.c_s M N)) w := Sq.sound M.s.a.p M.s.a.c M.s.a.l M.s.a.n M.s.b.p M.s.b.c M.s.b.l M.s.b.n M.s.c.p M.s.c.c M.s.c.l M.s.c.n M.s.w M.s.a.h M.s.b.h M.s.c.h N.s.a.p N.s.a.c N.s.a.l N.s.a.n N.s.b.p N.s.b.c N.s.b.l N.s.b.n N.s.c.p N.s.c.c N.s.c.l N.s.c.n N.s.w N.s.a.h N.s.b.h N.s.c.h
      have q6 : ∀ w, (binOp .eql 38 (.agg #[.int .i64 M.b.l, .int .i64 M.b.a, .bool M.b.g, .int .i64 M.b.f]) (.agg #[.int .i64 N.b.l, .int .i64 N.b.a, .bool N.b.g, .int .i64 N.b.f])).run Try.prog w = .ok (.bool (Sq.c_b M N)) w := Sq.beam M.b.l M.b.a M.b.f M.b.g N.b.l N.b.a N.b.f N.b.g
      have q7 : ∀ w, (binOp .eql 39 (.agg #[.int .u8 M.m0, .int .u8 M.m1]) (.agg #[.int .u8 N.m0, .int .u8 N.m1])).run Try.prog w = .ok (.bool (Sq.c_mail M N)) w := Sq.mail M.m0 M.m1 N.m0 N.m1
      have hs0 : Sq.same M N = Sq.rest M N := by
        unfold Sq.same
        rw [(Sq.byts_iff M N).2 HA.out]; rfl
      unfold Sq.rest at hs0
      have HSM := hid hs0
      clear hs0
      have e_fr : (M.fr == N.fr) = Sq.c_fr M N := rfl
      have e_to : (M.to == N.to) = Sq.c_to M N := rfl
      have e_granted : (M.granted == N.granted) = Sq.c_granted M N := rfl
      have e_held : (M.held == N.held) = Sq.c_held M N := rfl
      have e_rung : (M.rung == N.rung) = Sq.c_rung M N := rfl
      have e_clock : (M.clock == N.clock) = Sq.c_clock M N := rfl
      have e_mready : (M.mready == N.mready) = Sq.c_mready M N := rfl
      have e_aready : (M.aready == N.aready) = Sq.c_aready M N := rfl
      generalize Sq.c_main M N = c_main at *
      generalize Sq.c_aux M N = c_aux at *
      generalize Sq.c_pads M N = c_pads at *
      generalize Sq.c_t M N = c_t at *
      generalize Sq.c_s M N = c_s at *
      generalize Sq.c_b M N = c_b at *
      generalize Sq.c_fr M N = c_fr at *
      generalize Sq.c_to M N = c_to at *
      generalize Sq.c_granted M N = c_granted at *
      generalize Sq.c_held M N = c_held at *
      generalize Sq.c_mail M N = c_mail at *
      generalize Sq.c_rung M N = c_rung at *
      generalize Sq.c_clock M N = c_clock at *
      generalize Sq.c_mready M N = c_mready at *
      generalize Sq.c_aready M N = c_aready at *
      obtain ⟨p35, p36, p37, p38, p39, p40, p41, p42, p43, p44, p61, p62, p63, p64, p65, p66, p67, p68, p69, p70, p71, p72, p73, p74⟩ := hS.a.scl
      obtain ⟨r35, r36, r37, r38, r39, r40, r41, r42, r43, r44, r61, r62, r63, r64, r65, r66, r67, r68, r69, r70, r71, r72, r73, r74⟩ := hS.b.scl
      have hz := hS.a.z
      have hz1 := hS.b.z
      have HS := hid hS
      clear hS HE
      go_upto_region 7 with fail
      simp only [List.append]
      cases c_main
      · go_wp2_with (first
          | (refine wpList_load_mid rfl 25 _ rfl w.heap.size 0 rfl (cpuL M.main) _ HS.out.a.mainR Try.underlying25 rfl info_cpu ?_)
          | (refine wpList_load_mid rfl 25 _ rfl (w.heap.size + 1) 0 rfl (cpuL N.main) _ HS.out.b.mainR Try.underlying25 rfl info_cpu ?_; clear p35 r35 p36 r36 p37 r37 p38 r38 p39 r39 p40 r40 p41 r41 p42 r42 p43 r43 p44 r44 p61 r61 p62 r62 p63 r63 p64 r64 p65 r65 p66 r66 p67 r67 p68 r68 p69 r69 p70 r70 p71 r71 p72 r72 p73 r73 p74 r74 q2 q3 q4 q5 q6 q7 e_fr e_to e_granted e_held e_rung e_clock e_mready e_aready; go_wp2))
        go_ret
        exact ⟨by rw [HSM.out]; rfl, HS.out.low⟩
      · skip
        cases c_aux
        · go_wp2_with (first
            | (refine wpList_load_mid rfl 25 _ rfl w.heap.size 0 rfl (cpuL M.main) _ HS.out.a.mainR Try.underlying25 rfl info_cpu ?_)
            | (refine wpList_load_mid rfl 25 _ rfl (w.heap.size + 1) 0 rfl (cpuL N.main) _ HS.out.b.mainR Try.underlying25 rfl info_cpu ?_)
            | (refine Bu.loadG rfl 25 _ rfl w.heap.size 15 rfl (cpuL M.aux) _ HS.out.a.auxR Try.underlying25 rfl info_cpu ?_)
            | (refine Bu.loadG rfl 25 _ rfl (w.heap.size + 1) 15 rfl (cpuL N.aux) _ HS.out.b.auxR Try.underlying25 rfl info_cpu ?_; clear p35 r35 p36 r36 p37 r37 p38 r38 p39 r39 p40 r40 p41 r41 p42 r42 p43 r43 p44 r44 p61 r61 p62 r62 p63 r63 p64 r64 p65 r65 p66 r66 p67 r67 p68 r68 p69 r69 p70 r70 p71 r71 p72 r72 p73 r73 p74 r74 q1 q3 q4 q5 q6 q7 e_fr e_to e_granted e_held e_rung e_clock e_mready e_aready; go_wp2))
          go_ret
          exact ⟨by rw [HSM.out]; rfl, HS.out.low⟩
        · skip
          cases c_pads
          · go_wp2_with (first
              | (refine wpList_load_mid rfl 25 _ rfl w.heap.size 0 rfl (cpuL M.main) _ HS.out.a.mainR Try.underlying25 rfl info_cpu ?_)
              | (refine wpList_load_mid rfl 25 _ rfl (w.heap.size + 1) 0 rfl (cpuL N.main) _ HS.out.b.mainR Try.underlying25 rfl info_cpu ?_)
              | (refine Bu.loadG rfl 25 _ rfl w.heap.size 15 rfl (cpuL M.aux) _ HS.out.a.auxR Try.underlying25 rfl info_cpu ?_)
              | (refine Bu.loadG rfl 25 _ rfl (w.heap.size + 1) 15 rfl (cpuL N.aux) _ HS.out.b.auxR Try.underlying25 rfl info_cpu ?_; clear p41 r41 p42 r42 p43 r43 p44 r44 p61 r61 p62 r62 p63 r63 p64 r64 p65 r65 p66 r66 p67 r67 p68 r68 p69 r69 p70 r70 p71 r71 p72 r72 p73 r73 p74 r74 q1 q4 q5 q6 q7 e_fr e_to e_granted e_held e_rung e_clock e_mready e_aready; go_wp2))
            go_ret
            exact ⟨by rw [HSM.out]; rfl, HS.out.low⟩
          · skip
            cases c_t
            · go_wp2_with (first
                | (refine wpList_load_mid rfl 25 _ rfl w.heap.size 0 rfl (cpuL M.main) _ HS.out.a.mainR Try.underlying25 rfl info_cpu ?_)
                | (refine wpList_load_mid rfl 25 _ rfl (w.heap.size + 1) 0 rfl (cpuL N.main) _ HS.out.b.mainR Try.underlying25 rfl info_cpu ?_)
                | (refine Bu.loadG rfl 25 _ rfl w.heap.size 15 rfl (cpuL M.aux) _ HS.out.a.auxR Try.underlying25 rfl info_cpu ?_)
                | (refine Bu.loadG rfl 25 _ rfl (w.heap.size + 1) 15 rfl (cpuL N.aux) _ HS.out.b.auxR Try.underlying25 rfl info_cpu ?_; clear p61 r61 p62 r62 p63 r63 p64 r64 p65 r65 p66 r66 p67 r67 p68 r68 p69 r69 p70 r70 p71 r71 p72 r72 p73 r73 p74 r74 q1 q5 q6 q7 e_fr e_to e_granted e_held e_rung e_clock e_mready e_aready; go_wp2))
              go_ret
              exact ⟨by rw [HSM.out]; rfl, HS.out.low⟩
            · skip
              cases c_s
              · go_wp2_with (first
                  | (refine wpList_load_mid rfl 25 _ rfl w.heap.size 0 rfl (cpuL M.main) _ HS.out.a.mainR Try.underlying25 rfl info_cpu ?_)
                  | (refine wpList_load_mid rfl 25 _ rfl (w.heap.size + 1) 0 rfl (cpuL N.main) _ HS.out.b.mainR Try.underlying25 rfl info_cpu ?_)
                  | (refine Bu.loadG rfl 25 _ rfl w.heap.size 15 rfl (cpuL M.aux) _ HS.out.a.auxR Try.underlying25 rfl info_cpu ?_)
                  | (refine Bu.loadG rfl 25 _ rfl (w.heap.size + 1) 15 rfl (cpuL N.aux) _ HS.out.b.auxR Try.underlying25 rfl info_cpu ?_)
                  | (refine Bu.loadG rfl 36 _ rfl w.heap.size 45 rfl (sndL M.s) _ HS.out.a.sndR Try.underlying36 rfl info_sound ?_)
                  | (refine Bu.loadG rfl 36 _ rfl (w.heap.size + 1) 45 rfl (sndL N.s) _ HS.out.b.sndR Try.underlying36 rfl info_sound ?_; clear p35 r35 p36 r36 p37 r37 p38 r38 p39 r39 p40 r40 p41 r41 p42 r42 p43 r43 p44 r44 p61 r61 p62 r62 p63 r63 p64 r64 p65 r65 p66 r66 p67 r67 p68 r68 p69 r69 p70 r70 p71 r71 p72 r72 p73 r73 p74 r74 q1 q2 q3 q4 q6 q7 e_fr e_to e_granted e_held e_rung e_clock e_mready e_aready; go_wp2))
                go_ret
                exact ⟨by rw [HSM.out]; rfl, HS.out.low⟩
              · skip
                cases c_b
                · go_wp2_with (first
                    | (refine wpList_load_mid rfl 25 _ rfl w.heap.size 0 rfl (cpuL M.main) _ HS.out.a.mainR Try.underlying25 rfl info_cpu ?_)
                    | (refine wpList_load_mid rfl 25 _ rfl (w.heap.size + 1) 0 rfl (cpuL N.main) _ HS.out.b.mainR Try.underlying25 rfl info_cpu ?_)
                    | (refine Bu.loadG rfl 25 _ rfl w.heap.size 15 rfl (cpuL M.aux) _ HS.out.a.auxR Try.underlying25 rfl info_cpu ?_)
                    | (refine Bu.loadG rfl 25 _ rfl (w.heap.size + 1) 15 rfl (cpuL N.aux) _ HS.out.b.auxR Try.underlying25 rfl info_cpu ?_)
                    | (refine Bu.loadG rfl 36 _ rfl w.heap.size 45 rfl (sndL M.s) _ HS.out.a.sndR Try.underlying36 rfl info_sound ?_)
                    | (refine Bu.loadG rfl 36 _ rfl (w.heap.size + 1) 45 rfl (sndL N.s) _ HS.out.b.sndR Try.underlying36 rfl info_sound ?_; clear p35 r35 p36 r36 p37 r37 p38 r38 p39 r39 p40 r40 p41 r41 p42 r42 p43 r43 p44 r44 p65 r65 p66 r66 p67 r67 p68 r68 p69 r69 p70 r70 p71 r71 p72 r72 p73 r73 p74 r74 q1 q2 q3 q4 q7 e_fr e_to e_granted e_held e_rung e_clock e_mready e_aready; go_wp2))
                  go_ret
                  exact ⟨by rw [HSM.out]; rfl, HS.out.low⟩
                · skip
                  cases c_fr
                  · go_wp2_with (first
                      | (refine wpList_load_mid rfl 25 _ rfl w.heap.size 0 rfl (cpuL M.main) _ HS.out.a.mainR Try.underlying25 rfl info_cpu ?_)
                      | (refine wpList_load_mid rfl 25 _ rfl (w.heap.size + 1) 0 rfl (cpuL N.main) _ HS.out.b.mainR Try.underlying25 rfl info_cpu ?_)
                      | (refine Bu.loadG rfl 25 _ rfl w.heap.size 15 rfl (cpuL M.aux) _ HS.out.a.auxR Try.underlying25 rfl info_cpu ?_)
                      | (refine Bu.loadG rfl 25 _ rfl (w.heap.size + 1) 15 rfl (cpuL N.aux) _ HS.out.b.auxR Try.underlying25 rfl info_cpu ?_)
                      | (refine Bu.loadG rfl 36 _ rfl w.heap.size 45 rfl (sndL M.s) _ HS.out.a.sndR Try.underlying36 rfl info_sound ?_)
                      | (refine Bu.loadG rfl 36 _ rfl (w.heap.size + 1) 45 rfl (sndL N.s) _ HS.out.b.sndR Try.underlying36 rfl info_sound ?_; clear p35 r35 p36 r36 p37 r37 p38 r38 p39 r39 p40 r40 p41 r41 p42 r42 p43 r43 p44 r44 p66 r66 p67 r67 p68 r68 p69 r69 p70 r70 p71 r71 p72 r72 p73 r73 p74 r74 q1 q2 q3 q4 q7 e_to e_granted e_held e_rung e_clock e_mready e_aready; go_wp2))
                    go_ret
                    exact ⟨by rw [HSM.out]; rfl, HS.out.low⟩
                  · skip
                    cases c_to
                    · go_wp2_with (first
                        | (refine wpList_load_mid rfl 25 _ rfl w.heap.size 0 rfl (cpuL M.main) _ HS.out.a.mainR Try.underlying25 rfl info_cpu ?_)
                        | (refine wpList_load_mid rfl 25 _ rfl (w.heap.size + 1) 0 rfl (cpuL N.main) _ HS.out.b.mainR Try.underlying25 rfl info_cpu ?_)
                        | (refine Bu.loadG rfl 25 _ rfl w.heap.size 15 rfl (cpuL M.aux) _ HS.out.a.auxR Try.underlying25 rfl info_cpu ?_)
                        | (refine Bu.loadG rfl 25 _ rfl (w.heap.size + 1) 15 rfl (cpuL N.aux) _ HS.out.b.auxR Try.underlying25 rfl info_cpu ?_)
                        | (refine Bu.loadG rfl 36 _ rfl w.heap.size 45 rfl (sndL M.s) _ HS.out.a.sndR Try.underlying36 rfl info_sound ?_)
                        | (refine Bu.loadG rfl 36 _ rfl (w.heap.size + 1) 45 rfl (sndL N.s) _ HS.out.b.sndR Try.underlying36 rfl info_sound ?_; clear p35 r35 p36 r36 p37 r37 p38 r38 p39 r39 p40 r40 p41 r41 p42 r42 p43 r43 p44 r44 p67 r67 p68 r68 p69 r69 p70 r70 p71 r71 p72 r72 p73 r73 p74 r74 q1 q2 q3 q4 q7 e_granted e_held e_rung e_clock e_mready e_aready; go_wp2))
                      go_ret
                      exact ⟨by rw [HSM.out]; rfl, HS.out.low⟩
                    · skip
                      cases c_granted
                      · go_wp2_with (first
                          | (refine wpList_load_mid rfl 25 _ rfl w.heap.size 0 rfl (cpuL M.main) _ HS.out.a.mainR Try.underlying25 rfl info_cpu ?_)
                          | (refine wpList_load_mid rfl 25 _ rfl (w.heap.size + 1) 0 rfl (cpuL N.main) _ HS.out.b.mainR Try.underlying25 rfl info_cpu ?_)
                          | (refine Bu.loadG rfl 25 _ rfl w.heap.size 15 rfl (cpuL M.aux) _ HS.out.a.auxR Try.underlying25 rfl info_cpu ?_)
                          | (refine Bu.loadG rfl 25 _ rfl (w.heap.size + 1) 15 rfl (cpuL N.aux) _ HS.out.b.auxR Try.underlying25 rfl info_cpu ?_)
                          | (refine Bu.loadG rfl 36 _ rfl w.heap.size 45 rfl (sndL M.s) _ HS.out.a.sndR Try.underlying36 rfl info_sound ?_)
                          | (refine Bu.loadG rfl 36 _ rfl (w.heap.size + 1) 45 rfl (sndL N.s) _ HS.out.b.sndR Try.underlying36 rfl info_sound ?_; clear p35 r35 p36 r36 p37 r37 p38 r38 p39 r39 p40 r40 p41 r41 p42 r42 p43 r43 p44 r44 p68 r68 p69 r69 p70 r70 p71 r71 p72 r72 p73 r73 p74 r74 q1 q2 q3 q4 q7 e_held e_rung e_clock e_mready e_aready; go_wp2))
                        go_ret
                        exact ⟨by rw [HSM.out]; rfl, HS.out.low⟩
                      · skip
                        cases c_held
                        · go_wp2_with (first
                            | (refine wpList_load_mid rfl 25 _ rfl w.heap.size 0 rfl (cpuL M.main) _ HS.out.a.mainR Try.underlying25 rfl info_cpu ?_)
                            | (refine wpList_load_mid rfl 25 _ rfl (w.heap.size + 1) 0 rfl (cpuL N.main) _ HS.out.b.mainR Try.underlying25 rfl info_cpu ?_)
                            | (refine Bu.loadG rfl 25 _ rfl w.heap.size 15 rfl (cpuL M.aux) _ HS.out.a.auxR Try.underlying25 rfl info_cpu ?_)
                            | (refine Bu.loadG rfl 25 _ rfl (w.heap.size + 1) 15 rfl (cpuL N.aux) _ HS.out.b.auxR Try.underlying25 rfl info_cpu ?_)
                            | (refine Bu.loadG rfl 36 _ rfl w.heap.size 45 rfl (sndL M.s) _ HS.out.a.sndR Try.underlying36 rfl info_sound ?_)
                            | (refine Bu.loadG rfl 36 _ rfl (w.heap.size + 1) 45 rfl (sndL N.s) _ HS.out.b.sndR Try.underlying36 rfl info_sound ?_; clear p35 r35 p36 r36 p37 r37 p38 r38 p39 r39 p40 r40 p41 r41 p42 r42 p43 r43 p44 r44 p69 r69 p70 r70 p71 r71 p72 r72 p73 r73 p74 r74 q1 q2 q3 q4 q7 e_rung e_clock e_mready e_aready; go_wp2))
                          go_ret
                          exact ⟨by rw [HSM.out]; rfl, HS.out.low⟩
                        · skip
                          cases c_mail
                          · go_wp2_with (first
                              | (refine wpList_load_mid rfl 25 _ rfl w.heap.size 0 rfl (cpuL M.main) _ HS.out.a.mainR Try.underlying25 rfl info_cpu ?_)
                              | (refine wpList_load_mid rfl 25 _ rfl (w.heap.size + 1) 0 rfl (cpuL N.main) _ HS.out.b.mainR Try.underlying25 rfl info_cpu ?_)
                              | (refine Bu.loadG rfl 25 _ rfl w.heap.size 15 rfl (cpuL M.aux) _ HS.out.a.auxR Try.underlying25 rfl info_cpu ?_)
                              | (refine Bu.loadG rfl 25 _ rfl (w.heap.size + 1) 15 rfl (cpuL N.aux) _ HS.out.b.auxR Try.underlying25 rfl info_cpu ?_)
                              | (refine Bu.loadG rfl 36 _ rfl w.heap.size 45 rfl (sndL M.s) _ HS.out.a.sndR Try.underlying36 rfl info_sound ?_)
                              | (refine Bu.loadG rfl 36 _ rfl (w.heap.size + 1) 45 rfl (sndL N.s) _ HS.out.b.sndR Try.underlying36 rfl info_sound ?_; clear p35 r35 p36 r36 p37 r37 p38 r38 p39 r39 p40 r40 p41 r41 p42 r42 p43 r43 p44 r44 p71 r71 p72 r72 p73 r73 p74 r74 q1 q2 q3 q4 e_rung e_clock e_mready e_aready; go_wp2))
                            go_ret
                            exact ⟨by rw [HSM.out]; rfl, HS.out.low⟩
                          · skip
                            cases c_rung
                            · go_wp2_with (first
                                | (refine wpList_load_mid rfl 25 _ rfl w.heap.size 0 rfl (cpuL M.main) _ HS.out.a.mainR Try.underlying25 rfl info_cpu ?_)
                                | (refine wpList_load_mid rfl 25 _ rfl (w.heap.size + 1) 0 rfl (cpuL N.main) _ HS.out.b.mainR Try.underlying25 rfl info_cpu ?_)
                                | (refine Bu.loadG rfl 25 _ rfl w.heap.size 15 rfl (cpuL M.aux) _ HS.out.a.auxR Try.underlying25 rfl info_cpu ?_)
                                | (refine Bu.loadG rfl 25 _ rfl (w.heap.size + 1) 15 rfl (cpuL N.aux) _ HS.out.b.auxR Try.underlying25 rfl info_cpu ?_)
                                | (refine Bu.loadG rfl 36 _ rfl w.heap.size 45 rfl (sndL M.s) _ HS.out.a.sndR Try.underlying36 rfl info_sound ?_)
                                | (refine Bu.loadG rfl 36 _ rfl (w.heap.size + 1) 45 rfl (sndL N.s) _ HS.out.b.sndR Try.underlying36 rfl info_sound ?_; clear p35 r35 p36 r36 p37 r37 p38 r38 p39 r39 p40 r40 p41 r41 p42 r42 p43 r43 p44 r44 p72 r72 p73 r73 p74 r74 q1 q2 q3 q4 e_clock e_mready e_aready; go_wp2))
                              go_ret
                              exact ⟨by rw [HSM.out]; rfl, HS.out.low⟩
                            · skip
                              cases c_clock
                              · go_wp2_with (first
                                  | (refine wpList_load_mid rfl 25 _ rfl w.heap.size 0 rfl (cpuL M.main) _ HS.out.a.mainR Try.underlying25 rfl info_cpu ?_)
                                  | (refine wpList_load_mid rfl 25 _ rfl (w.heap.size + 1) 0 rfl (cpuL N.main) _ HS.out.b.mainR Try.underlying25 rfl info_cpu ?_)
                                  | (refine Bu.loadG rfl 25 _ rfl w.heap.size 15 rfl (cpuL M.aux) _ HS.out.a.auxR Try.underlying25 rfl info_cpu ?_)
                                  | (refine Bu.loadG rfl 25 _ rfl (w.heap.size + 1) 15 rfl (cpuL N.aux) _ HS.out.b.auxR Try.underlying25 rfl info_cpu ?_)
                                  | (refine Bu.loadG rfl 36 _ rfl w.heap.size 45 rfl (sndL M.s) _ HS.out.a.sndR Try.underlying36 rfl info_sound ?_)
                                  | (refine Bu.loadG rfl 36 _ rfl (w.heap.size + 1) 45 rfl (sndL N.s) _ HS.out.b.sndR Try.underlying36 rfl info_sound ?_; clear p35 r35 p36 r36 p37 r37 p38 r38 p39 r39 p40 r40 p41 r41 p42 r42 p43 r43 p44 r44 p73 r73 p74 r74 q1 q2 q3 q4 e_mready e_aready; go_wp2))
                                go_ret
                                exact ⟨by rw [HSM.out]; rfl, HS.out.low⟩
                              · skip
                                cases c_mready
                                · go_wp2_with (first
                                    | (refine wpList_load_mid rfl 25 _ rfl w.heap.size 0 rfl (cpuL M.main) _ HS.out.a.mainR Try.underlying25 rfl info_cpu ?_)
                                    | (refine wpList_load_mid rfl 25 _ rfl (w.heap.size + 1) 0 rfl (cpuL N.main) _ HS.out.b.mainR Try.underlying25 rfl info_cpu ?_)
                                    | (refine Bu.loadG rfl 25 _ rfl w.heap.size 15 rfl (cpuL M.aux) _ HS.out.a.auxR Try.underlying25 rfl info_cpu ?_)
                                    | (refine Bu.loadG rfl 25 _ rfl (w.heap.size + 1) 15 rfl (cpuL N.aux) _ HS.out.b.auxR Try.underlying25 rfl info_cpu ?_)
                                    | (refine Bu.loadG rfl 36 _ rfl w.heap.size 45 rfl (sndL M.s) _ HS.out.a.sndR Try.underlying36 rfl info_sound ?_)
                                    | (refine Bu.loadG rfl 36 _ rfl (w.heap.size + 1) 45 rfl (sndL N.s) _ HS.out.b.sndR Try.underlying36 rfl info_sound ?_; clear p35 r35 p36 r36 p37 r37 p38 r38 p39 r39 p40 r40 p41 r41 p42 r42 p43 r43 p44 r44 p74 r74 q1 q2 q3 q4 e_aready; go_wp2))
                                  go_ret
                                  exact ⟨by rw [HSM.out]; rfl, HS.out.low⟩
                                · skip
                                  cases c_aready
                                  · go_wp2_with (first
                                      | (refine wpList_load_mid rfl 25 _ rfl w.heap.size 0 rfl (cpuL M.main) _ HS.out.a.mainR Try.underlying25 rfl info_cpu ?_)
                                      | (refine wpList_load_mid rfl 25 _ rfl (w.heap.size + 1) 0 rfl (cpuL N.main) _ HS.out.b.mainR Try.underlying25 rfl info_cpu ?_)
                                      | (refine Bu.loadG rfl 25 _ rfl w.heap.size 15 rfl (cpuL M.aux) _ HS.out.a.auxR Try.underlying25 rfl info_cpu ?_)
                                      | (refine Bu.loadG rfl 25 _ rfl (w.heap.size + 1) 15 rfl (cpuL N.aux) _ HS.out.b.auxR Try.underlying25 rfl info_cpu ?_)
                                      | (refine Bu.loadG rfl 36 _ rfl w.heap.size 45 rfl (sndL M.s) _ HS.out.a.sndR Try.underlying36 rfl info_sound ?_)
                                      | (refine Bu.loadG rfl 36 _ rfl (w.heap.size + 1) 45 rfl (sndL N.s) _ HS.out.b.sndR Try.underlying36 rfl info_sound ?_; clear p35 r35 p36 r36 p37 r37 p38 r38 p39 r39 p40 r40 p41 r41 p42 r42 p43 r43 p44 r44 q1 q2 q3 q4; go_wp2))
                                    go_ret
                                    exact ⟨by rw [HSM.out]; rfl, HS.out.low⟩
                                  · skip
                                    go_wp2_with (first
                                      | (refine wpList_load_mid rfl 25 _ rfl w.heap.size 0 rfl (cpuL M.main) _ HS.out.a.mainR Try.underlying25 rfl info_cpu ?_)
                                      | (refine wpList_load_mid rfl 25 _ rfl (w.heap.size + 1) 0 rfl (cpuL N.main) _ HS.out.b.mainR Try.underlying25 rfl info_cpu ?_)
                                      | (refine Bu.loadG rfl 25 _ rfl w.heap.size 15 rfl (cpuL M.aux) _ HS.out.a.auxR Try.underlying25 rfl info_cpu ?_)
                                      | (refine Bu.loadG rfl 25 _ rfl (w.heap.size + 1) 15 rfl (cpuL N.aux) _ HS.out.b.auxR Try.underlying25 rfl info_cpu ?_)
                                      | (refine Bu.loadG rfl 36 _ rfl w.heap.size 45 rfl (sndL M.s) _ HS.out.a.sndR Try.underlying36 rfl info_sound ?_)
                                      | (refine Bu.loadG rfl 36 _ rfl (w.heap.size + 1) 45 rfl (sndL N.s) _ HS.out.b.sndR Try.underlying36 rfl info_sound ?_))
                                    go_ret
                                    exact ⟨by rw [HSM.out]; rfl, HS.out.low⟩
end Go.Proofs.Ytdioiilmpjckfaa
