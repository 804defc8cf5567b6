/-
  For every machine, either processor, every address and every byte the law BusReads of the program returns true and leaves its arguments as they were; no condition.
-/
import Derived.Test.YthooknikfachnaaPlain
import Derived.SizedLaws
import Derived.Test.YthooknikfachnaaZeQ
import Derived.Test.YthooknikfachnaaZeO
import Derived.Laws.EntriesVeiled
import Derived.Test.YthooknikfachnaaZeN
namespace Go.Proofs.Ythooknikfachnaa
open Go.ChangeShapes Go.WideShapes Go.ChangeAt Go.RowKit
set_option linter.unusedVariables false
set_option maxRecDepth 100000

/-- The builder of a plain row, and what its reach says of lengths. -/
theorem returns_sized {H : Type} {enc : TypeId × Value → H} {a : Assume} {C : Checked} {os : Os} {f : FuncId} {fn : Func} {s : ChangeSpec} {conds : List PathCond} {apart fresh handsOn again : Bool}
    (own : ownKnob C.prog.godebug = none) (started : os.Started) (noInit : C.prog.inits.idxOf? f = none) (hfn : C.prog.funcs[f]? = some fn)
    (witness : ∃ (w : World) (tape : Tape) (i : Input), w.os = os ∧ (w.forCall tape i).Shaped C.prog ∧ i.vars = [] ∧ Input.okWide C.prog (w.forCall tape i) .any w.heap.size f i ∧
      s.pre6 enc C.prog fn conds apart (w.forCall tape i).memory i.args ∧ a.holds C.prog (lone (Frame.enter C.prog f i.args .normal) [] (w.forCall tape i)))
    (contract : ∀ (W : World) (base : Nat) (args : Array Value) (ds gs : List (DataW H)) (before : List MemPlace),
      (∀ (j : Nat) t v, fn.params[j]? = some t → args[j]? = some v → Value.okWide C.prog W .any base t v) →
      DataW.Whole enc C.prog fn.params.toList s.vars apart W args.toList ds gs before →
      conds.all (PathCond.test C.prog ⟨fn.params.toList, ds, s.plain.varTypes C.prog, gs⟩) = true →
      (DataW.weightsEach C.prog (fn.params.toList ++ s.plain.varTypes C.prog) (ds ++ gs)).all (· ≤ reachBytes) = true →
      a.holds C.prog (lone (Frame.enter C.prog f args .normal) [] W) →
      Calls C.prog f args W fun e W' => ∃ v, e = .returned v ∧ s.post enc C.prog fn apart fresh handsOn again W args v W') :
    ReturnsInHanded a C os f .any (s.pre6 enc C.prog fn conds apart) (s.post enc C.prog fn apart fresh handsOn again) := by
  refine returnsInHanded_of_calls own started noInit witness ?_
  intro w tape i _ _ _ hok hpre hholds
  obtain ⟨_, _, _, fn', hfn', _, _, _, _, hval⟩ := hok
  have e : fn' = fn := Option.some.inj (hfn'.symm.trans hfn)
  subst e
  obtain ⟨⟨ds, gs, before, hw, hc⟩, hz⟩ := hpre
  have hw' := DataW.Whole.of_heap (w' := w.forCall tape i) (by rfl) hw
  refine (contract (w.forCall tape i) w.heap.size i.args ds gs before hval hw' hc (hz.weights hw) hholds).mono fun e W' ⟨v, he, hp⟩ => ?_
  subst he
  exact ChangeSpec.post_blind hp
def BusReadsWalk : Prop := ∀ (H : Type) (enc : TypeId × Value → H) (W : World) (base : Nat) (v0 v1 v2 v3 : Value) (d0 d1 d2 d3 : DataW H) (p0 p1 p2 p3 : List MemPlace),
  (∀ n ∈ d0.weights Try.prog 41, n ≤ reachBytes) → Value.okWide Try.prog W .any base (Try.f4.params.getD 0 0) v0 → DataW.Trod enc Try.prog W 0 (fun _ => true) true (Try.f4.params.getD 0 0) v0 d0 p0 → Value.okWide Try.prog W .any base (Try.f4.params.getD 1 0) v1 → DataW.Trod enc Try.prog W 0 (fun _ => true) true (Try.f4.params.getD 1 0) v1 d1 p1 → Value.okWide Try.prog W .any base (Try.f4.params.getD 2 0) v2 → DataW.Trod enc Try.prog W 0 (fun _ => true) true (Try.f4.params.getD 2 0) v2 d2 p2 → Value.okWide Try.prog W .any base (Try.f4.params.getD 3 0) v3 → DataW.Trod enc Try.prog W 0 (fun _ => true) true (Try.f4.params.getD 3 0) v3 d3 p3 →
  Calls Try.prog 4 #[v0, v1, v2, v3] W fun e w' => e = .returned (.bool true) ∧ Below W.heap.size W w'
set_option maxRecDepth 100000 in
theorem busReads_lifted (walk : BusReadsWalk) (os : Os) (started : os.Started) (H : Type) (enc : TypeId × Value → H) :
    ReturnsInHanded {} Try.checked os 4 .any (Rows.busReadsSpec.pre6 enc Try.prog Try.f4 Rows.busReadsRow.domain false) (Rows.busReadsSpec.post enc Try.prog Try.f4 false true false false) := by
  refine returns_sized (C := Try.checked) own started (by kernel_rfl) Try.func4
    (ChangeSpec.witness6 (enc := enc) (C := Try.checked) false ⟨#[], #[.agg #[.int .u16 0, .int .u16 0, .int .u16 0, .int .u16 0, .int .u16 0, .int .u16 0, .int .u16 0, .int .u16 0, .int .u16 0, .bool false, .bool false, .bool false, .bool false, .bool false, .bool false, .int .u16 0, .int .u16 0, .int .u16 0, .int .u16 0, .int .u16 0, .int .u16 0, .int .u16 0, .int .u16 0, .int .u16 0, .bool false, .bool false, .bool false, .bool false, .bool false, .bool false, .slice none 0 0, .slice none 0 0, .slice none 0 0, .slice none 0 0, .slice none 0 0, .int .u8 0, .bool false, .int .u8 0, .int .u8 0, .bool false, .int .u8 0, .int .u16 0, .int .u16 0, .bool false, .bool false, .int .u16 0, .int .u16 0, .int .u8 0, .bool false, .int .u16 0, .int .u16 0, .int .u16 0, .int .u8 0, .bool false, .int .u16 0, .int .u16 0, .int .u16 0, .int .u8 0, .bool false, .int .u16 0, .int .i64 0, .int .i64 0, .int .i64 0, .bool false, .int .i64 0, .int .u16 0, .int .u16 0, .bool false, .bool false, .int .u8 0, .int .u8 0, .bool false, .int .i64 0, .int .i64 0, .int .i64 0], .bool false, .int .u16 0, .int .u8 0], []⟩ 8 (by kernel_rfl) (by kernel_rfl) (by kernel_rfl) (by kernel_rfl)) ?_
  intro W base args ds gs before hval0 hW hcnd hwt _
  have hval : ∀ (j : Nat) t v, Try.f4.params[j]? = some t → args[j]? = some v → Value.okWide Try.prog W .any base t v := hval0
  have hW' := hW
  obtain ⟨p, q, hA0, hV, rfl, _, _⟩ := hW
  have hA : DataW.TrodAll enc Try.prog W 0 (fun _ => true) true Try.f4.params.toList args.toList ds p := hA0
  have hA1 := hA
  rw [Try.params4] at hA hval
  obtain ⟨v0, vs0, d0, ds0, p0, q0, hargs, rfl, rfl, h0, r0⟩ := trodAll_cons hA
  obtain ⟨v1, vs1, d1, ds1, p1, q1, rfl, rfl, rfl, h1, r1⟩ := trodAll_cons r0
  obtain ⟨v2, vs2, d2, ds2, p2, q2, rfl, rfl, rfl, h2, r2⟩ := trodAll_cons r1
  obtain ⟨v3, vs3, d3, ds3, p3, q3, rfl, rfl, rfl, h3, r3⟩ := trodAll_cons r2
  obtain ⟨rfl, rfl, rfl⟩ := trodAll_nil r3
  obtain rfl : args = #[v0, v1, v2, v3] := by cases args; simp_all
  obtain ⟨rfl, rfl⟩ := trodVars_none hV
  have hlt := fun x hx => hW'.lt x (List.mem_append_left _ hx)
  refine (walk H enc W base v0 v1 v2 v3 d0 d1 d2 d3 _ _ _ _ (fun n hn => by have := List.all_eq_true.1 hwt n (DataW.weights_mem_each (j := 0) rfl rfl n hn); simpa using this) (hval 0 _ v0 rfl rfl) h0 (hval 1 _ v1 rfl rfl) h1 (hval 2 _ v2 rfl rfl) h2 (hval 3 _ v3 rfl rfl) h3).mono fun e W' ⟨he, hb⟩ => ?_
  subst he
  exact ⟨_, rfl, _, _, _, [], _, [], hW', trodAll_mk1 (shut_bool Try.underlying4 _), trodAll_below_all (by kernel_rfl) hb (by kernel_rfl) hA1 hlt, rfl, hb.frame _, fun h => by cases h⟩
theorem busReads_row (walk : BusReadsWalk) : Rows.BusReadsSaid :=
  OpenClaim.holds_of_wide 4 Try.f4 rfl rfl rfl rfl rfl rfl rfl ⟨rfl, rfl, rfl, rfl, rfl⟩ rfl rfl rfl rfl rfl (by kernel_rfl) Try.func4 (by kernel_rfl)
    (of_decide_eq_true (by kernel_rfl)) (by unfold Func.isWrapper; first | (rw [if_pos (by decide +kernel)]; kernel_rfl) | (rw [if_neg (by decide +kernel)]; exact ⟨rfl, rfl⟩))
    (fun os started H enc _ => busReads_lifted walk os started H enc)
/-- The boxes of the law: the machine, its copy, what Read and Write left. -/
structure RD (w : World) (b1 b2 b3 : Nat) (M X Z : Mach) (S S0 Sx Sy : Sl) (Y : World) : Prop where
  low : Below w.heap.size w Y
  m : Bx Y w.heap.size (machL M S)
  ms : SlAt Y S M
  o : Bx Y b1 (machL M S0)
  os : SlAt Y S0 M
  x : Bx Y b2 (machL X Sx)
  xs : SlAt Y Sx X
  y : Bx Y b3 (machL Z Sy)
  ys : SlAt Y Sy Z
theorem RD.kept {w Y Y' : World} {b1 b2 b3 : Nat} {M X Z : Mach} {S S0 Sx Sy : Sl} (h : RD w b1 b2 b3 M X Z S S0 Sx Sy Y) (hb : Below Y.heap.size Y Y') : RD w b1 b2 b3 M X Z S S0 Sx Sy Y' :=
  ⟨stp h.low hb, h.m.kept hb, h.ms.kept hb, h.o.kept hb, h.os.kept hb, h.x.kept hb, h.xs.kept hb, h.y.kept hb, h.ys.kept hb⟩
/-- One box more. -/
structure R1 (w : World) (b1 : Nat) (M : Mach) (S S0 : Sl) (Y : World) : Prop where
  low : Below w.heap.size w Y
  m : Bx Y w.heap.size (machL M S)
  ms : SlAt Y S M
  o : Bx Y b1 (machL M S0)
  os : SlAt Y S0 M
theorem R1.kept {w Y Y' : World} {b1 : Nat} {M : Mach} {S S0 : Sl} (h : R1 w b1 M S S0 Y) (hb : Below Y.heap.size Y Y') : R1 w b1 M S S0 Y' := ⟨stp h.low hb, h.m.kept hb, h.ms.kept hb, h.o.kept hb, h.os.kept hb⟩
structure R2 (w : World) (b1 b2 : Nat) (M X : Mach) (S S0 Sx : Sl) (Y : World) : Prop where
  r : R1 w b1 M S S0 Y
  x : Bx Y b2 (machL X Sx)
  xs : SlAt Y Sx X
theorem R2.kept {w Y Y' : World} {b1 b2 : Nat} {M X : Mach} {S S0 Sx : Sl} (h : R2 w b1 b2 M X S S0 Sx Y) (hb : Below Y.heap.size Y Y') : R2 w b1 b2 M X S S0 Sx Y' := ⟨h.r.kept hb, h.x.kept hb, h.xs.kept hb⟩
theorem newBox {Y : World} {X : Mach} {S1 : Sl} (t : TypeId) : Below Y.heap.size Y ((Y.alloc (.cells (machL zeroM nilS).toArray t)).setCells Y.heap.size 0 (machL X S1)) ∧ Bx ((Y.alloc (.cells (machL zeroM nilS).toArray t)).setCells Y.heap.size 0 (machL X S1)) Y.heap.size (machL X S1) := by
  have hx := (Bx.new Y (machL zeroM nilS) t (b := Y.heap.size) rfl).puts 0 (machL X S1) (by rw [machL_len, machL_len]; omega)
  rw [putL_whole _ _ (by rw [machL_len, machL_len])] at hx
  exact ⟨Bl.puts (stA (st0 Y) _) (Nat.le_refl _) _, hx⟩
/-- What Read, Write leave, as the law asks. -/
def RdC (M X : Mach) (aux : Bool) (a bb ee : Int) : Prop := ∀ (S : Sl) (w : World), SlAt w S M → Calls Try.prog 16 #[.agg (machL M S).toArray, .bool aux, .int .u16 a] w fun e w' => ∃ S', e = .returned (.tuple #[.int .u8 bb, .agg (machL X S').toArray, .int .i64 ee]) ∧ SlAt w' S' X ∧ Below w.heap.size w w'
def WrC (M Z : Mach) (aux : Bool) (a n T ee : Int) : Prop := ∀ (S : Sl) (w : World), SlAt w S M → Calls Try.prog 17 #[.agg (machL M S).toArray, .bool aux, .int .u16 a, .int .u8 n] w fun e w' => ∃ S', e = .returned (.tuple #[.agg (machL Z S').toArray, .int .i64 T, .int .i64 ee]) ∧ SlAt w' S' Z ∧ Below w.heap.size w w'
theorem Bu.none_any2 (S : Sl) (w : World) (hs : SlAt w S zeroM) : Calls Try.prog 12 #[.agg (machL zeroM S).toArray] w fun e w' => e = .returned (.bool true) ∧ Below w.heap.size w w' := by
  have HB := hid (Bx.new w (machL zeroM S) 41 (b := w.heap.size) rfl)
  have HS := hid (hs.kept (stA (st0 w) (.cells (machL zeroM S).toArray 41)))
  clear hs
  go_enter Try.func12, Try.ntmps12
  go_wp2_with (first
    | (refine wpList_load_mid rfl 41 _ rfl w.heap.size 0 rfl (machL zeroM S) _ HB.out.c Try.underlying41 rfl info_mach ?_)
    | (refine wpList_build0 rfl 41 rfl _ (run_none _) ?_)
    | (go_at_call 13; refine (Bu.same_any zeroM S nilS _ HS.out (zero_at _)).mono ?_; rintro e w4 ⟨rfl, hb4⟩))
  go_ret
  exact ⟨rfl, stp (stA (st0 w) _) hb4⟩
set_option maxHeartbeats 3200000 in
theorem Bu.reads_bad (M : Mach) (S : Sl) (w : World) (aux : Bool) (a n c : Int) (hs : SlAt w S M) (hl : ∀ j, j < 5 → (M.byt j).length ≤ 140737488355328) (hr : RdC M zeroM aux a 0 c) (hw : WrC M zeroM aux a n 0 c) (hck : M.chk = c) (hne : (c != 0) = true) :
    Calls Try.prog 4 #[.agg (machL M S).toArray, .bool aux, .int .u16 a, .int .u8 n] w fun e w' => e = .returned (.bool true) ∧ Below w.heap.size w w' := by
  obtain ⟨X, hX⟩ : ∃ X, X = zeroM := ⟨_, rfl⟩
  obtain ⟨Z, hZ⟩ : ∃ Z, Z = zeroM := ⟨_, rfl⟩
  rw [← hX] at hr
  rw [← hZ] at hw
  have HXE := hid hX
  have HZE := hid hZ
  clear hX hZ
  have HB := hid (Bx.new w (machL M S) 41 (b := w.heap.size) rfl)
  have HL := hid (stA (st0 w) (.cells (machL M S).toArray 41))
  have HSL := hid hs
  have HLN := hid hl
  have HR := hid hr
  have HW := hid hw
  have HCK := hid hck
  clear hs hl hr hw hck
  go_enter Try.func4, Try.ntmps4
  go_upto_region 7 with (first
    | (refine Bu.loadG rfl 41 _ rfl w1.heap.size 0 rfl (machL M S0) _ HD.out.o.c Try.underlying41 rfl info_mach ?_)
    | (refine Bu.loadG rfl 41 _ rfl w.heap.size 0 rfl (machL M S) _ HD.out.m.c Try.underlying41 rfl info_mach ?_)
    | (refine wpList_load_mid rfl 41 _ rfl w.heap.size 0 rfl (machL M S) _ HE.out.m.c Try.underlying41 rfl info_mach ?_)
    | (refine wpList_load_mid rfl 41 _ rfl w1.heap.size 0 rfl (machL M S0) _ HR2.out.r.o.c Try.underlying41 rfl info_mach ?_)
    | (refine wpList_load_mid rfl 41 _ rfl w1.heap.size 0 rfl (machL M S0) _ HR1.out.o.c Try.underlying41 rfl info_mach ?_)
    | (refine wpList_load_mid rfl 41 _ rfl w.heap.size 0 rfl (machL M S) _ HB.out.c Try.underlying41 rfl info_mach ?_)
    | (go_at_call 15; refine (Gm.own_any M S _ (HSL.out.kept HL.out) HLN.out).mono ?_; rintro e w1 ⟨S0, rfl, ho1, hb1⟩; have HO1 := hid ho1.slAt; have HB1 := hid hb1; clear ho1 hb1)
    | (go_at_call 16; refine (HR.out S0 _ HR1.out.os).mono ?_; rintro e w2 ⟨Sx, rfl, hx2, hb2⟩; have HX2 := hid hx2; have HB2 := hid hb2; clear hx2 hb2)
    | (go_at_call 17; refine (HW.out S0 _ HR2.out.r.os).mono ?_; rintro e w3 ⟨Sy, rfl, hx3, hb3⟩; have HX3 := hid hx3; have HB3 := hid hb3; clear hx3 hb3)
    | (go_at_call 9; refine (Bu.bussed_any _).mono ?_; rintro e w4 ⟨rfl, hb4⟩; have HD := hid (HD0.out.kept hb4); clear hb4)
    | (go_at_call 13; refine (Bu.same_any M S0 S _ HD.out.os HD.out.ms).mono ?_; rintro e w5 ⟨rfl, hb5⟩; have HE := hid (HD.out.kept hb5); clear hb5)
    | (go_at_call 11; refine (Gm.check_any M S _ HE.out.ms.lens).mono ?_; rw [HCK.out]; rintro e w6 ⟨rfl, hb6⟩; have HF := hid (HE.out.kept hb6); clear hb6)
    | (refine wpList_store_mid rfl 41 _ _ rfl w3.heap.size 0 (machL Z Sy).toArray rfl rfl (zero_th w3 _) info_mach (machL_one _ _ HX3.out.isSl) ?_
       refine Pl.cutL (RD w w1.heap.size w2.heap.size w3.heap.size M X Z S S0 Sx Sy) (by
         obtain ⟨c1, c2⟩ := newBox (Y := w3) (X := Z) (S1 := Sy) 41
         have h := (HR2.out.kept HB3.out).kept c1
         exact ⟨h.r.low, h.r.m, h.r.ms, h.r.o, h.r.os, h.x, h.xs, c2, HX3.out.kept c1⟩) ?_
       intro Q3 hQ3
       have HD0 := hid hQ3
       clear hQ3)
    | (refine wpList_store_mid rfl 41 _ _ rfl w2.heap.size 0 (machL X Sx).toArray rfl rfl (zero_th w2 _) info_mach (machL_one _ _ HX2.out.isSl) ?_
       refine Pl.cutL (R2 w w1.heap.size w2.heap.size M X S S0 Sx) (by
         obtain ⟨c1, c2⟩ := newBox (Y := w2) (X := X) (S1 := Sx) 41
         exact ⟨(HR1.out.kept HB2.out).kept c1, c2, HX2.out.kept c1⟩) ?_
       intro Q2 hQ2
       have HR2 := hid hQ2
       clear hQ2)
    | (refine wpList_store_mid rfl 41 _ _ rfl w1.heap.size 0 (machL M S0).toArray rfl rfl (zero_th w1 _) info_mach (machL_one _ _ HO1.out.isSl) ?_
       refine Pl.cutL (R1 w w1.heap.size M S S0) (by
         obtain ⟨c1, c2⟩ := newBox (Y := w1) (X := M) (S1 := S0) 41
         have hq := HB1.out.trans (Below.mono c1 HB1.out.size)
         exact ⟨stp (stp HL.out HB1.out) c1, (HB.out.kept HB1.out).kept c1, ((HSL.out.kept HL.out).kept HB1.out).kept c1, c2, HO1.out.kept c1⟩) ?_
       intro Q1 hQ1
       have HR1 := hid hQ1
       clear hQ1))
  refine Pl.cutW (RD w w1.heap.size w2.heap.size w3.heap.size M X Z S S0 Sx Sy) HF.out ?_
  intro V hV
  have HV := hid hV
  clear hV HD HD0 HE HF HR1 HR2 HB HL HB1 HB2 HB3
  have hc2 := HXE.out
  have hc3 := HZE.out
  subst hc2
  subst hc3
  go_wp2_with (first
    | (refine Bu.loadG rfl 41 _ rfl w3.heap.size 0 rfl (machL zeroM Sy) _ HV8.out.y.c Try.underlying41 rfl info_mach ?_)
    | (refine Bu.loadG rfl 41 _ rfl w2.heap.size 0 rfl (machL zeroM Sx) _ HV.out.x.c Try.underlying41 rfl info_mach ?_)
    | (go_at_call 12; refine (Bu.none_any2 Sy _ HV8.out.ys).mono ?_; rintro e w9 ⟨rfl, hb9⟩; have HL9 := hid (stp HV8.out.low hb9); clear hb9)
    | (go_at_call 12; refine (Bu.none_any2 Sx _ HV.out.xs).mono ?_; rintro e w8 ⟨rfl, hb8⟩; have HV8 := hid (HV.out.kept hb8); clear hb8))
  go_ret
  exact ⟨rfl, HL9.out⟩
/-- Two games behind V. -/
structure GG (V : World) (F1 F2 : Gx) (M1 M2 : Mach) (t1 t2 : Tk) (Y : World) : Prop where
  low : Below V.heap.size V Y
  g1 : Gd F1 Y M1 t1
  g2 : Gd F2 Y M2 t2
  sep : ∀ k, F1.all k → ¬ F2.all k
  B1 : V.heap.size ≤ F1.B
  B2 : V.heap.size ≤ F2.B
section
variable {V Y Y' : World} {F1 F2 : Gx} {M1 M2 M' : Mach} {t1 t2 t' : Tk}
theorem GG.kept (h : GG V F1 F2 M1 M2 t1 t2 Y) (hb : Below Y.heap.size Y Y') : GG V F1 F2 M1 M2 t1 t2 Y' := ⟨stp h.low hb, h.g1.kept hb, h.g2.kept hb, h.sep, h.B1, h.B2⟩
theorem GG.go1 (h : GG V F1 F2 M1 M2 t1 Tk.zero Y) (hg : Gd F1 Y' M' t') (ht : Gt F1 Y Y') : GG V F1 F2 M' M2 t' Tk.zero Y' :=
  ⟨h.low.trans ((Mv.below ht).mono h.B1), hg, h.g2.of_same (Mv.size ht) (fun k hk ha => ht.block k hk (fun hT => h.sep k (Or.inl hT) ha)) (fun k e => by cases e), h.sep, h.B1, h.B2⟩
theorem GG.go2 (h : GG V F1 F2 M1 M2 Tk.zero t2 Y) (hg : Gd F2 Y' M' t') (hB : Below F2.B Y Y') (hb : ∀ k, k < Y.heap.size → ¬ F2.T k → Y'.heap[k]? = Y.heap[k]?) : GG V F1 F2 M1 M' Tk.zero t' Y' :=
  ⟨h.low.trans (hB.mono h.B2), h.g1.of_same hB.size (fun k hk ha => hb k hk (fun hT => h.sep k ha (Or.inl hT))) (fun k e => by cases e), hg, h.sep, h.B1, h.B2⟩
end
theorem sep_of {F1 F2 : Gx} {S1 S2 : Sl} {g1 g2 z1 z2 B1 B2 : Nat} (h1 : ∀ k, F1.all k → k = g1 ∨ ∃ j, j < 5 ∧ (S1.get j).ownBlock = some k) (h2 : ∀ k, F2.all k → k = g2 ∨ ∃ j, j < 5 ∧ (S2.get j).ownBlock = some k)
    (l1 : ∀ j k, j < 5 → (S1.get j).ownBlock = some k → B1 ≤ k ∧ k < z1) (l2 : ∀ j k, j < 5 → (S2.get j).ownBlock = some k → B2 ≤ k ∧ k < z2) (hz : z1 ≤ B2) (hg : g1 ≠ g2) (hg1 : g1 < B2 ∨ z2 ≤ g1) (hg2 : z1 ≤ g2 ∨ g2 < B1) : ∀ k, F1.all k → ¬ F2.all k := fun k a1 a2 => by
  rcases h1 k a1 with e1 | ⟨j1, hj1, e1⟩ <;> rcases h2 k a2 with e2 | ⟨j2, hj2, e2⟩
  · omega
  · have := l2 j2 k hj2 e2; omega
  · have := l1 j1 k hj1 e1; omega
  · have := l1 j1 k hj1 e1
    have := l2 j2 k hj2 e2
    omega
theorem OwnS.lt {B : Nat} {S : Sl} {M : Mach} {W : World} (h : OwnS B S M W) : ∀ j k, j < 5 → (S.get j).ownBlock = some k → B ≤ k ∧ k < W.heap.size := fun j k hj e => (h.own j hj).lt k e
theorem OwnS.room {B : Nat} {S : Sl} {M : Mach} {W : World} (h : OwnS B S M W) (hf : M.fit) : B ≤ W.heap.size := by
  obtain ⟨k, _, b, e⟩ := (h.own 2 (by omega)).rw
  have := ((h.own 2 (by omega)).lt k e).2
  omega
theorem below_sets {B : Nat} {a : World} : ∀ {w : World} {b : Nat}, Below B a w → B ≤ b → ∀ (vs : List Value) (o : Nat), Below B a (w.setCells b o vs)
  | w, b, h, hb, [], o => h
  | w, b, h, hb, v :: vs, o => below_sets (h.setCell (p := ⟨b, o, none⟩) hb v) hb vs (o + 1)
/-- Behind what the games hand out: a box whose first cell holds what reads, another whose second holds what writes. -/
structure QM (V : World) (F1 F2 : Gx) (M1 M2 : Mach) (b2 : Nat) (m2 h2 l2 g2 : Nat) (Z : World) : Prop where
  gg : GG V F1 F2 M1 M2 Tk.zero Tk.zero Z
  z2 : b2 < Z.heap.size
  c2 : Z.cell? ⟨b2, 1, none⟩ = some (fval 38 #[pt m2 0, pt h2 0, pt l2 0, pt g2 0])
  pu : Pu F2 Z m2 h2 l2 g2
  nf : ¬ F1.T b2 ∧ ¬ F1.T m2 ∧ ¬ F1.T h2 ∧ ¬ F1.T l2 ∧ ¬ F1.T g2
structure QA (V : World) (F1 F2 : Gx) (M1 M2 : Mach) (b2 : Nat) (m2 g2 : Nat) (Z : World) : Prop where
  gg : GG V F1 F2 M1 M2 Tk.zero Tk.zero Z
  z2 : b2 < Z.heap.size
  c2 : Z.cell? ⟨b2, 1, none⟩ = some (fval 42 #[pt m2 0, pt g2 0])
  pm : Pb F2 Z m2
  pg : Pb F2 Z g2
  nf : ¬ F1.T b2 ∧ ¬ F1.T m2 ∧ ¬ F1.T g2
section
variable {V Y Z Z' : World} {F1 F2 F : Gx} {M1 M2 M' : Mach} {t' tk : Tk} {b2 m2 h2 l2 g2 : Nat}
theorem Pb.over {b : Nat} (h : Pb F2 Z b) (ht : Gt F1 Z Z') (hn : ¬ F1.T b) : Pb F2 Z' b := ⟨Nat.lt_of_lt_of_le h.1 (Mv.size ht), (Mv.cell ht h.1 hn 0).trans h.2.1, h.2.2⟩
theorem QM.go (h : QM V F1 F2 M1 M2 b2 m2 h2 l2 g2 Z) (hg : Gd F1 Z' M' Tk.zero) (ht : Gt F1 Z Z') : QM V F1 F2 M' M2 b2 m2 h2 l2 g2 Z' := by
  obtain ⟨n1, n2, n3, n4, n5⟩ := h.nf
  exact ⟨h.gg.go1 hg ht, Nat.lt_of_lt_of_le h.z2 (Mv.size ht), (Mv.cell ht h.z2 n1 1).trans h.c2, ⟨h.pu.m.over ht n2, h.pu.g.over ht n5, ⟨Nat.lt_of_lt_of_le h.pu.h.1 (Mv.size ht), (Mv.cell ht h.pu.h.1 n3 0).trans h.pu.h.2.1, h.pu.h.2.2⟩, ⟨Nat.lt_of_lt_of_le h.pu.l.1 (Mv.size ht), (Mv.cell ht h.pu.l.1 n4 0).trans h.pu.l.2.1, h.pu.l.2.2⟩⟩, h.nf⟩
theorem QA.go (h : QA V F1 F2 M1 M2 b2 m2 g2 Z) (hg : Gd F1 Z' M' Tk.zero) (ht : Gt F1 Z Z') : QA V F1 F2 M' M2 b2 m2 g2 Z' := by
  obtain ⟨n1, n2, n3⟩ := h.nf
  exact ⟨h.gg.go1 hg ht, Nat.lt_of_lt_of_le h.z2 (Mv.size ht), (Mv.cell ht h.z2 n1 1).trans h.c2, h.pm.over ht n2, h.pg.over ht n3, h.nf⟩
theorem Pu.kept (h : Pu F Z m2 h2 l2 g2) (hb : Below Z.heap.size Z Z') : Pu F Z' m2 h2 l2 g2 :=
  ⟨h.m.kept hb, h.g.kept hb, ⟨Nat.lt_of_lt_of_le h.h.1 hb.size, (hb.cell (p := ⟨h2, 0, none⟩) h.h.1).trans h.h.2.1, h.h.2.2⟩, ⟨Nat.lt_of_lt_of_le h.l.1 hb.size, (hb.cell (p := ⟨l2, 0, none⟩) h.l.1).trans h.l.2.1, h.l.2.2⟩⟩
theorem MainV.kept {g n : Nat} (h : MainV g n Z) (hb : Below Z.heap.size Z Z') : MainV g n Z' := by
  obtain ⟨z, a, b, c, d⟩ := h
  exact ⟨Nat.lt_of_lt_of_le z hb.size, (hb.cell (p := ⟨n, 0, none⟩) (by show n < _; omega)).trans a, (hb.cell (p := ⟨n + 2, 0, none⟩) (by show n + 2 < _; omega)).trans b, (hb.cell (p := ⟨n + 3, 0, none⟩) (by show n + 3 < _; omega)).trans c, (hb.cell (p := ⟨n + 4, 0, none⟩) z).trans d⟩
theorem AuxV.kept {g n : Nat} (h : AuxV g n Z) (hb : Below Z.heap.size Z Z') : AuxV g n Z' := by
  obtain ⟨z, a, b⟩ := h
  exact ⟨Nat.lt_of_lt_of_le z hb.size, (hb.cell (p := ⟨n, 0, none⟩) (by show n < _; omega)).trans a, (hb.cell (p := ⟨n + 2, 0, none⟩) z).trans b⟩
/-- The two values of the main processor, in two boxes. -/
structure TwoM (V : World) (F1 F2 : Gx) (M : Mach) (Y : World) (n2 b : Nat) (Z : World) : Prop where
  low : Below Y.heap.size Y Z
  v1 : MainV F1.g Y.heap.size Z
  v2 : MainV F2.g n2 Z
  hn : Y.heap.size ≤ n2
  hb : Y.heap.size ≤ b
  x1 : Bx Z b [fval 31 #[pt Y.heap.size 0, pt (Y.heap.size + 2) 0], fval 38 #[pt (Y.heap.size + 2) 0, pt (Y.heap.size + 3) 0, pt (Y.heap.size + 4) 0, pt Y.heap.size 0]]
  x2 : Bx Z (b + 1) [fval 31 #[pt n2 0, pt (n2 + 2) 0], fval 38 #[pt (n2 + 2) 0, pt (n2 + 3) 0, pt (n2 + 4) 0, pt n2 0]]
theorem Gd.fr {n : Nat} (h : Gd F Y M1 tk) (hn : Y.heap.size ≤ n) : ¬ F.T n := h.fresh hn
theorem TwoM.qm {n2 b : Nat} (h : TwoM V F1 F2 M1 Y n2 b Z) (hG : GG V F1 F2 M1 M1 Tk.zero Tk.zero Y) : QM V F1 F2 M1 M1 (b + 1) (n2 + 2) (n2 + 3) (n2 + 4) n2 Z ∧ Pb F1 Z Y.heap.size ∧ Pb F1 Z (Y.heap.size + 2) := by
  have hn := h.hn
  have hb := h.hb
  have z1 := h.v1.z
  have z2 := h.v2.z
  exact ⟨⟨hG.kept h.low, h.x2.z, h.x2.at 1 _ rfl, ⟨⟨by omega, h.v2.b, hG.g2.fr (by omega)⟩, ⟨by omega, h.v2.a, hG.g2.fr (by omega)⟩, ⟨by omega, h.v2.c, hG.g2.fr (by omega)⟩, ⟨h.v2.z, h.v2.d, hG.g2.fr (by omega)⟩⟩, ⟨hG.g1.fr (by omega), hG.g1.fr (by omega), hG.g1.fr (by omega), hG.g1.fr (by omega), hG.g1.fr (by omega)⟩⟩,
    ⟨by omega, h.v1.a, hG.g1.fr (by omega)⟩, ⟨by omega, h.v1.b, hG.g1.fr (by omega)⟩⟩
/-- Those of the other one. -/
structure TwoA (V : World) (F1 F2 : Gx) (M : Mach) (Y : World) (n1 n2 b : Nat) (Z : World) : Prop where
  low : Below Y.heap.size Y Z
  v1 : AuxV F1.g n1 Z
  v2 : AuxV F2.g n2 Z
  hn1 : Y.heap.size ≤ n1
  hn : Y.heap.size ≤ n2
  hb : Y.heap.size ≤ b
  x1 : Bx Z b [fval 40 #[pt (n1 + 2) 0], fval 42 #[pt (n1 + 2) 0, pt n1 0]]
  x2 : Bx Z (b + 1) [fval 40 #[pt (n2 + 2) 0], fval 42 #[pt (n2 + 2) 0, pt n2 0]]
theorem TwoA.qa {n1 n2 b : Nat} (h : TwoA V F1 F2 M1 Y n1 n2 b Z) (hG : GG V F1 F2 M1 M1 Tk.zero Tk.zero Y) : QA V F1 F2 M1 M1 (b + 1) (n2 + 2) n2 Z ∧ Pb F1 Z (n1 + 2) := by
  have hn := h.hn
  have hn1 := h.hn1
  have hb := h.hb
  have z1 := h.v1.z
  have z2 := h.v2.z
  exact ⟨⟨hG.kept h.low, h.x2.z, h.x2.at 1 _ rfl, ⟨by omega, h.v2.b, hG.g2.fr (by omega)⟩, ⟨by omega, h.v2.a, hG.g2.fr (by omega)⟩, ⟨hG.g1.fr (by omega), hG.g1.fr (by omega), hG.g1.fr (by omega)⟩⟩, ⟨by omega, h.v1.b, hG.g1.fr (by omega)⟩⟩
/-- Two new boxes of two cells. -/
theorem two_new (W : World) (t : TypeId) (L0 L1 L2 : List Value) (h0 : L0.length = 2) (h1 : L1.length = 2) (h2 : L2.length = 2) : Below W.heap.size W ((((W.alloc (.cells L0.toArray t)).alloc (.cells L0.toArray t)).setCells W.heap.size 0 L1).setCells (W.heap.size + 1) 0 L2) ∧
    Bx ((((W.alloc (.cells L0.toArray t)).alloc (.cells L0.toArray t)).setCells W.heap.size 0 L1).setCells (W.heap.size + 1) 0 L2) W.heap.size L1 ∧ Bx ((((W.alloc (.cells L0.toArray t)).alloc (.cells L0.toArray t)).setCells W.heap.size 0 L1).setCells (W.heap.size + 1) 0 L2) (W.heap.size + 1) L2 := by
  have hx := (Bx.new W L0 t (b := W.heap.size) rfl).over (.cells L0.toArray t)
  have hy := Bx.new (W.alloc (.cells L0.toArray t)) L0 t (b := W.heap.size + 1) (by simp)
  have hx1 := hx.puts 0 L1 (by omega)
  rw [putL_whole _ _ (by omega)] at hx1
  have hy1 : Bx (((W.alloc (.cells L0.toArray t)).alloc (.cells L0.toArray t)).setCells W.heap.size 0 L1) (W.heap.size + 1) L0 := hy.same (Nat.le_of_eq (size_sets _ _ _ _).symm) (heap_sets_far (by omega) _ _ _)
  have hy2 := hy1.puts 0 L2 (by omega)
  rw [putL_whole _ _ (by omega)] at hy2
  exact ⟨Bl.puts (Bl.puts (stA (stA (st0 W) _) _) (Nat.le_refl _) _) (by omega) _, hx1.same (Nat.le_of_eq (size_sets _ _ _ _).symm) (heap_sets_far (by omega) _ _ _), hy2⟩
theorem two_made (W : World) (t : TypeId) (L1 L2 : List Value) : Below W.heap.size W ((W.alloc (.cells L1.toArray t)).alloc (.cells L2.toArray t)) ∧ Bx ((W.alloc (.cells L1.toArray t)).alloc (.cells L2.toArray t)) W.heap.size L1 ∧ Bx ((W.alloc (.cells L1.toArray t)).alloc (.cells L2.toArray t)) (W.heap.size + 1) L2 :=
  ⟨stA (stA (st0 W) _) _, (Bx.new W L1 t (b := W.heap.size) rfl).over (.cells L2.toArray t), Bx.new (W.alloc (.cells L1.toArray t)) L2 t (b := W.heap.size + 1) (by simp)⟩
theorem two_th1 (W : World) (t : TypeId) (L0 : List Value) (h0 : L0.length = 2) : ((W.alloc (.cells L0.toArray t)).alloc (.cells L0.toArray t)).there W.heap.size 0 2 := ((Bx.new W L0 t (b := W.heap.size) rfl).over (.cells L0.toArray t)).there 0 2 (by omega)
theorem two_th2 (W : World) (t : TypeId) (L0 L1 : List Value) (h0 : L0.length = 2) : (((W.alloc (.cells L0.toArray t)).alloc (.cells L0.toArray t)).setCells W.heap.size 0 L1).there (W.heap.size + 1) 0 2 :=
  have hy := Bx.new (W.alloc (.cells L0.toArray t)) L0 t (b := W.heap.size + 1) (by simp)
  (hy.same (w1 := ((W.alloc (.cells L0.toArray t)).alloc (.cells L0.toArray t)).setCells W.heap.size 0 L1) (Nat.le_of_eq (size_sets _ _ _ _).symm) (heap_sets_far (by omega) _ _ _)).there 0 2 (by omega)
theorem two_put {W : World} {b : Nat} {L0 L0' L1 L2 : List Value} (hx : Bx W b L0) (hy : Bx W (b + 1) L0') (h1 : L1.length = L0.length) (h2 : L2.length = L0'.length) (B : Nat) (hB : B ≤ b) : Below B W ((W.setCells b 0 L1).setCells (b + 1) 0 L2) ∧ Bx ((W.setCells b 0 L1).setCells (b + 1) 0 L2) b L1 ∧ Bx ((W.setCells b 0 L1).setCells (b + 1) 0 L2) (b + 1) L2 := by
  have hx1 := hx.puts 0 L1 (by omega)
  rw [putL_whole _ _ h1] at hx1
  have hy1 : Bx (W.setCells b 0 L1) (b + 1) L0' := hy.same (Nat.le_of_eq (size_sets _ _ _ _).symm) (heap_sets_far (by omega) _ _ _)
  have hy2 := hy1.puts 0 L2 (by omega)
  rw [putL_whole _ _ h2] at hy2
  exact ⟨below_sets (below_sets (Below.refl _ _) hB _ _) (by omega) _ _, hx1.same (Nat.le_of_eq (size_sets _ _ _ _).symm) (heap_sets_far (by omega) _ _ _), hy2⟩
end
/-- What the law's last row looks at. -/
structure EB (V w : World) (b1 b2 b3 : Nat) (F1 F2 : Gx) (M X Z : Mach) (S S0 Sx Sy : Sl) (T : Int) (Y : World) : Prop where
  r : RD w b1 b2 b3 M X Z S S0 Sx Sy Y
  g1r : Bx Y F1.g (machL X F1.S ++ [.slice none 0 0, .int .i64 0])
  g1s : SlAt Y F1.S X
  g2s : SlAt Y F2.S Z
  g2r : Y.rangeAt F2.g 0 (machL Z F2.S)
  g2z : F2.g < Y.heap.size
  g1z : F1.g < Y.heap.size
  g1w : Y.rangeAt F1.g 0 (machL X F1.S)
  d : Y.cell? ⟨F2.g, 76, none⟩ = some (.int .i64 T)
theorem range_kept {Y Y' : World} {b o : Nat} {L : List Value} (h : Y.rangeAt b o L) (hz : b < Y.heap.size) (hb : Below Y.heap.size Y Y') : Y'.rangeAt b o L := fun i v hi => (hb.cell (p := ⟨b, o + i, none⟩) hz).trans (h i v hi)
theorem EB.kept {V w Y Y' : World} {b1 b2 b3 : Nat} {F1 F2 : Gx} {M X Z : Mach} {S S0 Sx Sy : Sl} {T : Int} (h : EB V w b1 b2 b3 F1 F2 M X Z S S0 Sx Sy T Y) (hb : Below Y.heap.size Y Y') : EB V w b1 b2 b3 F1 F2 M X Z S S0 Sx Sy T Y' :=
  ⟨h.r.kept hb, h.g1r.kept hb, h.g1s.kept hb, h.g2s.kept hb, range_kept h.g2r h.g2z hb, Nat.lt_of_lt_of_le h.g2z hb.size, Nat.lt_of_lt_of_le h.g1z hb.size, range_kept h.g1w h.g1z hb, (hb.cell (p := ⟨F2.g, 76, none⟩) h.g2z).trans h.d⟩
theorem EB.s {V w Y : World} {b1 b2 b3 : Nat} {F1 F2 : Gx} {M X Z : Mach} {S S0 Sx Sy : Sl} {T : Int} (h : EB V w b1 b2 b3 F1 F2 M X Z S S0 Sx Sy T Y) : Y.rangeAt b2 0 (machL X Sx) ∧ Y.rangeAt F1.g 0 (machL X F1.S) ∧ Y.cell? ⟨F2.g, 76, none⟩ = some (.int .i64 T) ∧ Y.rangeAt b3 0 (machL Z Sy) ∧ Y.rangeAt F2.g 0 (machL Z F2.S) :=
  ⟨h.r.x.c, h.g1w, h.d, h.r.y.c, h.g2r⟩
theorem EB.mk' {V w Y : World} {b1 b2 b3 : Nat} {F1 F2 : Gx} {M X Z : Mach} {S S0 Sx Sy : Sl} {T : Int} {t2 : Tk} (hr : RD w b1 b2 b3 M X Z S S0 Sx Sy V) (hg : GG V F1 F2 X Z Tk.zero t2 Y) (ht : t2.n = T) : EB V w b1 b2 b3 F1 F2 M X Z S S0 Sx Sy T Y :=
  ⟨hr.kept hg.low, hg.g1.bx, hg.g1.slAt, hg.g2.slAt, hg.g2.row, hg.g2.bx.z, hg.g1.bx.z, hg.g1.row, by
    have := hg.g2.at 76 (.int .i64 t2.n) rfl
    rw [this, ht]⟩
theorem auxv_far {W : World} {g n b : Nat} {L1 L2 : List Value} (h : AuxV g n W) (h1 : n ≠ b ∧ n + 2 ≠ b) (h2 : n ≠ b + 1 ∧ n + 2 ≠ b + 1) : AuxV g n ((W.setCells b 0 L1).setCells (b + 1) 0 L2) := by
  have e : ∀ k, k ≠ b → k ≠ b + 1 → ((W.setCells b 0 L1).setCells (b + 1) 0 L2).heap[k]? = W.heap[k]? := fun k x y => (heap_sets_far y _ _ _).trans (heap_sets_far x _ _ _)
  exact ⟨by rw [size_sets, size_sets]; exact h.z, (World.cell?_of_block (w := W) (e n h1.1 h2.1)).trans h.a, (World.cell?_of_block (w := W) (e (n + 2) h1.2 h2.2)).trans h.b⟩
theorem auxv_put {U1 u1 u2 : World} {g b : Nat} {L1 L2 : List Value} (h : AuxV g U1.heap.size u1) (hb : Below u1.heap.size u1 u2) (hz : b + 1 < U1.heap.size) : AuxV g U1.heap.size ((u2.setCells b 0 L1).setCells (b + 1) 0 L2) := auxv_far (h.kept hb) ⟨by omega, by omega⟩ ⟨by omega, by omega⟩
theorem auxv_put0 {u1 u2 : World} {g b : Nat} {L1 L2 : List Value} (h : AuxV g u1.heap.size u2) (hz : b + 1 < u1.heap.size) : AuxV g u1.heap.size ((u2.setCells b 0 L1).setCells (b + 1) 0 L2) := auxv_far h ⟨by omega, by omega⟩ ⟨by omega, by omega⟩
theorem two_th4 {W : World} {b : Nat} {L0 L0' : List Value} (hx : Bx W b L0) (hy : Bx W (b + 1) L0') (h2 : L0'.length = 2) (L1 : List Value) : (W.setCells b 0 L1).there (b + 1) 0 2 :=
  (hy.same (w1 := W.setCells b 0 L1) (Nat.le_of_eq (size_sets _ _ _ _).symm) (heap_sets_far (by omega) _ _ _)).there 0 2 (by omega)
theorem info_mem : (Try.prog.info? 63).map (·.size) = some 2 := by kernel_rfl
set_option maxHeartbeats 6400000 in
theorem Bu.reads_ok0 (M X Z : Mach) (S : Sl) (w : World) (a n bb T : Int) (ha : 0 ≤ a ∧ a ≤ 65535) (hn : 0 ≤ n ∧ n ≤ 255) (hf : M.fit) (hs : SlAt w S M) (hl : ∀ j, j < 5 → (M.byt j).length ≤ 140737488355328) (hr : RdC M X false a bb 0) (hw : WrC M Z false a n T 0) (hck : M.chk = 0)
    (ex : M.rdM a = (bb, X)) (ez : M.wrM a n = Z) (et : tookM a n = T) :
    Calls Try.prog 4 #[.agg (machL M S).toArray, .bool false, .int .u16 a, .int .u8 n] w fun e w' => e = .returned (.bool true) ∧ Below w.heap.size w w' := by
  have HF0 := hid hf
  have HEX := hid ex
  have HEZ := hid ez
  have HET := hid et
  clear hf ex ez et
  have HB := hid (Bx.new w (machL M S) 41 (b := w.heap.size) rfl)
  have HL := hid (stA (st0 w) (.cells (machL M S).toArray 41))
  have HSL := hid hs
  have HLN := hid hl
  have HR := hid hr
  have HW := hid hw
  have HCK := hid hck
  clear hs hl hr hw hck
  go_enter Try.func4, Try.ntmps4
  go_upto_region 7 with (first
    | (refine Bu.loadG rfl 41 _ rfl w1.heap.size 0 rfl (machL M S0) _ HD.out.o.c Try.underlying41 rfl info_mach ?_)
    | (refine Bu.loadG rfl 41 _ rfl w.heap.size 0 rfl (machL M S) _ HD.out.m.c Try.underlying41 rfl info_mach ?_)
    | (refine wpList_load_mid rfl 41 _ rfl w.heap.size 0 rfl (machL M S) _ HE.out.m.c Try.underlying41 rfl info_mach ?_)
    | (refine wpList_load_mid rfl 41 _ rfl w1.heap.size 0 rfl (machL M S0) _ HR2.out.r.o.c Try.underlying41 rfl info_mach ?_)
    | (refine wpList_load_mid rfl 41 _ rfl w1.heap.size 0 rfl (machL M S0) _ HR1.out.o.c Try.underlying41 rfl info_mach ?_)
    | (refine wpList_load_mid rfl 41 _ rfl w.heap.size 0 rfl (machL M S) _ HB.out.c Try.underlying41 rfl info_mach ?_)
    | (go_at_call 15; refine (Gm.own_any M S _ (HSL.out.kept HL.out) HLN.out).mono ?_; rintro e w1 ⟨S0, rfl, ho1, hb1⟩; have HO1 := hid ho1.slAt; have HB1 := hid hb1; clear ho1 hb1)
    | (go_at_call 16; refine (HR.out S0 _ HR1.out.os).mono ?_; rintro e w2 ⟨Sx, rfl, hx2, hb2⟩; have HX2 := hid hx2; have HB2 := hid hb2; clear hx2 hb2)
    | (go_at_call 17; refine (HW.out S0 _ HR2.out.r.os).mono ?_; rintro e w3 ⟨Sy, rfl, hx3, hb3⟩; have HX3 := hid hx3; have HB3 := hid hb3; clear hx3 hb3)
    | (go_at_call 9; refine (Bu.bussed_any _).mono ?_; rintro e w4 ⟨rfl, hb4⟩; have HD := hid (HD0.out.kept hb4); clear hb4)
    | (go_at_call 13; refine (Bu.same_any M S0 S _ HD.out.os HD.out.ms).mono ?_; rintro e w5 ⟨rfl, hb5⟩; have HE := hid (HD.out.kept hb5); clear hb5)
    | (go_at_call 11; refine (Gm.check_any M S _ HE.out.ms.lens).mono ?_; rw [HCK.out]; rintro e w6 ⟨rfl, hb6⟩; have HF := hid (HE.out.kept hb6); clear hb6)
    | (refine wpList_store_mid rfl 41 _ _ rfl w3.heap.size 0 (machL Z Sy).toArray rfl rfl (zero_th w3 _) info_mach (machL_one _ _ HX3.out.isSl) ?_
       refine Pl.cutL (RD w w1.heap.size w2.heap.size w3.heap.size M X Z S S0 Sx Sy) (by
         obtain ⟨c1, c2⟩ := newBox (Y := w3) (X := Z) (S1 := Sy) 41
         have h := (HR2.out.kept HB3.out).kept c1
         exact ⟨h.r.low, h.r.m, h.r.ms, h.r.o, h.r.os, h.x, h.xs, c2, HX3.out.kept c1⟩) ?_
       intro Q3 hQ3
       have HD0 := hid hQ3
       clear hQ3)
    | (refine wpList_store_mid rfl 41 _ _ rfl w2.heap.size 0 (machL X Sx).toArray rfl rfl (zero_th w2 _) info_mach (machL_one _ _ HX2.out.isSl) ?_
       refine Pl.cutL (R2 w w1.heap.size w2.heap.size M X S S0 Sx) (by
         obtain ⟨c1, c2⟩ := newBox (Y := w2) (X := X) (S1 := Sx) 41
         exact ⟨(HR1.out.kept HB2.out).kept c1, c2, HX2.out.kept c1⟩) ?_
       intro Q2 hQ2
       have HR2 := hid hQ2
       clear hQ2)
    | (refine wpList_store_mid rfl 41 _ _ rfl w1.heap.size 0 (machL M S0).toArray rfl rfl (zero_th w1 _) info_mach (machL_one _ _ HO1.out.isSl) ?_
       refine Pl.cutL (R1 w w1.heap.size M S S0) (by
         obtain ⟨c1, c2⟩ := newBox (Y := w1) (X := M) (S1 := S0) 41
         have hq := HB1.out.trans (Below.mono c1 HB1.out.size)
         exact ⟨stp (stp HL.out HB1.out) c1, (HB.out.kept HB1.out).kept c1, ((HSL.out.kept HL.out).kept HB1.out).kept c1, c2, HO1.out.kept c1⟩) ?_
       intro Q1 hQ1
       have HR1 := hid hQ1
       clear hQ1))
  refine Pl.cutW (RD w w1.heap.size w2.heap.size w3.heap.size M X Z S S0 Sx Sy) HF.out ?_
  intro V hV
  have HV := hid hV
  clear hV HD HD0 HE HF HR1 HR2 HB HL HB1 HB2 HB3 HR HW HCK HO1 HX2 HX3 HSL
  go_upto_region 9 with fail
  go_cut [17, 18] (fun v17 v18 Y => ∃ F1 F2, v17 = pt F1.g 0 ∧ v18 = pt F2.g 0 ∧ GG V F1 F2 M M Tk.zero Tk.zero Y)
  case first =>
    refine wp_region_held_drew (S := fun w' => w'.rangeAt w.heap.size 0 (machL M S)) (by kernel_rfl) ((HV.out.kept (st0 V).drew).m.c) ?_
    intro hS
    refine wpAnyH_take (i := 0) (oi := { dst := some 77, op := _, type := _, pos := _, after := _, guard := none }) (v := .agg (machL M S).toArray) rfl (by kernel_rfl) (by kernel_rfl) (by kernel_rfl) (fun _ _ _ h => h) (Or.inl ⟨by rfl, fun w' hSw => exec_load_mid 41 _ rfl w.heap.size 0 rfl (machL M S) _ hSw Try.underlying41 rfl info_mach⟩) hS ?_
    simp only [Act.put, List.setIfInBounds_toArray, List.set_cons_zero, List.set_cons_succ]
    refine wpAnyH_take (i := 4) (oi := { dst := some 81, op := _, type := _, pos := _, after := _, guard := none }) (v := .agg (machL M S).toArray) rfl (by kernel_rfl) (by kernel_rfl) (by kernel_rfl) (fun _ _ _ h => h) (Or.inl ⟨by rfl, fun w' hSw => exec_load_mid 41 _ rfl w.heap.size 0 rfl (machL M S) _ hSw Try.underlying41 rfl info_mach⟩) hS ?_
    simp only [Act.put, List.setIfInBounds_toArray, List.set_cons_zero, List.set_cons_succ]
    refine wpAnyH_ready (rs := [1]) (by kernel_rfl) (by simp) ?_
    refine AllReadyH.cons (o := { dst := some 78, op := _, type := _, pos := _, after := _, guard := none }) rfl (fun K hK => ?_) AllReadyH.nil
    go_simp
    go_at_call 15
    refine (Gm.own_any M S _ (HV.out.kept (st0 V).drew).ms HLN.out).mono ?_
    rintro e u1 ⟨S1, rfl, hou1, hbu1⟩
    have HOu1 := hid hou1
    have HBu1 := hid hbu1
    have HDu1 := hid ((HV.out.kept (st0 V).drew).kept hbu1)
    have hSu1 : u1.rangeAt w.heap.size 0 (machL M S) := HDu1.out.m.c
    clear hou1 hbu1
    try go_wp2_with fail
    refine hK.out _ _ hSu1 (fun _ => ?_)
    clear hK K
    try simp only [Act.put, List.setIfInBounds_toArray, List.set_cons_zero, List.set_cons_succ]
    clear hS
    have hS := hSu1
    refine wpAnyH_take (i := 2) (oi := { dst := some 79, op := _, type := _, pos := _, after := _, guard := none }) (v := .agg (machL M S1 ++ gtl).toArray) rfl (by kernel_rfl) (by kernel_rfl) (by kernel_rfl) (fun _ _ _ h => h) (Or.inl ⟨by rfl, fun w' _ => exec_build1 59 0 _ rfl (.agg (machL M S1).toArray) (.agg (machL M S1 ++ gtl).toArray) rfl (run_game M S1 w')⟩) hS ?_
    simp only [Act.put, List.setIfInBounds_toArray, List.set_cons_zero, List.set_cons_succ]
    refine wpAnyH_ready (rs := [3, 5]) (by kernel_rfl) (by simp) ?_
    refine AllReadyH.cons (o := { dst := some 80, op := _, type := _, pos := _, after := _, guard := none }) rfl (fun K hK => ?_) (AllReadyH.cons (o := { dst := some 82, op := _, type := _, pos := _, after := _, guard := none }) rfl (fun K hK => ?_) AllReadyH.nil)
    · go_simp
      have HD2 := hid (HDu1.out.kept (stA (st0 u1) (.cells (machL M S1 ++ gtl).toArray 59)))
      have hS2 : (u1.alloc (.cells (machL M S1 ++ gtl).toArray 59)).rangeAt w.heap.size 0 (machL M S) := HD2.out.m.c
      refine hK.out _ _ hS2 (fun _ => ?_)
      clear hK K hS
      have hS := hS2
      try simp only [Act.put, List.setIfInBounds_toArray, List.set_cons_zero, List.set_cons_succ]
      refine wpAnyH_ready (rs := [5]) (by kernel_rfl) (by simp) ?_
      refine AllReadyH.cons (o := { dst := some 82, op := _, type := _, pos := _, after := _, guard := none }) rfl (fun K hK => ?_) AllReadyH.nil
      go_simp
      go_at_call 15
      refine (Gm.own_any M S _ HD2.out.ms HLN.out).mono ?_
      rintro e u2 ⟨S2, rfl, hou2, hbu2⟩
      have HOu2 := hid hou2
      have HBu2 := hid hbu2
      have HDu2 := hid (HD2.out.kept hbu2)
      have hSu2 : u2.rangeAt w.heap.size 0 (machL M S) := HDu2.out.m.c
      clear hou2 hbu2
      try go_wp2_with fail
      refine hK.out _ _ hSu2 (fun _ => ?_)
      clear hK K
      try simp only [Act.put, List.setIfInBounds_toArray, List.set_cons_zero, List.set_cons_succ]
      clear hS
      have hS := hSu2
      refine wpAnyH_take (i := 6) (oi := { dst := some 83, op := _, type := _, pos := _, after := _, guard := none }) (v := .agg (machL M S2 ++ gtl).toArray) rfl (by kernel_rfl) (by kernel_rfl) (by kernel_rfl) (fun _ _ _ h => h) (Or.inl ⟨by rfl, fun w' _ => exec_build1 59 0 _ rfl (.agg (machL M S2).toArray) (.agg (machL M S2 ++ gtl).toArray) rfl (run_game M S2 w')⟩) hS ?_
      simp only [Act.put, List.setIfInBounds_toArray, List.set_cons_zero, List.set_cons_succ]
      refine wpAnyH_take (i := 8) (oi := { dst := some 17, op := _, type := _, pos := _, after := _, guard := none }) (v := ?_) rfl (by kernel_rfl) (by kernel_rfl) (by kernel_rfl) (fun _ _ _ h => h) (Or.inl ⟨by rfl, ?_⟩) hS ?_
      rotate_left 1
      focus (intro w hSw; (try dsimp only at hSw); go_simp; try (with_reducible rfl))
      simp only [Act.put, List.setIfInBounds_toArray, List.set_cons_zero, List.set_cons_succ]
      refine wpAnyH_ready (rs := [7]) (by kernel_rfl) (by simp) ?_
      refine AllReadyH.cons (o := { dst := some 84, op := _, type := _, pos := _, after := _, guard := none }) rfl (fun K hK => ?_) AllReadyH.nil
      go_simp
      have HD3 := hid (HDu2.out.kept (stA (st0 u2) (.cells (machL M S2 ++ gtl).toArray 59)))
      have hS3 : (u2.alloc (.cells (machL M S2 ++ gtl).toArray 59)).rangeAt w.heap.size 0 (machL M S) := HD3.out.m.c
      refine hK.out _ _ hS3 (fun _ => ?_)
      clear hK K hS
      have hS := hS3
      try simp only [Act.put, List.setIfInBounds_toArray, List.set_cons_zero, List.set_cons_succ]
      refine wpAnyH_take (i := 9) (oi := { dst := some 18, op := _, type := _, pos := _, after := _, guard := none }) (v := ?_) rfl (by kernel_rfl) (by kernel_rfl) (by kernel_rfl) (fun _ _ _ h => h) (Or.inl ⟨by rfl, ?_⟩) hS ?_
      rotate_left 1
      focus (intro w hSw; (try dsimp only at hSw); go_simp; try (with_reducible rfl))
      simp only [Act.put, List.setIfInBounds_toArray, List.set_cons_zero, List.set_cons_succ]
      have zv := HBu1.out.size
      have zu := HBu2.out.size
      have zd : V.drew.heap.size = V.heap.size := rfl
      obtain ⟨F1, f1, f2, f3, f4, f5, f6⟩ := Gd.ofOwn HOu1.out HF0.out (by have := HOu1.out.lt 2; have := HOu1.out.room HF0.out; omega) 59
      obtain ⟨F2, e1, e2, e3, e4, e5, e6⟩ := Gd.ofOwn HOu2.out HF0.out (HOu2.out.room HF0.out) 59
      have zs : (u1.alloc (.cells (machL M S1 ++ gtl).toArray 59)).heap.size = u1.heap.size + 1 := by simp
      refine wpAnyH_done (by kernel_rfl) ?_ _
      try go_simp
      rename_i hM _ _ _ _
      refine hM _ _ ?_
      go_meet
      exact ⟨F1, F2, by rw [f2], by rw [e2], ⟨stA (stp (stA (stp (st0 V).drew HBu1.out) _) HBu2.out) _, (f4.kept HBu2.out).kept (stA (st0 u2) _), e4, sep_of f6 e6 HOu1.out.lt HOu2.out.lt (by omega) (by omega) (by omega) (by omega), by rw [f1]; omega, by rw [e1]; omega⟩⟩
    · go_simp
      go_at_call 15
      refine (Gm.own_any M S _ HDu1.out.ms HLN.out).mono ?_
      rintro e u2 ⟨S2, rfl, hou2, hbu2⟩
      have HOu2 := hid hou2
      have HBu2 := hid hbu2
      have HDu2 := hid (HDu1.out.kept hbu2)
      have hSu2 : u2.rangeAt w.heap.size 0 (machL M S) := HDu2.out.m.c
      clear hou2 hbu2
      try go_wp2_with fail
      refine hK.out _ _ hSu2 (fun _ => ?_)
      clear hK K
      try simp only [Act.put, List.setIfInBounds_toArray, List.set_cons_zero, List.set_cons_succ]
      clear hS
      have hS := hSu2
      refine wpAnyH_take (i := 6) (oi := { dst := some 83, op := _, type := _, pos := _, after := _, guard := none }) (v := .agg (machL M S2 ++ gtl).toArray) rfl (by kernel_rfl) (by kernel_rfl) (by kernel_rfl) (fun _ _ _ h => h) (Or.inl ⟨by rfl, fun w' _ => exec_build1 59 0 _ rfl (.agg (machL M S2).toArray) (.agg (machL M S2 ++ gtl).toArray) rfl (run_game M S2 w')⟩) hS ?_
      simp only [Act.put, List.setIfInBounds_toArray, List.set_cons_zero, List.set_cons_succ]
      refine wpAnyH_ready (rs := [3, 7]) (by kernel_rfl) (by simp) ?_
      refine AllReadyH.cons (o := { dst := some 80, op := _, type := _, pos := _, after := _, guard := none }) rfl (fun K hK => ?_) (AllReadyH.cons (o := { dst := some 84, op := _, type := _, pos := _, after := _, guard := none }) rfl (fun K hK => ?_) AllReadyH.nil)
      · go_simp
        have HD3 := hid (HDu2.out.kept (stA (st0 u2) (.cells (machL M S1 ++ gtl).toArray 59)))
        have hS3 : (u2.alloc (.cells (machL M S1 ++ gtl).toArray 59)).rangeAt w.heap.size 0 (machL M S) := HD3.out.m.c
        refine hK.out _ _ hS3 (fun _ => ?_)
        clear hK K hS
        have hS := hS3
        try simp only [Act.put, List.setIfInBounds_toArray, List.set_cons_zero, List.set_cons_succ]
        refine wpAnyH_take (i := 8) (oi := { dst := some 17, op := _, type := _, pos := _, after := _, guard := none }) (v := ?_) rfl (by kernel_rfl) (by kernel_rfl) (by kernel_rfl) (fun _ _ _ h => h) (Or.inl ⟨by rfl, ?_⟩) hS ?_
        rotate_left 1
        focus (intro w hSw; (try dsimp only at hSw); go_simp; try (with_reducible rfl))
        simp only [Act.put, List.setIfInBounds_toArray, List.set_cons_zero, List.set_cons_succ]
        refine wpAnyH_ready (rs := [7]) (by kernel_rfl) (by simp) ?_
        refine AllReadyH.cons (o := { dst := some 84, op := _, type := _, pos := _, after := _, guard := none }) rfl (fun K hK => ?_) AllReadyH.nil
        go_simp
        have HD4 := hid (HD3.out.kept (stA (st0 (u2.alloc (.cells (machL M S1 ++ gtl).toArray 59))) (.cells (machL M S2 ++ gtl).toArray 59)))
        have hS4 : ((u2.alloc (.cells (machL M S1 ++ gtl).toArray 59)).alloc (.cells (machL M S2 ++ gtl).toArray 59)).rangeAt w.heap.size 0 (machL M S) := HD4.out.m.c
        refine hK.out _ _ hS4 (fun _ => ?_)
        clear hK K hS
        have hS := hS4
        try simp only [Act.put, List.setIfInBounds_toArray, List.set_cons_zero, List.set_cons_succ]
        refine wpAnyH_take (i := 9) (oi := { dst := some 18, op := _, type := _, pos := _, after := _, guard := none }) (v := ?_) rfl (by kernel_rfl) (by kernel_rfl) (by kernel_rfl) (fun _ _ _ h => h) (Or.inl ⟨by rfl, ?_⟩) hS ?_
        rotate_left 1
        focus (intro w hSw; (try dsimp only at hSw); go_simp; try (with_reducible rfl))
        simp only [Act.put, List.setIfInBounds_toArray, List.set_cons_zero, List.set_cons_succ]
        have zv := HBu1.out.size
        have zu := HBu2.out.size
        have zd : V.drew.heap.size = V.heap.size := rfl
        obtain ⟨F1, f1, f2, f3, f4, f5, f6⟩ := Gd.ofOwn (HOu1.out.kept HBu2.out) HF0.out (by have := HOu1.out.room HF0.out; omega) 59
        obtain ⟨F2, e1, e2, e3, e4, e5, e6⟩ := Gd.ofOwn (HOu2.out.kept (stA (st0 u2) (.cells (machL M S1 ++ gtl).toArray 59))) HF0.out (by have := HOu2.out.room HF0.out; simp; omega) 59
        have zs : (u2.alloc (.cells (machL M S1 ++ gtl).toArray 59)).heap.size = u2.heap.size + 1 := by simp
        refine wpAnyH_done (by kernel_rfl) ?_ _
        try go_simp
        rename_i hM _ _ _ _
        refine hM _ _ ?_
        go_meet
        exact ⟨F1, F2, by rw [f2], by rw [e2]; simp, ⟨stA (stA (stp (stp (st0 V).drew HBu1.out) HBu2.out) _) _, f4.kept (stA (st0 _) _), e4, sep_of f6 e6 HOu1.out.lt HOu2.out.lt (by omega) (by omega) (by omega) (by omega), by rw [f1]; omega, by rw [e1]; omega⟩⟩
      · go_simp
        have HD3 := hid (HDu2.out.kept (stA (st0 u2) (.cells (machL M S2 ++ gtl).toArray 59)))
        have hS3 : (u2.alloc (.cells (machL M S2 ++ gtl).toArray 59)).rangeAt w.heap.size 0 (machL M S) := HD3.out.m.c
        refine hK.out _ _ hS3 (fun _ => ?_)
        clear hK K hS
        have hS := hS3
        try simp only [Act.put, List.setIfInBounds_toArray, List.set_cons_zero, List.set_cons_succ]
        refine wpAnyH_ready (rs := [3]) (by kernel_rfl) (by simp) ?_
        refine AllReadyH.cons (o := { dst := some 80, op := _, type := _, pos := _, after := _, guard := none }) rfl (fun K hK => ?_) AllReadyH.nil
        go_simp
        have HD4 := hid (HD3.out.kept (stA (st0 (u2.alloc (.cells (machL M S2 ++ gtl).toArray 59))) (.cells (machL M S1 ++ gtl).toArray 59)))
        have hS4 : ((u2.alloc (.cells (machL M S2 ++ gtl).toArray 59)).alloc (.cells (machL M S1 ++ gtl).toArray 59)).rangeAt w.heap.size 0 (machL M S) := HD4.out.m.c
        refine hK.out _ _ hS4 (fun _ => ?_)
        clear hK K hS
        have hS := hS4
        try simp only [Act.put, List.setIfInBounds_toArray, List.set_cons_zero, List.set_cons_succ]
        refine wpAnyH_take (i := 8) (oi := { dst := some 17, op := _, type := _, pos := _, after := _, guard := none }) (v := ?_) rfl (by kernel_rfl) (by kernel_rfl) (by kernel_rfl) (fun _ _ _ h => h) (Or.inl ⟨by rfl, ?_⟩) hS ?_
        rotate_left 1
        focus (intro w hSw; (try dsimp only at hSw); go_simp; try (with_reducible rfl))
        simp only [Act.put, List.setIfInBounds_toArray, List.set_cons_zero, List.set_cons_succ]
        refine wpAnyH_take (i := 9) (oi := { dst := some 18, op := _, type := _, pos := _, after := _, guard := none }) (v := ?_) rfl (by kernel_rfl) (by kernel_rfl) (by kernel_rfl) (fun _ _ _ h => h) (Or.inl ⟨by rfl, ?_⟩) hS ?_
        rotate_left 1
        focus (intro w hSw; (try dsimp only at hSw); go_simp; try (with_reducible rfl))
        simp only [Act.put, List.setIfInBounds_toArray, List.set_cons_zero, List.set_cons_succ]
        have zv := HBu1.out.size
        have zu := HBu2.out.size
        have zd : V.drew.heap.size = V.heap.size := rfl
        obtain ⟨F2, e1, e2, e3, e4, e5, e6⟩ := Gd.ofOwn HOu2.out HF0.out (HOu2.out.room HF0.out) 59
        obtain ⟨F1, f1, f2, f3, f4, f5, f6⟩ := Gd.ofOwn ((HOu1.out.kept HBu2.out).kept (stA (st0 u2) (.cells (machL M S2 ++ gtl).toArray 59))) HF0.out (by have := HOu1.out.room HF0.out; simp; omega) 59
        have zs : (u2.alloc (.cells (machL M S2 ++ gtl).toArray 59)).heap.size = u2.heap.size + 1 := by simp
        refine wpAnyH_done (by kernel_rfl) ?_ _
        try go_simp
        rename_i hM _ _ _ _
        refine hM _ _ ?_
        go_meet
        exact ⟨F1, F2, by rw [f2]; simp, by rw [e2], ⟨stA (stA (stp (stp (st0 V).drew HBu1.out) HBu2.out) _) _, f4, e4.kept (stA (st0 _) _), sep_of f6 e6 HOu1.out.lt HOu2.out.lt (by omega) (by omega) (by omega) (by omega), by rw [f1]; omega, by rw [e1]; omega⟩⟩
  case rest =>
  obtain ⟨F1, F2, rfl, rfl, hG⟩ := hcut
  have HG := hid hG
  clear hG
  obtain ⟨Y, hYe⟩ : ∃ Y, Y = wc := ⟨_, rfl⟩
  subst hYe
  have HY := hid HG.out
  clear HG
  go_upto_region 11 with (first
    | (have hq9 := HB1.out; clear hq9; go_at_call 18; refine (Gm.main_val F2.g _).mono ?_; rintro e v2 ⟨rfl, hb2, hv2⟩; have HV2 := hid hv2; have HB2 := hid hb2; clear hv2 hb2)
    | (go_at_call 18; refine (Gm.main_val F1.g _).mono ?_; rintro e v1 ⟨rfl, hb1, hv1⟩; have HV1 := hid hv1; have HB1 := hid hb1; clear hv1 hb1))
  refine Pl.cutW (TwoM V F1 F2 M Y v1.heap.size v2.heap.size) (by
    obtain ⟨c1, c2, c3⟩ := two_made v2 63 [fval 31 #[pt Y.heap.size 0, pt (Y.heap.size + 2) 0], fval 38 #[pt (Y.heap.size + 2) 0, pt (Y.heap.size + 3) 0, pt (Y.heap.size + 4) 0, pt Y.heap.size 0]] [fval 31 #[pt v1.heap.size 0, pt (v1.heap.size + 2) 0], fval 38 #[pt (v1.heap.size + 2) 0, pt (v1.heap.size + 3) 0, pt (v1.heap.size + 4) 0, pt v1.heap.size 0]]
    exact ⟨stp (stp HB1.out HB2.out) c1, (HV1.out.kept HB2.out).kept c1, HV2.out.kept c1, HB1.out.size, Nat.le_trans HB1.out.size HB2.out.size, c2, c3⟩) ?_
  intro U hU
  have HU := hid hU
  clear hU
  obtain ⟨hq, hp1, hp2⟩ := HU.out.qm HY.out
  have c1 := HU.out.x1.at 0 _ rfl
  have z1 := HU.out.x1.z
  have hgm := Gm.getM (gb := Y.heap.size) (mb := Y.heap.size + 2) hq.gg.g1 hp1 hp2 a ha
  rw [HEX.out] at hgm
  have HGM := hid hgm
  have HQ := hid hq
  have HN := hid hn
  have HA := hid ha
  clear hgm hq hp1 hp2 HU HV1 HV2 HB1 HB2
  go_upto_region 14 with (go_at_call 31; refine HGM.out.mono ?_; rintro e Z1 ⟨rfl, hG1, hT1⟩; have HQ1 := hid (HQ.out.go hG1 hT1); clear hG1 hT1)
  have c2 := HQ1.out.c2
  have z2 := HQ1.out.z2
  have hpm := Gm.putM HQ1.out.gg.g2 HQ1.out.pu a n HA.out HN.out ⟨by decide, by decide⟩
  rw [HEZ.out] at hpm
  have HPM := hid hpm
  clear hpm c1 z1 HGM HQ
  go_upto_region 15 with (go_at_call 38; refine HPM.out.mono ?_; rintro e Z2 ⟨rfl, hG2, hT2⟩; have HQ2 := hid (HQ1.out.gg.go2 hG2 (Mv.below hT2) (fun k hk hT => hT2.block k hk hT)); clear hG2 hT2)
  have het : (Tk.zero.add (tookM a n)).n = T := by rw [← HET.out]; exact Int.zero_add _
  refine Pl.cutW (EB V w w1.heap.size w2.heap.size w3.heap.size F1 F2 M X Z S S0 Sx Sy T) (EB.mk' HV.out HQ2.out het) ?_
  intro E hE
  have HE0 := hid (hE.kept (st0 E).drew)
  have hE0 := (hE.kept (st0 E).drew).s
  clear hE HQ2 HQ1 HPM c2 z2
  refine wp_region_held_drew (S := fun w' => w'.rangeAt w2.heap.size 0 (machL X Sx) ∧ w'.rangeAt F1.g 0 (machL X F1.S) ∧ w'.cell? ⟨F2.g, 76, none⟩ = some (.int .i64 T) ∧ w'.rangeAt w3.heap.size 0 (machL Z Sy) ∧ w'.rangeAt F2.g 0 (machL Z F2.S)) (by kernel_rfl) (hE0) ?_
  intro hS
  refine wpAnyH_take (i := 0) (oi := { dst := some 103, op := _, type := _, pos := _, after := _, guard := none }) (v := ?_) rfl (by kernel_rfl) (by kernel_rfl) (by kernel_rfl) (fun _ _ _ h => h) (Or.inl ⟨by rfl, ?_⟩) hS ?_
  rotate_left 1
  focus (intro w hSw; clear hSw; go_simp; try (with_reducible rfl))
  simp only [Act.put, List.setIfInBounds_toArray, List.set_cons_zero, List.set_cons_succ]
  refine wpAnyH_take (i := 1) (oi := { dst := some 104, op := _, type := _, pos := _, after := _, guard := none }) (v := ?_) rfl (by kernel_rfl) (by kernel_rfl) (by kernel_rfl) (fun _ _ _ h => h) (Or.inl ⟨by rfl, ?_⟩) hS ?_
  rotate_left 1
  focus (intro w hSw; clear hSw; go_simp; try (with_reducible rfl))
  simp only [Act.put, List.setIfInBounds_toArray, List.set_cons_zero, List.set_cons_succ]
  refine wpAnyH_take (i := 2) (oi := { dst := some 105, op := _, type := _, pos := _, after := _, guard := none }) (v := ?_) rfl (by kernel_rfl) (by kernel_rfl) (by kernel_rfl) (fun _ _ _ h => h) (Or.inl ⟨by rfl, ?_⟩) hS ?_
  rotate_left 1
  focus (intro w hSw; clear hSw; go_simp; try (with_reducible rfl))
  simp only [Act.put, List.setIfInBounds_toArray, List.set_cons_zero, List.set_cons_succ]
  refine wpAnyH_take (i := 3) (oi := { dst := some 106, op := _, type := _, pos := _, after := _, guard := some (2, true) }) (v := ?_) rfl (by kernel_rfl) (by kernel_rfl) (by kernel_rfl) (fun _ _ _ h => h) (Or.inl ⟨by rfl, ?_⟩) hS ?_
  rotate_left 1
  focus (intro w hSw; (try dsimp only at hSw); obtain ⟨_, _, hSt, _, _⟩ := hSw; go_simp; try (with_reducible rfl))
  simp only [Act.put, List.setIfInBounds_toArray, List.set_cons_zero, List.set_cons_succ]
  refine wpAnyH_take (i := 4) (oi := { dst := some 107, op := _, type := _, pos := _, after := _, guard := some (2, true) }) (v := ?_) rfl (by kernel_rfl) (by kernel_rfl) (by kernel_rfl) (fun _ _ _ h => h) (Or.inl ⟨by rfl, ?_⟩) hS ?_
  rotate_left 1
  focus (intro w hSw; (try dsimp only at hSw); obtain ⟨_, _, hSt, _, _⟩ := hSw; go_simp; try (with_reducible rfl))
  simp only [Act.put, List.setIfInBounds_toArray, List.set_cons_zero, List.set_cons_succ]
  refine wpAnyH_take (i := 5) (oi := { dst := some 108, op := _, type := _, pos := _, after := _, guard := none }) (v := ?_) rfl (by kernel_rfl) (by kernel_rfl) (by kernel_rfl) (fun _ _ _ h => h) (Or.inl ⟨by rfl, ?_⟩) hS ?_
  rotate_left 1
  focus (intro w hSw; clear hSw; go_simp; try (with_reducible rfl))
  simp only [Act.put, List.setIfInBounds_toArray, List.set_cons_zero, List.set_cons_succ]
  refine wpAnyH_take (i := 6) (oi := { dst := some 109, op := _, type := _, pos := _, after := _, guard := none }) (v := ?_) rfl (by kernel_rfl) (by kernel_rfl) (by kernel_rfl) (fun _ _ _ h => h) (Or.inl ⟨by rfl, ?_⟩) hS ?_
  rotate_left 1
  focus (intro w hSw; clear hSw; go_simp; try (with_reducible rfl))
  simp only [Act.put, List.setIfInBounds_toArray, List.set_cons_zero, List.set_cons_succ]
  refine wpAnyH_take (i := 7) (oi := { dst := some 110, op := _, type := _, pos := _, after := _, guard := some (6, true) }) (v := ?_) rfl (by kernel_rfl) (by kernel_rfl) (by kernel_rfl) (fun _ _ _ h => h) (Or.inl ⟨by rfl, ?_⟩) hS ?_
  rotate_left 1
  focus (intro w hSw; (try dsimp only at hSw); obtain ⟨_, _, hSt, _, _⟩ := hSw; go_simp; try (with_reducible rfl))
  simp only [Act.put, List.setIfInBounds_toArray, List.set_cons_zero, List.set_cons_succ]
  refine wpAnyH_take (i := 8) (oi := { dst := some 111, op := _, type := _, pos := _, after := _, guard := some (6, true) }) (v := ?_) rfl (by kernel_rfl) (by kernel_rfl) (by kernel_rfl) (fun _ _ _ h => h) (Or.inl ⟨by rfl, ?_⟩) hS ?_
  rotate_left 1
  focus (intro w hSw; (try dsimp only at hSw); obtain ⟨_, _, hSt, _, _⟩ := hSw; go_simp; try (with_reducible rfl))
  simp only [Act.put, List.setIfInBounds_toArray, List.set_cons_zero, List.set_cons_succ]
  refine wpAnyH_take (i := 9) (oi := { dst := some 112, op := _, type := _, pos := _, after := _, guard := some (6, true) }) (v := ?_) rfl (by kernel_rfl) (by kernel_rfl) (by kernel_rfl) (fun _ _ _ h => h) (Or.inl ⟨by rfl, ?_⟩) hS ?_
  rotate_left 1
  focus (intro w hSw; (try dsimp only at hSw); obtain ⟨_, _, hSt, _, _⟩ := hSw; go_simp; try (with_reducible rfl))
  simp only [Act.put, List.setIfInBounds_toArray, List.set_cons_zero, List.set_cons_succ]
  refine wpAnyH_take (i := 10) (oi := { dst := some 113, op := _, type := _, pos := _, after := _, guard := none }) (v := ?_) rfl (by kernel_rfl) (by kernel_rfl) (by kernel_rfl) (fun _ _ _ h => h) (Or.inl ⟨by rfl, ?_⟩) hS ?_
  rotate_left 1
  focus (intro w hSw; clear hSw; go_simp; try (with_reducible rfl))
  simp only [Act.put, List.setIfInBounds_toArray, List.set_cons_zero, List.set_cons_succ]
  refine wpAnyH_take (i := 11) (oi := { dst := some 114, op := _, type := _, pos := _, after := _, guard := none }) (v := ?_) rfl (by kernel_rfl) (by kernel_rfl) (by kernel_rfl) (fun _ _ _ h => h) (Or.inl ⟨by rfl, ?_⟩) hS ?_
  rotate_left 1
  focus (intro w hSw; clear hSw; go_simp; try (with_reducible rfl))
  simp only [Act.put, List.setIfInBounds_toArray, List.set_cons_zero, List.set_cons_succ]
  refine wpAnyH_take (i := 12) (oi := { dst := some 115, op := _, type := _, pos := _, after := _, guard := some (11, true) }) (v := .agg (machL X Sx).toArray) rfl (by kernel_rfl) (by kernel_rfl) (by kernel_rfl) (fun _ _ _ h => h) (Or.inl ⟨by rfl, fun w' hSw => exec_load_mid 41 _ rfl w2.heap.size 0 rfl (machL X Sx) _ hSw.1 Try.underlying41 rfl info_mach⟩) hS ?_
  simp only [Act.put, List.setIfInBounds_toArray, List.set_cons_zero, List.set_cons_succ]
  refine wpAnyH_take (i := 13) (oi := { dst := some 116, op := _, type := _, pos := _, after := _, guard := some (11, true) }) (v := ?_) rfl (by kernel_rfl) (by kernel_rfl) (by kernel_rfl) (fun _ _ _ h => h) (Or.inl ⟨by rfl, ?_⟩) hS ?_
  rotate_left 1
  focus (intro w hSw; (try dsimp only at hSw); obtain ⟨_, _, hSt, _, _⟩ := hSw; go_simp; try (with_reducible rfl))
  simp only [Act.put, List.setIfInBounds_toArray, List.set_cons_zero, List.set_cons_succ]
  refine wpAnyH_take (i := 14) (oi := { dst := some 117, op := _, type := _, pos := _, after := _, guard := some (11, true) }) (v := ?_) rfl (by kernel_rfl) (by kernel_rfl) (by kernel_rfl) (fun _ _ _ h => h) (Or.inl ⟨by rfl, ?_⟩) hS ?_
  rotate_left 1
  focus (intro w hSw; (try dsimp only at hSw); obtain ⟨_, _, hSt, _, _⟩ := hSw; go_simp; try (with_reducible rfl))
  simp only [Act.put, List.setIfInBounds_toArray, List.set_cons_zero, List.set_cons_succ]
  refine wpAnyH_take (i := 15) (oi := { dst := some 118, op := _, type := _, pos := _, after := _, guard := some (11, true) }) (v := ?_) rfl (by kernel_rfl) (by kernel_rfl) (by kernel_rfl) (fun _ _ _ h => h) (Or.inl ⟨by rfl, ?_⟩) hS ?_
  rotate_left 1
  focus (intro w hSw; (try dsimp only at hSw); obtain ⟨_, _, hSt, _, _⟩ := hSw; go_simp; try (with_reducible rfl))
  simp only [Act.put, List.setIfInBounds_toArray, List.set_cons_zero, List.set_cons_succ]
  refine wpAnyH_take (i := 16) (oi := { dst := some 119, op := _, type := _, pos := _, after := _, guard := some (11, true) }) (v := .agg (machL X F1.S).toArray) rfl (by kernel_rfl) (by kernel_rfl) (by kernel_rfl) (fun _ _ _ h => h) (Or.inl ⟨by rfl, fun w' hSw => exec_load_mid 41 _ rfl F1.g 0 rfl (machL X F1.S) _ hSw.2.1 Try.underlying41 rfl info_mach⟩) hS ?_
  simp only [Act.put, List.setIfInBounds_toArray, List.set_cons_zero, List.set_cons_succ]
  refine wpAnyH_ready (rs := [17]) (by kernel_rfl) (by simp) ?_
  refine AllReadyH.cons (o := { dst := some 120, op := _, type := _, pos := _, after := _, guard := some (11, true) }) rfl (fun K hK => ?_) AllReadyH.nil
  go_simp
  go_at_call 13
  refine (Bu.same_any X Sx F1.S _ HE0.out.r.xs HE0.out.g1s).mono ?_
  rintro e k1 ⟨rfl, hbk1⟩
  have HKk1 := hid (HE0.out.kept hbk1)
  clear hbk1
  try go_wp2_with fail
  refine hK.out _ _ HKk1.out.s (fun _ => ?_)
  clear hK K hS
  have hS := HKk1.out.s
  try simp only [Act.put, List.setIfInBounds_toArray, List.set_cons_zero, List.set_cons_succ]
  refine wpAnyH_take (i := 18) (oi := { dst := some 121, op := _, type := _, pos := _, after := _, guard := none }) (v := ?_) rfl (by kernel_rfl) (by kernel_rfl) (by kernel_rfl) (fun _ _ _ h => h) (Or.inl ⟨by rfl, ?_⟩) hS ?_
  rotate_left 1
  focus (intro w hSw; clear hSw; go_simp; try (with_reducible rfl))
  simp only [Act.put, List.setIfInBounds_toArray, List.set_cons_zero, List.set_cons_succ]
  refine wpAnyH_take (i := 19) (oi := { dst := some 122, op := _, type := _, pos := _, after := _, guard := none }) (v := ?_) rfl (by kernel_rfl) (by kernel_rfl) (by kernel_rfl) (fun _ _ _ h => h) (Or.inl ⟨by rfl, ?_⟩) hS ?_
  rotate_left 1
  focus (intro w hSw; clear hSw; go_simp; try (with_reducible rfl))
  simp only [Act.put, List.setIfInBounds_toArray, List.set_cons_zero, List.set_cons_succ]
  refine wpAnyH_take (i := 20) (oi := { dst := some 123, op := _, type := _, pos := _, after := _, guard := some (19, true) }) (v := ?_) rfl (by kernel_rfl) (by kernel_rfl) (by kernel_rfl) (fun _ _ _ h => h) (Or.inl ⟨by rfl, ?_⟩) hS ?_
  rotate_left 1
  focus (intro w hSw; (try dsimp only at hSw); obtain ⟨_, _, hSt, _, _⟩ := hSw; go_simp; try (with_reducible rfl))
  simp only [Act.put, List.setIfInBounds_toArray, List.set_cons_zero, List.set_cons_succ]
  refine wpAnyH_take (i := 21) (oi := { dst := some 124, op := _, type := _, pos := _, after := _, guard := some (19, true) }) (v := ?_) rfl (by kernel_rfl) (by kernel_rfl) (by kernel_rfl) (fun _ _ _ h => h) (Or.inl ⟨by rfl, ?_⟩) hS ?_
  rotate_left 1
  focus (intro w hSw; (try dsimp only at hSw); obtain ⟨_, _, hSt, _, _⟩ := hSw; go_simp; try (with_reducible rfl))
  simp only [Act.put, List.setIfInBounds_toArray, List.set_cons_zero, List.set_cons_succ]
  refine wpAnyH_take (i := 22) (oi := { dst := some 125, op := _, type := _, pos := _, after := _, guard := some (19, true) }) (v := ?_) rfl (by kernel_rfl) (by kernel_rfl) (by kernel_rfl) (fun _ _ _ h => h) (Or.inl ⟨by rfl, ?_⟩) hS ?_
  rotate_left 1
  focus (intro w hSw; (try dsimp only at hSw); obtain ⟨_, _, hSt, _, _⟩ := hSw; go_simp; try (with_reducible rfl))
  simp only [Act.put, List.setIfInBounds_toArray, List.set_cons_zero, List.set_cons_succ]
  refine wpAnyH_take (i := 23) (oi := { dst := some 126, op := _, type := _, pos := _, after := _, guard := some (19, true) }) (v := ?_) rfl (by kernel_rfl) (by kernel_rfl) (by kernel_rfl) (fun _ _ _ h => h) (Or.inl ⟨by rfl, ?_⟩) hS ?_
  rotate_left 1
  focus (intro w hSw; (try dsimp only at hSw); obtain ⟨_, _, hSt, _, _⟩ := hSw; go_simp; try (with_reducible rfl))
  simp only [Act.put, List.setIfInBounds_toArray, List.set_cons_zero, List.set_cons_succ]
  refine wpAnyH_take (i := 24) (oi := { dst := some 127, op := _, type := _, pos := _, after := _, guard := some (19, true) }) (v := ?_) rfl (by kernel_rfl) (by kernel_rfl) (by kernel_rfl) (fun _ _ _ h => h) (Or.inl ⟨by rfl, ?_⟩) hS ?_
  rotate_left 1
  focus (intro w hSw; (try dsimp only at hSw); obtain ⟨_, _, hSt, _, _⟩ := hSw; go_simp; try (with_reducible rfl))
  simp only [Act.put, List.setIfInBounds_toArray, List.set_cons_zero, List.set_cons_succ]
  refine wpAnyH_take (i := 25) (oi := { dst := some 128, op := _, type := _, pos := _, after := _, guard := some (19, true) }) (v := ?_) rfl (by kernel_rfl) (by kernel_rfl) (by kernel_rfl) (fun _ _ _ h => h) (Or.inl ⟨by rfl, ?_⟩) hS ?_
  rotate_left 1
  focus (intro w hSw; (try dsimp only at hSw); obtain ⟨_, _, hSt, _, _⟩ := hSw; go_simp; try (with_reducible rfl))
  simp only [Act.put, List.setIfInBounds_toArray, List.set_cons_zero, List.set_cons_succ]
  refine wpAnyH_take (i := 26) (oi := { dst := some 129, op := _, type := _, pos := _, after := _, guard := none }) (v := ?_) rfl (by kernel_rfl) (by kernel_rfl) (by kernel_rfl) (fun _ _ _ h => h) (Or.inl ⟨by rfl, ?_⟩) hS ?_
  rotate_left 1
  focus (intro w hSw; clear hSw; go_simp; try (with_reducible rfl))
  simp only [Act.put, List.setIfInBounds_toArray, List.set_cons_zero, List.set_cons_succ]
  refine wpAnyH_take (i := 27) (oi := { dst := some 130, op := _, type := _, pos := _, after := _, guard := none }) (v := ?_) rfl (by kernel_rfl) (by kernel_rfl) (by kernel_rfl) (fun _ _ _ h => h) (Or.inl ⟨by rfl, ?_⟩) hS ?_
  rotate_left 1
  focus (intro w hSw; clear hSw; go_simp; try (with_reducible rfl))
  simp only [Act.put, List.setIfInBounds_toArray, List.set_cons_zero, List.set_cons_succ]
  refine wpAnyH_take (i := 28) (oi := { dst := some 131, op := _, type := _, pos := _, after := _, guard := some (27, true) }) (v := .agg (machL Z Sy).toArray) rfl (by kernel_rfl) (by kernel_rfl) (by kernel_rfl) (fun _ _ _ h => h) (Or.inl ⟨by rfl, fun w' hSw => exec_load_mid 41 _ rfl w3.heap.size 0 rfl (machL Z Sy) _ hSw.2.2.2.1 Try.underlying41 rfl info_mach⟩) hS ?_
  simp only [Act.put, List.setIfInBounds_toArray, List.set_cons_zero, List.set_cons_succ]
  refine wpAnyH_take (i := 29) (oi := { dst := some 132, op := _, type := _, pos := _, after := _, guard := some (27, true) }) (v := ?_) rfl (by kernel_rfl) (by kernel_rfl) (by kernel_rfl) (fun _ _ _ h => h) (Or.inl ⟨by rfl, ?_⟩) hS ?_
  rotate_left 1
  focus (intro w hSw; (try dsimp only at hSw); obtain ⟨_, _, hSt, _, _⟩ := hSw; go_simp; try (with_reducible rfl))
  simp only [Act.put, List.setIfInBounds_toArray, List.set_cons_zero, List.set_cons_succ]
  refine wpAnyH_take (i := 30) (oi := { dst := some 133, op := _, type := _, pos := _, after := _, guard := some (27, true) }) (v := ?_) rfl (by kernel_rfl) (by kernel_rfl) (by kernel_rfl) (fun _ _ _ h => h) (Or.inl ⟨by rfl, ?_⟩) hS ?_
  rotate_left 1
  focus (intro w hSw; (try dsimp only at hSw); obtain ⟨_, _, hSt, _, _⟩ := hSw; go_simp; try (with_reducible rfl))
  simp only [Act.put, List.setIfInBounds_toArray, List.set_cons_zero, List.set_cons_succ]
  refine wpAnyH_take (i := 31) (oi := { dst := some 134, op := _, type := _, pos := _, after := _, guard := some (27, true) }) (v := ?_) rfl (by kernel_rfl) (by kernel_rfl) (by kernel_rfl) (fun _ _ _ h => h) (Or.inl ⟨by rfl, ?_⟩) hS ?_
  rotate_left 1
  focus (intro w hSw; (try dsimp only at hSw); obtain ⟨_, _, hSt, _, _⟩ := hSw; go_simp; try (with_reducible rfl))
  simp only [Act.put, List.setIfInBounds_toArray, List.set_cons_zero, List.set_cons_succ]
  refine wpAnyH_take (i := 32) (oi := { dst := some 135, op := _, type := _, pos := _, after := _, guard := some (27, true) }) (v := .agg (machL Z F2.S).toArray) rfl (by kernel_rfl) (by kernel_rfl) (by kernel_rfl) (fun _ _ _ h => h) (Or.inl ⟨by rfl, fun w' hSw => exec_load_mid 41 _ rfl F2.g 0 rfl (machL Z F2.S) _ hSw.2.2.2.2 Try.underlying41 rfl info_mach⟩) hS ?_
  simp only [Act.put, List.setIfInBounds_toArray, List.set_cons_zero, List.set_cons_succ]
  refine wpAnyH_ready (rs := [33]) (by kernel_rfl) (by simp) ?_
  refine AllReadyH.cons (o := { dst := some 136, op := _, type := _, pos := _, after := _, guard := some (27, true) }) rfl (fun K hK => ?_) AllReadyH.nil
  go_simp
  go_at_call 13
  refine (Bu.same_any Z Sy F2.S _ HKk1.out.r.ys HKk1.out.g2s).mono ?_
  rintro e k2 ⟨rfl, hbk2⟩
  have HKk2 := hid (HKk1.out.kept hbk2)
  clear hbk2
  try go_wp2_with fail
  refine hK.out _ _ HKk2.out.s (fun _ => ?_)
  clear hK K hS
  have hS := HKk2.out.s
  try simp only [Act.put, List.setIfInBounds_toArray, List.set_cons_zero, List.set_cons_succ]
  refine wpAnyH_take (i := 34) (oi := { dst := some 137, op := _, type := _, pos := _, after := _, guard := none }) (v := ?_) rfl (by kernel_rfl) (by kernel_rfl) (by kernel_rfl) (fun _ _ _ h => h) (Or.inl ⟨by rfl, ?_⟩) hS ?_
  rotate_left 1
  focus (intro w hSw; clear hSw; go_simp; try (with_reducible rfl))
  simp only [Act.put, List.setIfInBounds_toArray, List.set_cons_zero, List.set_cons_succ]
  refine wpAnyH_take (i := 35) (oi := { dst := some 8, op := _, type := _, pos := _, after := _, guard := none }) (v := ?_) rfl (by kernel_rfl) (by kernel_rfl) (by kernel_rfl) (fun _ _ _ h => h) (Or.inl ⟨by rfl, ?_⟩) hS ?_
  rotate_left 1
  focus (intro w hSw; clear hSw; go_simp; try (with_reducible rfl))
  simp only [Act.put, List.setIfInBounds_toArray, List.set_cons_zero, List.set_cons_succ]
  refine wpAnyH_done (by kernel_rfl) ?_ _
  go_simp
  go_wp2
  go_ret
  exact ⟨rfl, HKk2.out.r.low⟩
set_option maxHeartbeats 6400000 in
theorem Bu.reads_ok1 (M X Z : Mach) (S : Sl) (w : World) (a n bb T : Int) (ha : 0 ≤ a ∧ a ≤ 65535) (hn : 0 ≤ n ∧ n ≤ 255) (hf : M.fit) (hs : SlAt w S M) (hl : ∀ j, j < 5 → (M.byt j).length ≤ 140737488355328) (hr : RdC M X true a bb 0) (hw : WrC M Z true a n T 0) (hck : M.chk = 0)
    (ex : M.rdA a = (bb, X)) (ez : M.wrA a n = Z) (et : 0 = T) :
    Calls Try.prog 4 #[.agg (machL M S).toArray, .bool true, .int .u16 a, .int .u8 n] w fun e w' => e = .returned (.bool true) ∧ Below w.heap.size w w' := by
  have HF0 := hid hf
  have HEX := hid ex
  have HEZ := hid ez
  have HET := hid et
  clear hf ex ez et
  have HB := hid (Bx.new w (machL M S) 41 (b := w.heap.size) rfl)
  have HL := hid (stA (st0 w) (.cells (machL M S).toArray 41))
  have HSL := hid hs
  have HLN := hid hl
  have HR := hid hr
  have HW := hid hw
  have HCK := hid hck
  clear hs hl hr hw hck
  go_enter Try.func4, Try.ntmps4
  go_upto_region 7 with (first
    | (refine Bu.loadG rfl 41 _ rfl w1.heap.size 0 rfl (machL M S0) _ HD.out.o.c Try.underlying41 rfl info_mach ?_)
    | (refine Bu.loadG rfl 41 _ rfl w.heap.size 0 rfl (machL M S) _ HD.out.m.c Try.underlying41 rfl info_mach ?_)
    | (refine wpList_load_mid rfl 41 _ rfl w.heap.size 0 rfl (machL M S) _ HE.out.m.c Try.underlying41 rfl info_mach ?_)
    | (refine wpList_load_mid rfl 41 _ rfl w1.heap.size 0 rfl (machL M S0) _ HR2.out.r.o.c Try.underlying41 rfl info_mach ?_)
    | (refine wpList_load_mid rfl 41 _ rfl w1.heap.size 0 rfl (machL M S0) _ HR1.out.o.c Try.underlying41 rfl info_mach ?_)
    | (refine wpList_load_mid rfl 41 _ rfl w.heap.size 0 rfl (machL M S) _ HB.out.c Try.underlying41 rfl info_mach ?_)
    | (go_at_call 15; refine (Gm.own_any M S _ (HSL.out.kept HL.out) HLN.out).mono ?_; rintro e w1 ⟨S0, rfl, ho1, hb1⟩; have HO1 := hid ho1.slAt; have HB1 := hid hb1; clear ho1 hb1)
    | (go_at_call 16; refine (HR.out S0 _ HR1.out.os).mono ?_; rintro e w2 ⟨Sx, rfl, hx2, hb2⟩; have HX2 := hid hx2; have HB2 := hid hb2; clear hx2 hb2)
    | (go_at_call 17; refine (HW.out S0 _ HR2.out.r.os).mono ?_; rintro e w3 ⟨Sy, rfl, hx3, hb3⟩; have HX3 := hid hx3; have HB3 := hid hb3; clear hx3 hb3)
    | (go_at_call 9; refine (Bu.bussed_any _).mono ?_; rintro e w4 ⟨rfl, hb4⟩; have HD := hid (HD0.out.kept hb4); clear hb4)
    | (go_at_call 13; refine (Bu.same_any M S0 S _ HD.out.os HD.out.ms).mono ?_; rintro e w5 ⟨rfl, hb5⟩; have HE := hid (HD.out.kept hb5); clear hb5)
    | (go_at_call 11; refine (Gm.check_any M S _ HE.out.ms.lens).mono ?_; rw [HCK.out]; rintro e w6 ⟨rfl, hb6⟩; have HF := hid (HE.out.kept hb6); clear hb6)
    | (refine wpList_store_mid rfl 41 _ _ rfl w3.heap.size 0 (machL Z Sy).toArray rfl rfl (zero_th w3 _) info_mach (machL_one _ _ HX3.out.isSl) ?_
       refine Pl.cutL (RD w w1.heap.size w2.heap.size w3.heap.size M X Z S S0 Sx Sy) (by
         obtain ⟨c1, c2⟩ := newBox (Y := w3) (X := Z) (S1 := Sy) 41
         have h := (HR2.out.kept HB3.out).kept c1
         exact ⟨h.r.low, h.r.m, h.r.ms, h.r.o, h.r.os, h.x, h.xs, c2, HX3.out.kept c1⟩) ?_
       intro Q3 hQ3
       have HD0 := hid hQ3
       clear hQ3)
    | (refine wpList_store_mid rfl 41 _ _ rfl w2.heap.size 0 (machL X Sx).toArray rfl rfl (zero_th w2 _) info_mach (machL_one _ _ HX2.out.isSl) ?_
       refine Pl.cutL (R2 w w1.heap.size w2.heap.size M X S S0 Sx) (by
         obtain ⟨c1, c2⟩ := newBox (Y := w2) (X := X) (S1 := Sx) 41
         exact ⟨(HR1.out.kept HB2.out).kept c1, c2, HX2.out.kept c1⟩) ?_
       intro Q2 hQ2
       have HR2 := hid hQ2
       clear hQ2)
    | (refine wpList_store_mid rfl 41 _ _ rfl w1.heap.size 0 (machL M S0).toArray rfl rfl (zero_th w1 _) info_mach (machL_one _ _ HO1.out.isSl) ?_
       refine Pl.cutL (R1 w w1.heap.size M S S0) (by
         obtain ⟨c1, c2⟩ := newBox (Y := w1) (X := M) (S1 := S0) 41
         have hq := HB1.out.trans (Below.mono c1 HB1.out.size)
         exact ⟨stp (stp HL.out HB1.out) c1, (HB.out.kept HB1.out).kept c1, ((HSL.out.kept HL.out).kept HB1.out).kept c1, c2, HO1.out.kept c1⟩) ?_
       intro Q1 hQ1
       have HR1 := hid hQ1
       clear hQ1))
  refine Pl.cutW (RD w w1.heap.size w2.heap.size w3.heap.size M X Z S S0 Sx Sy) HF.out ?_
  intro V hV
  have HV := hid hV
  clear hV HD HD0 HE HF HR1 HR2 HB HL HB1 HB2 HB3 HR HW HCK HO1 HX2 HX3 HSL
  go_upto_region 9 with fail
  go_cut [17, 18] (fun v17 v18 Y => ∃ F1 F2, v17 = pt F1.g 0 ∧ v18 = pt F2.g 0 ∧ GG V F1 F2 M M Tk.zero Tk.zero Y)
  case first =>
    refine wp_region_held_drew (S := fun w' => w'.rangeAt w.heap.size 0 (machL M S)) (by kernel_rfl) ((HV.out.kept (st0 V).drew).m.c) ?_
    intro hS
    refine wpAnyH_take (i := 0) (oi := { dst := some 77, op := _, type := _, pos := _, after := _, guard := none }) (v := .agg (machL M S).toArray) rfl (by kernel_rfl) (by kernel_rfl) (by kernel_rfl) (fun _ _ _ h => h) (Or.inl ⟨by rfl, fun w' hSw => exec_load_mid 41 _ rfl w.heap.size 0 rfl (machL M S) _ hSw Try.underlying41 rfl info_mach⟩) hS ?_
    simp only [Act.put, List.setIfInBounds_toArray, List.set_cons_zero, List.set_cons_succ]
    refine wpAnyH_take (i := 4) (oi := { dst := some 81, op := _, type := _, pos := _, after := _, guard := none }) (v := .agg (machL M S).toArray) rfl (by kernel_rfl) (by kernel_rfl) (by kernel_rfl) (fun _ _ _ h => h) (Or.inl ⟨by rfl, fun w' hSw => exec_load_mid 41 _ rfl w.heap.size 0 rfl (machL M S) _ hSw Try.underlying41 rfl info_mach⟩) hS ?_
    simp only [Act.put, List.setIfInBounds_toArray, List.set_cons_zero, List.set_cons_succ]
    refine wpAnyH_ready (rs := [1]) (by kernel_rfl) (by simp) ?_
    refine AllReadyH.cons (o := { dst := some 78, op := _, type := _, pos := _, after := _, guard := none }) rfl (fun K hK => ?_) AllReadyH.nil
    go_simp
    go_at_call 15
    refine (Gm.own_any M S _ (HV.out.kept (st0 V).drew).ms HLN.out).mono ?_
    rintro e u1 ⟨S1, rfl, hou1, hbu1⟩
    have HOu1 := hid hou1
    have HBu1 := hid hbu1
    have HDu1 := hid ((HV.out.kept (st0 V).drew).kept hbu1)
    have hSu1 : u1.rangeAt w.heap.size 0 (machL M S) := HDu1.out.m.c
    clear hou1 hbu1
    try go_wp2_with fail
    refine hK.out _ _ hSu1 (fun _ => ?_)
    clear hK K
    try simp only [Act.put, List.setIfInBounds_toArray, List.set_cons_zero, List.set_cons_succ]
    clear hS
    have hS := hSu1
    refine wpAnyH_take (i := 2) (oi := { dst := some 79, op := _, type := _, pos := _, after := _, guard := none }) (v := .agg (machL M S1 ++ gtl).toArray) rfl (by kernel_rfl) (by kernel_rfl) (by kernel_rfl) (fun _ _ _ h => h) (Or.inl ⟨by rfl, fun w' _ => exec_build1 59 0 _ rfl (.agg (machL M S1).toArray) (.agg (machL M S1 ++ gtl).toArray) rfl (run_game M S1 w')⟩) hS ?_
    simp only [Act.put, List.setIfInBounds_toArray, List.set_cons_zero, List.set_cons_succ]
    refine wpAnyH_ready (rs := [3, 5]) (by kernel_rfl) (by simp) ?_
    refine AllReadyH.cons (o := { dst := some 80, op := _, type := _, pos := _, after := _, guard := none }) rfl (fun K hK => ?_) (AllReadyH.cons (o := { dst := some 82, op := _, type := _, pos := _, after := _, guard := none }) rfl (fun K hK => ?_) AllReadyH.nil)
    · go_simp
      have HD2 := hid (HDu1.out.kept (stA (st0 u1) (.cells (machL M S1 ++ gtl).toArray 59)))
      have hS2 : (u1.alloc (.cells (machL M S1 ++ gtl).toArray 59)).rangeAt w.heap.size 0 (machL M S) := HD2.out.m.c
      refine hK.out _ _ hS2 (fun _ => ?_)
      clear hK K hS
      have hS := hS2
      try simp only [Act.put, List.setIfInBounds_toArray, List.set_cons_zero, List.set_cons_succ]
      refine wpAnyH_ready (rs := [5]) (by kernel_rfl) (by simp) ?_
      refine AllReadyH.cons (o := { dst := some 82, op := _, type := _, pos := _, after := _, guard := none }) rfl (fun K hK => ?_) AllReadyH.nil
      go_simp
      go_at_call 15
      refine (Gm.own_any M S _ HD2.out.ms HLN.out).mono ?_
      rintro e u2 ⟨S2, rfl, hou2, hbu2⟩
      have HOu2 := hid hou2
      have HBu2 := hid hbu2
      have HDu2 := hid (HD2.out.kept hbu2)
      have hSu2 : u2.rangeAt w.heap.size 0 (machL M S) := HDu2.out.m.c
      clear hou2 hbu2
      try go_wp2_with fail
      refine hK.out _ _ hSu2 (fun _ => ?_)
      clear hK K
      try simp only [Act.put, List.setIfInBounds_toArray, List.set_cons_zero, List.set_cons_succ]
      clear hS
      have hS := hSu2
      refine wpAnyH_take (i := 6) (oi := { dst := some 83, op := _, type := _, pos := _, after := _, guard := none }) (v := .agg (machL M S2 ++ gtl).toArray) rfl (by kernel_rfl) (by kernel_rfl) (by kernel_rfl) (fun _ _ _ h => h) (Or.inl ⟨by rfl, fun w' _ => exec_build1 59 0 _ rfl (.agg (machL M S2).toArray) (.agg (machL M S2 ++ gtl).toArray) rfl (run_game M S2 w')⟩) hS ?_
      simp only [Act.put, List.setIfInBounds_toArray, List.set_cons_zero, List.set_cons_succ]
      refine wpAnyH_take (i := 8) (oi := { dst := some 17, op := _, type := _, pos := _, after := _, guard := none }) (v := ?_) rfl (by kernel_rfl) (by kernel_rfl) (by kernel_rfl) (fun _ _ _ h => h) (Or.inl ⟨by rfl, ?_⟩) hS ?_
      rotate_left 1
      focus (intro w hSw; (try dsimp only at hSw); go_simp; try (with_reducible rfl))
      simp only [Act.put, List.setIfInBounds_toArray, List.set_cons_zero, List.set_cons_succ]
      refine wpAnyH_ready (rs := [7]) (by kernel_rfl) (by simp) ?_
      refine AllReadyH.cons (o := { dst := some 84, op := _, type := _, pos := _, after := _, guard := none }) rfl (fun K hK => ?_) AllReadyH.nil
      go_simp
      have HD3 := hid (HDu2.out.kept (stA (st0 u2) (.cells (machL M S2 ++ gtl).toArray 59)))
      have hS3 : (u2.alloc (.cells (machL M S2 ++ gtl).toArray 59)).rangeAt w.heap.size 0 (machL M S) := HD3.out.m.c
      refine hK.out _ _ hS3 (fun _ => ?_)
      clear hK K hS
      have hS := hS3
      try simp only [Act.put, List.setIfInBounds_toArray, List.set_cons_zero, List.set_cons_succ]
      refine wpAnyH_take (i := 9) (oi := { dst := some 18, op := _, type := _, pos := _, after := _, guard := none }) (v := ?_) rfl (by kernel_rfl) (by kernel_rfl) (by kernel_rfl) (fun _ _ _ h => h) (Or.inl ⟨by rfl, ?_⟩) hS ?_
      rotate_left 1
      focus (intro w hSw; (try dsimp only at hSw); go_simp; try (with_reducible rfl))
      simp only [Act.put, List.setIfInBounds_toArray, List.set_cons_zero, List.set_cons_succ]
      have zv := HBu1.out.size
      have zu := HBu2.out.size
      have zd : V.drew.heap.size = V.heap.size := rfl
      obtain ⟨F1, f1, f2, f3, f4, f5, f6⟩ := Gd.ofOwn HOu1.out HF0.out (by have := HOu1.out.lt 2; have := HOu1.out.room HF0.out; omega) 59
      obtain ⟨F2, e1, e2, e3, e4, e5, e6⟩ := Gd.ofOwn HOu2.out HF0.out (HOu2.out.room HF0.out) 59
      have zs : (u1.alloc (.cells (machL M S1 ++ gtl).toArray 59)).heap.size = u1.heap.size + 1 := by simp
      refine wpAnyH_done (by kernel_rfl) ?_ _
      try go_simp
      rename_i hM _ _ _ _
      refine hM _ _ ?_
      go_meet
      exact ⟨F1, F2, by rw [f2], by rw [e2], ⟨stA (stp (stA (stp (st0 V).drew HBu1.out) _) HBu2.out) _, (f4.kept HBu2.out).kept (stA (st0 u2) _), e4, sep_of f6 e6 HOu1.out.lt HOu2.out.lt (by omega) (by omega) (by omega) (by omega), by rw [f1]; omega, by rw [e1]; omega⟩⟩
    · go_simp
      go_at_call 15
      refine (Gm.own_any M S _ HDu1.out.ms HLN.out).mono ?_
      rintro e u2 ⟨S2, rfl, hou2, hbu2⟩
      have HOu2 := hid hou2
      have HBu2 := hid hbu2
      have HDu2 := hid (HDu1.out.kept hbu2)
      have hSu2 : u2.rangeAt w.heap.size 0 (machL M S) := HDu2.out.m.c
      clear hou2 hbu2
      try go_wp2_with fail
      refine hK.out _ _ hSu2 (fun _ => ?_)
      clear hK K
      try simp only [Act.put, List.setIfInBounds_toArray, List.set_cons_zero, List.set_cons_succ]
      clear hS
      have hS := hSu2
      refine wpAnyH_take (i := 6) (oi := { dst := some 83, op := _, type := _, pos := _, after := _, guard := none }) (v := .agg (machL M S2 ++ gtl).toArray) rfl (by kernel_rfl) (by kernel_rfl) (by kernel_rfl) (fun _ _ _ h => h) (Or.inl ⟨by rfl, fun w' _ => exec_build1 59 0 _ rfl (.agg (machL M S2).toArray) (.agg (machL M S2 ++ gtl).toArray) rfl (run_game M S2 w')⟩) hS ?_
      simp only [Act.put, List.setIfInBounds_toArray, List.set_cons_zero, List.set_cons_succ]
      refine wpAnyH_ready (rs := [3, 7]) (by kernel_rfl) (by simp) ?_
      refine AllReadyH.cons (o := { dst := some 80, op := _, type := _, pos := _, after := _, guard := none }) rfl (fun K hK => ?_) (AllReadyH.cons (o := { dst := some 84, op := _, type := _, pos := _, after := _, guard := none }) rfl (fun K hK => ?_) AllReadyH.nil)
      · go_simp
        have HD3 := hid (HDu2.out.kept (stA (st0 u2) (.cells (machL M S1 ++ gtl).toArray 59)))
        have hS3 : (u2.alloc (.cells (machL M S1 ++ gtl).toArray 59)).rangeAt w.heap.size 0 (machL M S) := HD3.out.m.c
        refine hK.out _ _ hS3 (fun _ => ?_)
        clear hK K hS
        have hS := hS3
        try simp only [Act.put, List.setIfInBounds_toArray, List.set_cons_zero, List.set_cons_succ]
        refine wpAnyH_take (i := 8) (oi := { dst := some 17, op := _, type := _, pos := _, after := _, guard := none }) (v := ?_) rfl (by kernel_rfl) (by kernel_rfl) (by kernel_rfl) (fun _ _ _ h => h) (Or.inl ⟨by rfl, ?_⟩) hS ?_
        rotate_left 1
        focus (intro w hSw; (try dsimp only at hSw); go_simp; try (with_reducible rfl))
        simp only [Act.put, List.setIfInBounds_toArray, List.set_cons_zero, List.set_cons_succ]
        refine wpAnyH_ready (rs := [7]) (by kernel_rfl) (by simp) ?_
        refine AllReadyH.cons (o := { dst := some 84, op := _, type := _, pos := _, after := _, guard := none }) rfl (fun K hK => ?_) AllReadyH.nil
        go_simp
        have HD4 := hid (HD3.out.kept (stA (st0 (u2.alloc (.cells (machL M S1 ++ gtl).toArray 59))) (.cells (machL M S2 ++ gtl).toArray 59)))
        have hS4 : ((u2.alloc (.cells (machL M S1 ++ gtl).toArray 59)).alloc (.cells (machL M S2 ++ gtl).toArray 59)).rangeAt w.heap.size 0 (machL M S) := HD4.out.m.c
        refine hK.out _ _ hS4 (fun _ => ?_)
        clear hK K hS
        have hS := hS4
        try simp only [Act.put, List.setIfInBounds_toArray, List.set_cons_zero, List.set_cons_succ]
        refine wpAnyH_take (i := 9) (oi := { dst := some 18, op := _, type := _, pos := _, after := _, guard := none }) (v := ?_) rfl (by kernel_rfl) (by kernel_rfl) (by kernel_rfl) (fun _ _ _ h => h) (Or.inl ⟨by rfl, ?_⟩) hS ?_
        rotate_left 1
        focus (intro w hSw; (try dsimp only at hSw); go_simp; try (with_reducible rfl))
        simp only [Act.put, List.setIfInBounds_toArray, List.set_cons_zero, List.set_cons_succ]
        have zv := HBu1.out.size
        have zu := HBu2.out.size
        have zd : V.drew.heap.size = V.heap.size := rfl
        obtain ⟨F1, f1, f2, f3, f4, f5, f6⟩ := Gd.ofOwn (HOu1.out.kept HBu2.out) HF0.out (by have := HOu1.out.room HF0.out; omega) 59
        obtain ⟨F2, e1, e2, e3, e4, e5, e6⟩ := Gd.ofOwn (HOu2.out.kept (stA (st0 u2) (.cells (machL M S1 ++ gtl).toArray 59))) HF0.out (by have := HOu2.out.room HF0.out; simp; omega) 59
        have zs : (u2.alloc (.cells (machL M S1 ++ gtl).toArray 59)).heap.size = u2.heap.size + 1 := by simp
        refine wpAnyH_done (by kernel_rfl) ?_ _
        try go_simp
        rename_i hM _ _ _ _
        refine hM _ _ ?_
        go_meet
        exact ⟨F1, F2, by rw [f2], by rw [e2]; simp, ⟨stA (stA (stp (stp (st0 V).drew HBu1.out) HBu2.out) _) _, f4.kept (stA (st0 _) _), e4, sep_of f6 e6 HOu1.out.lt HOu2.out.lt (by omega) (by omega) (by omega) (by omega), by rw [f1]; omega, by rw [e1]; omega⟩⟩
      · go_simp
        have HD3 := hid (HDu2.out.kept (stA (st0 u2) (.cells (machL M S2 ++ gtl).toArray 59)))
        have hS3 : (u2.alloc (.cells (machL M S2 ++ gtl).toArray 59)).rangeAt w.heap.size 0 (machL M S) := HD3.out.m.c
        refine hK.out _ _ hS3 (fun _ => ?_)
        clear hK K hS
        have hS := hS3
        try simp only [Act.put, List.setIfInBounds_toArray, List.set_cons_zero, List.set_cons_succ]
        refine wpAnyH_ready (rs := [3]) (by kernel_rfl) (by simp) ?_
        refine AllReadyH.cons (o := { dst := some 80, op := _, type := _, pos := _, after := _, guard := none }) rfl (fun K hK => ?_) AllReadyH.nil
        go_simp
        have HD4 := hid (HD3.out.kept (stA (st0 (u2.alloc (.cells (machL M S2 ++ gtl).toArray 59))) (.cells (machL M S1 ++ gtl).toArray 59)))
        have hS4 : ((u2.alloc (.cells (machL M S2 ++ gtl).toArray 59)).alloc (.cells (machL M S1 ++ gtl).toArray 59)).rangeAt w.heap.size 0 (machL M S) := HD4.out.m.c
        refine hK.out _ _ hS4 (fun _ => ?_)
        clear hK K hS
        have hS := hS4
        try simp only [Act.put, List.setIfInBounds_toArray, List.set_cons_zero, List.set_cons_succ]
        refine wpAnyH_take (i := 8) (oi := { dst := some 17, op := _, type := _, pos := _, after := _, guard := none }) (v := ?_) rfl (by kernel_rfl) (by kernel_rfl) (by kernel_rfl) (fun _ _ _ h => h) (Or.inl ⟨by rfl, ?_⟩) hS ?_
        rotate_left 1
        focus (intro w hSw; (try dsimp only at hSw); go_simp; try (with_reducible rfl))
        simp only [Act.put, List.setIfInBounds_toArray, List.set_cons_zero, List.set_cons_succ]
        refine wpAnyH_take (i := 9) (oi := { dst := some 18, op := _, type := _, pos := _, after := _, guard := none }) (v := ?_) rfl (by kernel_rfl) (by kernel_rfl) (by kernel_rfl) (fun _ _ _ h => h) (Or.inl ⟨by rfl, ?_⟩) hS ?_
        rotate_left 1
        focus (intro w hSw; (try dsimp only at hSw); go_simp; try (with_reducible rfl))
        simp only [Act.put, List.setIfInBounds_toArray, List.set_cons_zero, List.set_cons_succ]
        have zv := HBu1.out.size
        have zu := HBu2.out.size
        have zd : V.drew.heap.size = V.heap.size := rfl
        obtain ⟨F2, e1, e2, e3, e4, e5, e6⟩ := Gd.ofOwn HOu2.out HF0.out (HOu2.out.room HF0.out) 59
        obtain ⟨F1, f1, f2, f3, f4, f5, f6⟩ := Gd.ofOwn ((HOu1.out.kept HBu2.out).kept (stA (st0 u2) (.cells (machL M S2 ++ gtl).toArray 59))) HF0.out (by have := HOu1.out.room HF0.out; simp; omega) 59
        have zs : (u2.alloc (.cells (machL M S2 ++ gtl).toArray 59)).heap.size = u2.heap.size + 1 := by simp
        refine wpAnyH_done (by kernel_rfl) ?_ _
        try go_simp
        rename_i hM _ _ _ _
        refine hM _ _ ?_
        go_meet
        exact ⟨F1, F2, by rw [f2]; simp, by rw [e2], ⟨stA (stA (stp (stp (st0 V).drew HBu1.out) HBu2.out) _) _, f4, e4.kept (stA (st0 _) _), sep_of f6 e6 HOu1.out.lt HOu2.out.lt (by omega) (by omega) (by omega) (by omega), by rw [f1]; omega, by rw [e1]; omega⟩⟩
  case rest =>
  obtain ⟨F1, F2, rfl, rfl, hG⟩ := hcut
  have HG := hid hG
  clear hG
  obtain ⟨Y, hYe⟩ : ∃ Y, Y = wc := ⟨_, rfl⟩
  subst hYe
  have HY := hid HG.out
  clear HG
  go_upto_region 11 with (first
    | (have hq9 := HB1.out; clear hq9; go_at_call 18; refine (Gm.main_val F2.g _).mono ?_; rintro e v2 ⟨rfl, hb2, hv2⟩; have HV2 := hid hv2; have HB2 := hid hb2; clear hv2 hb2)
    | (go_at_call 18; refine (Gm.main_val F1.g _).mono ?_; rintro e v1 ⟨rfl, hb1, hv1⟩; have HV1 := hid hv1; have HB1 := hid hb1; clear hv1 hb1))
  refine Pl.cutW (TwoM V F1 F2 M Y v1.heap.size v2.heap.size) (by
    obtain ⟨c1, c2, c3⟩ := two_made v2 63 [fval 31 #[pt Y.heap.size 0, pt (Y.heap.size + 2) 0], fval 38 #[pt (Y.heap.size + 2) 0, pt (Y.heap.size + 3) 0, pt (Y.heap.size + 4) 0, pt Y.heap.size 0]] [fval 31 #[pt v1.heap.size 0, pt (v1.heap.size + 2) 0], fval 38 #[pt (v1.heap.size + 2) 0, pt (v1.heap.size + 3) 0, pt (v1.heap.size + 4) 0, pt v1.heap.size 0]]
    exact ⟨stp (stp HB1.out HB2.out) c1, (HV1.out.kept HB2.out).kept c1, HV2.out.kept c1, HB1.out.size, Nat.le_trans HB1.out.size HB2.out.size, c2, c3⟩) ?_
  intro U hU
  have HU := hid hU
  clear hU
  refine Pl.cutW (fun U => TwoM V F1 F2 M Y v1.heap.size v2.heap.size U) HU.out ?_
  intro U1 hU1
  have HU1 := hid hU1
  clear hU1 HU HV1 HV2 HB1 HB2
  go_upto_region 13 with (first
    | (have hq9 := HB1.out; clear hq9; go_at_call 19; refine (Gm.aux_val F2.g _).mono ?_; rintro e u2 ⟨rfl, hb2, hv2⟩; have HV2 := hid hv2; have HB2 := hid hb2; clear hv2 hb2; have y0 := ((HU1.out.x1.kept HB1.out).kept HB2.out).z; have y1 := ((HU1.out.x2.kept HB1.out).kept HB2.out).z; have y2 := ((HU1.out.x1.kept HB1.out).kept HB2.out).f 0; have y3 := ((HU1.out.x1.kept HB1.out).kept HB2.out).f 1; have y4 := ((HU1.out.x2.kept HB1.out).kept HB2.out).f 0; have y5 := ((HU1.out.x2.kept HB1.out).kept HB2.out).f 1; have y6 := ((HU1.out.x1.kept HB1.out).kept HB2.out).at 0 _ rfl; have y7 := ((HU1.out.x1.kept HB1.out).kept HB2.out).at 1 _ rfl; have y8 := ((HU1.out.x2.kept HB1.out).kept HB2.out).at 0 _ rfl; have y9 := ((HU1.out.x2.kept HB1.out).kept HB2.out).at 1 _ rfl)
    | (go_at_call 19; refine (Gm.aux_val F1.g _).mono ?_; rintro e u1 ⟨rfl, hb1, hv1⟩; have HV1 := hid hv1; have HB1 := hid hb1; clear hv1 hb1))
  refine Pl.cutW (TwoA V F1 F2 M Y U1.heap.size u1.heap.size v2.heap.size) (by
    obtain ⟨c1, c2, c3⟩ := two_put (L1 := [fval 40 #[pt (U1.heap.size + 2) 0], fval 42 #[pt (U1.heap.size + 2) 0, pt U1.heap.size 0]]) (L2 := [fval 40 #[pt (u1.heap.size + 2) 0], fval 42 #[pt (u1.heap.size + 2) 0, pt u1.heap.size 0]]) ((HU1.out.x1.kept HB1.out).kept HB2.out) ((HU1.out.x2.kept HB1.out).kept HB2.out) rfl rfl Y.heap.size HU1.out.hb
    exact ⟨(stp (stp HU1.out.low HB1.out) HB2.out).trans c1, auxv_put (L1 := [fval 40 #[pt (U1.heap.size + 2) 0], fval 42 #[pt (U1.heap.size + 2) 0, pt U1.heap.size 0]]) (L2 := [fval 40 #[pt (u1.heap.size + 2) 0], fval 42 #[pt (u1.heap.size + 2) 0, pt u1.heap.size 0]]) HV1.out HB2.out HU1.out.x2.z, auxv_put0 (L1 := [fval 40 #[pt (U1.heap.size + 2) 0], fval 42 #[pt (U1.heap.size + 2) 0, pt U1.heap.size 0]]) (L2 := [fval 40 #[pt (u1.heap.size + 2) 0], fval 42 #[pt (u1.heap.size + 2) 0, pt u1.heap.size 0]]) HV2.out (Nat.lt_of_lt_of_le HU1.out.x2.z HB1.out.size), HU1.out.low.size, Nat.le_trans HU1.out.low.size HB1.out.size, HU1.out.hb, c2, c3⟩) ?_
  intro U hU
  have HU := hid hU
  clear hU y0 y1 y2 y3 y4 y5 y6 y7 y8 y9
  obtain ⟨hq, hp1⟩ := HU.out.qa HY.out
  have c1 := HU.out.x1.at 0 _ rfl
  have z1 := HU.out.x1.z
  have hgm := Gm.getA (mb := U1.heap.size + 2) hq.gg.g1 hp1 a ha
  rw [HEX.out] at hgm
  have HGM := hid hgm
  have HQ := hid hq
  have HN := hid hn
  have HA := hid ha
  clear hgm hq hp1 HU HV1 HV2 HB1 HB2 HU1
  go_upto_region 14 with (go_at_call 40; refine HGM.out.mono ?_; rintro e Z1 ⟨rfl, hG1, hT1⟩; have HQ1 := hid (HQ.out.go hG1 hT1); clear hG1 hT1)
  have c2 := HQ1.out.c2
  have z2 := HQ1.out.z2
  have hpm := Gm.putA HQ1.out.gg.g2 HQ1.out.pm HQ1.out.pg (by intro e; cases e) (by intro e; cases e) a n HA.out HN.out (by decide)
  rw [HEZ.out] at hpm
  have HPM := hid hpm
  clear hpm c1 z1 HGM HQ
  go_upto_region 15 with (go_at_call 42; refine HPM.out.mono ?_; rintro e Z2 ⟨rfl, ⟨v9, hG2⟩, hT2, hbk⟩; have HQ2 := hid (HQ1.out.gg.go2 hG2 (Mv.below hT2) (hbk rfl)); clear hG2 hT2 hbk)
  have het : (Tk.zero.app (M.shA a n) v9).n = T := HET.out
  refine Pl.cutW (EB V w w1.heap.size w2.heap.size w3.heap.size F1 F2 M X Z S S0 Sx Sy T) (EB.mk' HV.out HQ2.out het) ?_
  intro E hE
  have HE0 := hid (hE.kept (st0 E).drew)
  have hE0 := (hE.kept (st0 E).drew).s
  clear hE HQ2 HQ1 HPM c2 z2
  refine wp_region_held_drew (S := fun w' => w'.rangeAt w2.heap.size 0 (machL X Sx) ∧ w'.rangeAt F1.g 0 (machL X F1.S) ∧ w'.cell? ⟨F2.g, 76, none⟩ = some (.int .i64 T) ∧ w'.rangeAt w3.heap.size 0 (machL Z Sy) ∧ w'.rangeAt F2.g 0 (machL Z F2.S)) (by kernel_rfl) (hE0) ?_
  intro hS
  refine wpAnyH_take (i := 0) (oi := { dst := some 103, op := _, type := _, pos := _, after := _, guard := none }) (v := ?_) rfl (by kernel_rfl) (by kernel_rfl) (by kernel_rfl) (fun _ _ _ h => h) (Or.inl ⟨by rfl, ?_⟩) hS ?_
  rotate_left 1
  focus (intro w hSw; clear hSw; go_simp; try (with_reducible rfl))
  simp only [Act.put, List.setIfInBounds_toArray, List.set_cons_zero, List.set_cons_succ]
  refine wpAnyH_take (i := 1) (oi := { dst := some 104, op := _, type := _, pos := _, after := _, guard := none }) (v := ?_) rfl (by kernel_rfl) (by kernel_rfl) (by kernel_rfl) (fun _ _ _ h => h) (Or.inl ⟨by rfl, ?_⟩) hS ?_
  rotate_left 1
  focus (intro w hSw; clear hSw; go_simp; try (with_reducible rfl))
  simp only [Act.put, List.setIfInBounds_toArray, List.set_cons_zero, List.set_cons_succ]
  refine wpAnyH_take (i := 2) (oi := { dst := some 105, op := _, type := _, pos := _, after := _, guard := none }) (v := ?_) rfl (by kernel_rfl) (by kernel_rfl) (by kernel_rfl) (fun _ _ _ h => h) (Or.inl ⟨by rfl, ?_⟩) hS ?_
  rotate_left 1
  focus (intro w hSw; clear hSw; go_simp; try (with_reducible rfl))
  simp only [Act.put, List.setIfInBounds_toArray, List.set_cons_zero, List.set_cons_succ]
  refine wpAnyH_take (i := 3) (oi := { dst := some 106, op := _, type := _, pos := _, after := _, guard := some (2, true) }) (v := ?_) rfl (by kernel_rfl) (by kernel_rfl) (by kernel_rfl) (fun _ _ _ h => h) (Or.inl ⟨by rfl, ?_⟩) hS ?_
  rotate_left 1
  focus (intro w hSw; (try dsimp only at hSw); obtain ⟨_, _, hSt, _, _⟩ := hSw; go_simp; try (with_reducible rfl))
  simp only [Act.put, List.setIfInBounds_toArray, List.set_cons_zero, List.set_cons_succ]
  refine wpAnyH_take (i := 4) (oi := { dst := some 107, op := _, type := _, pos := _, after := _, guard := some (2, true) }) (v := ?_) rfl (by kernel_rfl) (by kernel_rfl) (by kernel_rfl) (fun _ _ _ h => h) (Or.inl ⟨by rfl, ?_⟩) hS ?_
  rotate_left 1
  focus (intro w hSw; (try dsimp only at hSw); obtain ⟨_, _, hSt, _, _⟩ := hSw; go_simp; try (with_reducible rfl))
  simp only [Act.put, List.setIfInBounds_toArray, List.set_cons_zero, List.set_cons_succ]
  refine wpAnyH_take (i := 5) (oi := { dst := some 108, op := _, type := _, pos := _, after := _, guard := none }) (v := ?_) rfl (by kernel_rfl) (by kernel_rfl) (by kernel_rfl) (fun _ _ _ h => h) (Or.inl ⟨by rfl, ?_⟩) hS ?_
  rotate_left 1
  focus (intro w hSw; clear hSw; go_simp; try (with_reducible rfl))
  simp only [Act.put, List.setIfInBounds_toArray, List.set_cons_zero, List.set_cons_succ]
  refine wpAnyH_take (i := 6) (oi := { dst := some 109, op := _, type := _, pos := _, after := _, guard := none }) (v := ?_) rfl (by kernel_rfl) (by kernel_rfl) (by kernel_rfl) (fun _ _ _ h => h) (Or.inl ⟨by rfl, ?_⟩) hS ?_
  rotate_left 1
  focus (intro w hSw; clear hSw; go_simp; try (with_reducible rfl))
  simp only [Act.put, List.setIfInBounds_toArray, List.set_cons_zero, List.set_cons_succ]
  refine wpAnyH_take (i := 7) (oi := { dst := some 110, op := _, type := _, pos := _, after := _, guard := some (6, true) }) (v := ?_) rfl (by kernel_rfl) (by kernel_rfl) (by kernel_rfl) (fun _ _ _ h => h) (Or.inl ⟨by rfl, ?_⟩) hS ?_
  rotate_left 1
  focus (intro w hSw; (try dsimp only at hSw); obtain ⟨_, _, hSt, _, _⟩ := hSw; go_simp; try (with_reducible rfl))
  simp only [Act.put, List.setIfInBounds_toArray, List.set_cons_zero, List.set_cons_succ]
  refine wpAnyH_take (i := 8) (oi := { dst := some 111, op := _, type := _, pos := _, after := _, guard := some (6, true) }) (v := ?_) rfl (by kernel_rfl) (by kernel_rfl) (by kernel_rfl) (fun _ _ _ h => h) (Or.inl ⟨by rfl, ?_⟩) hS ?_
  rotate_left 1
  focus (intro w hSw; (try dsimp only at hSw); obtain ⟨_, _, hSt, _, _⟩ := hSw; go_simp; try (with_reducible rfl))
  simp only [Act.put, List.setIfInBounds_toArray, List.set_cons_zero, List.set_cons_succ]
  refine wpAnyH_take (i := 9) (oi := { dst := some 112, op := _, type := _, pos := _, after := _, guard := some (6, true) }) (v := ?_) rfl (by kernel_rfl) (by kernel_rfl) (by kernel_rfl) (fun _ _ _ h => h) (Or.inl ⟨by rfl, ?_⟩) hS ?_
  rotate_left 1
  focus (intro w hSw; (try dsimp only at hSw); obtain ⟨_, _, hSt, _, _⟩ := hSw; go_simp; try (with_reducible rfl))
  simp only [Act.put, List.setIfInBounds_toArray, List.set_cons_zero, List.set_cons_succ]
  refine wpAnyH_take (i := 10) (oi := { dst := some 113, op := _, type := _, pos := _, after := _, guard := none }) (v := ?_) rfl (by kernel_rfl) (by kernel_rfl) (by kernel_rfl) (fun _ _ _ h => h) (Or.inl ⟨by rfl, ?_⟩) hS ?_
  rotate_left 1
  focus (intro w hSw; clear hSw; go_simp; try (with_reducible rfl))
  simp only [Act.put, List.setIfInBounds_toArray, List.set_cons_zero, List.set_cons_succ]
  refine wpAnyH_take (i := 11) (oi := { dst := some 114, op := _, type := _, pos := _, after := _, guard := none }) (v := ?_) rfl (by kernel_rfl) (by kernel_rfl) (by kernel_rfl) (fun _ _ _ h => h) (Or.inl ⟨by rfl, ?_⟩) hS ?_
  rotate_left 1
  focus (intro w hSw; clear hSw; go_simp; try (with_reducible rfl))
  simp only [Act.put, List.setIfInBounds_toArray, List.set_cons_zero, List.set_cons_succ]
  refine wpAnyH_take (i := 12) (oi := { dst := some 115, op := _, type := _, pos := _, after := _, guard := some (11, true) }) (v := .agg (machL X Sx).toArray) rfl (by kernel_rfl) (by kernel_rfl) (by kernel_rfl) (fun _ _ _ h => h) (Or.inl ⟨by rfl, fun w' hSw => exec_load_mid 41 _ rfl w2.heap.size 0 rfl (machL X Sx) _ hSw.1 Try.underlying41 rfl info_mach⟩) hS ?_
  simp only [Act.put, List.setIfInBounds_toArray, List.set_cons_zero, List.set_cons_succ]
  refine wpAnyH_take (i := 13) (oi := { dst := some 116, op := _, type := _, pos := _, after := _, guard := some (11, true) }) (v := ?_) rfl (by kernel_rfl) (by kernel_rfl) (by kernel_rfl) (fun _ _ _ h => h) (Or.inl ⟨by rfl, ?_⟩) hS ?_
  rotate_left 1
  focus (intro w hSw; (try dsimp only at hSw); obtain ⟨_, _, hSt, _, _⟩ := hSw; go_simp; try (with_reducible rfl))
  simp only [Act.put, List.setIfInBounds_toArray, List.set_cons_zero, List.set_cons_succ]
  refine wpAnyH_take (i := 14) (oi := { dst := some 117, op := _, type := _, pos := _, after := _, guard := some (11, true) }) (v := ?_) rfl (by kernel_rfl) (by kernel_rfl) (by kernel_rfl) (fun _ _ _ h => h) (Or.inl ⟨by rfl, ?_⟩) hS ?_
  rotate_left 1
  focus (intro w hSw; (try dsimp only at hSw); obtain ⟨_, _, hSt, _, _⟩ := hSw; go_simp; try (with_reducible rfl))
  simp only [Act.put, List.setIfInBounds_toArray, List.set_cons_zero, List.set_cons_succ]
  refine wpAnyH_take (i := 15) (oi := { dst := some 118, op := _, type := _, pos := _, after := _, guard := some (11, true) }) (v := ?_) rfl (by kernel_rfl) (by kernel_rfl) (by kernel_rfl) (fun _ _ _ h => h) (Or.inl ⟨by rfl, ?_⟩) hS ?_
  rotate_left 1
  focus (intro w hSw; (try dsimp only at hSw); obtain ⟨_, _, hSt, _, _⟩ := hSw; go_simp; try (with_reducible rfl))
  simp only [Act.put, List.setIfInBounds_toArray, List.set_cons_zero, List.set_cons_succ]
  refine wpAnyH_take (i := 16) (oi := { dst := some 119, op := _, type := _, pos := _, after := _, guard := some (11, true) }) (v := .agg (machL X F1.S).toArray) rfl (by kernel_rfl) (by kernel_rfl) (by kernel_rfl) (fun _ _ _ h => h) (Or.inl ⟨by rfl, fun w' hSw => exec_load_mid 41 _ rfl F1.g 0 rfl (machL X F1.S) _ hSw.2.1 Try.underlying41 rfl info_mach⟩) hS ?_
  simp only [Act.put, List.setIfInBounds_toArray, List.set_cons_zero, List.set_cons_succ]
  refine wpAnyH_ready (rs := [17]) (by kernel_rfl) (by simp) ?_
  refine AllReadyH.cons (o := { dst := some 120, op := _, type := _, pos := _, after := _, guard := some (11, true) }) rfl (fun K hK => ?_) AllReadyH.nil
  go_simp
  go_at_call 13
  refine (Bu.same_any X Sx F1.S _ HE0.out.r.xs HE0.out.g1s).mono ?_
  rintro e k1 ⟨rfl, hbk1⟩
  have HKk1 := hid (HE0.out.kept hbk1)
  clear hbk1
  try go_wp2_with fail
  refine hK.out _ _ HKk1.out.s (fun _ => ?_)
  clear hK K hS
  have hS := HKk1.out.s
  try simp only [Act.put, List.setIfInBounds_toArray, List.set_cons_zero, List.set_cons_succ]
  refine wpAnyH_take (i := 18) (oi := { dst := some 121, op := _, type := _, pos := _, after := _, guard := none }) (v := ?_) rfl (by kernel_rfl) (by kernel_rfl) (by kernel_rfl) (fun _ _ _ h => h) (Or.inl ⟨by rfl, ?_⟩) hS ?_
  rotate_left 1
  focus (intro w hSw; clear hSw; go_simp; try (with_reducible rfl))
  simp only [Act.put, List.setIfInBounds_toArray, List.set_cons_zero, List.set_cons_succ]
  refine wpAnyH_take (i := 19) (oi := { dst := some 122, op := _, type := _, pos := _, after := _, guard := none }) (v := ?_) rfl (by kernel_rfl) (by kernel_rfl) (by kernel_rfl) (fun _ _ _ h => h) (Or.inl ⟨by rfl, ?_⟩) hS ?_
  rotate_left 1
  focus (intro w hSw; clear hSw; go_simp; try (with_reducible rfl))
  simp only [Act.put, List.setIfInBounds_toArray, List.set_cons_zero, List.set_cons_succ]
  refine wpAnyH_take (i := 20) (oi := { dst := some 123, op := _, type := _, pos := _, after := _, guard := some (19, true) }) (v := ?_) rfl (by kernel_rfl) (by kernel_rfl) (by kernel_rfl) (fun _ _ _ h => h) (Or.inl ⟨by rfl, ?_⟩) hS ?_
  rotate_left 1
  focus (intro w hSw; (try dsimp only at hSw); obtain ⟨_, _, hSt, _, _⟩ := hSw; go_simp; try (with_reducible rfl))
  simp only [Act.put, List.setIfInBounds_toArray, List.set_cons_zero, List.set_cons_succ]
  refine wpAnyH_take (i := 21) (oi := { dst := some 124, op := _, type := _, pos := _, after := _, guard := some (19, true) }) (v := ?_) rfl (by kernel_rfl) (by kernel_rfl) (by kernel_rfl) (fun _ _ _ h => h) (Or.inl ⟨by rfl, ?_⟩) hS ?_
  rotate_left 1
  focus (intro w hSw; (try dsimp only at hSw); obtain ⟨_, _, hSt, _, _⟩ := hSw; go_simp; try (with_reducible rfl))
  simp only [Act.put, List.setIfInBounds_toArray, List.set_cons_zero, List.set_cons_succ]
  refine wpAnyH_take (i := 22) (oi := { dst := some 125, op := _, type := _, pos := _, after := _, guard := some (19, true) }) (v := ?_) rfl (by kernel_rfl) (by kernel_rfl) (by kernel_rfl) (fun _ _ _ h => h) (Or.inl ⟨by rfl, ?_⟩) hS ?_
  rotate_left 1
  focus (intro w hSw; (try dsimp only at hSw); obtain ⟨_, _, hSt, _, _⟩ := hSw; go_simp; try (with_reducible rfl))
  simp only [Act.put, List.setIfInBounds_toArray, List.set_cons_zero, List.set_cons_succ]
  refine wpAnyH_take (i := 23) (oi := { dst := some 126, op := _, type := _, pos := _, after := _, guard := some (19, true) }) (v := ?_) rfl (by kernel_rfl) (by kernel_rfl) (by kernel_rfl) (fun _ _ _ h => h) (Or.inl ⟨by rfl, ?_⟩) hS ?_
  rotate_left 1
  focus (intro w hSw; (try dsimp only at hSw); obtain ⟨_, _, hSt, _, _⟩ := hSw; go_simp; try (with_reducible rfl))
  simp only [Act.put, List.setIfInBounds_toArray, List.set_cons_zero, List.set_cons_succ]
  refine wpAnyH_take (i := 24) (oi := { dst := some 127, op := _, type := _, pos := _, after := _, guard := some (19, true) }) (v := ?_) rfl (by kernel_rfl) (by kernel_rfl) (by kernel_rfl) (fun _ _ _ h => h) (Or.inl ⟨by rfl, ?_⟩) hS ?_
  rotate_left 1
  focus (intro w hSw; (try dsimp only at hSw); obtain ⟨_, _, hSt, _, _⟩ := hSw; go_simp; try (with_reducible rfl))
  simp only [Act.put, List.setIfInBounds_toArray, List.set_cons_zero, List.set_cons_succ]
  refine wpAnyH_take (i := 25) (oi := { dst := some 128, op := _, type := _, pos := _, after := _, guard := some (19, true) }) (v := ?_) rfl (by kernel_rfl) (by kernel_rfl) (by kernel_rfl) (fun _ _ _ h => h) (Or.inl ⟨by rfl, ?_⟩) hS ?_
  rotate_left 1
  focus (intro w hSw; (try dsimp only at hSw); obtain ⟨_, _, hSt, _, _⟩ := hSw; go_simp; try (with_reducible rfl))
  simp only [Act.put, List.setIfInBounds_toArray, List.set_cons_zero, List.set_cons_succ]
  refine wpAnyH_take (i := 26) (oi := { dst := some 129, op := _, type := _, pos := _, after := _, guard := none }) (v := ?_) rfl (by kernel_rfl) (by kernel_rfl) (by kernel_rfl) (fun _ _ _ h => h) (Or.inl ⟨by rfl, ?_⟩) hS ?_
  rotate_left 1
  focus (intro w hSw; clear hSw; go_simp; try (with_reducible rfl))
  simp only [Act.put, List.setIfInBounds_toArray, List.set_cons_zero, List.set_cons_succ]
  refine wpAnyH_take (i := 27) (oi := { dst := some 130, op := _, type := _, pos := _, after := _, guard := none }) (v := ?_) rfl (by kernel_rfl) (by kernel_rfl) (by kernel_rfl) (fun _ _ _ h => h) (Or.inl ⟨by rfl, ?_⟩) hS ?_
  rotate_left 1
  focus (intro w hSw; clear hSw; go_simp; try (with_reducible rfl))
  simp only [Act.put, List.setIfInBounds_toArray, List.set_cons_zero, List.set_cons_succ]
  refine wpAnyH_take (i := 28) (oi := { dst := some 131, op := _, type := _, pos := _, after := _, guard := some (27, true) }) (v := .agg (machL Z Sy).toArray) rfl (by kernel_rfl) (by kernel_rfl) (by kernel_rfl) (fun _ _ _ h => h) (Or.inl ⟨by rfl, fun w' hSw => exec_load_mid 41 _ rfl w3.heap.size 0 rfl (machL Z Sy) _ hSw.2.2.2.1 Try.underlying41 rfl info_mach⟩) hS ?_
  simp only [Act.put, List.setIfInBounds_toArray, List.set_cons_zero, List.set_cons_succ]
  refine wpAnyH_take (i := 29) (oi := { dst := some 132, op := _, type := _, pos := _, after := _, guard := some (27, true) }) (v := ?_) rfl (by kernel_rfl) (by kernel_rfl) (by kernel_rfl) (fun _ _ _ h => h) (Or.inl ⟨by rfl, ?_⟩) hS ?_
  rotate_left 1
  focus (intro w hSw; (try dsimp only at hSw); obtain ⟨_, _, hSt, _, _⟩ := hSw; go_simp; try (with_reducible rfl))
  simp only [Act.put, List.setIfInBounds_toArray, List.set_cons_zero, List.set_cons_succ]
  refine wpAnyH_take (i := 30) (oi := { dst := some 133, op := _, type := _, pos := _, after := _, guard := some (27, true) }) (v := ?_) rfl (by kernel_rfl) (by kernel_rfl) (by kernel_rfl) (fun _ _ _ h => h) (Or.inl ⟨by rfl, ?_⟩) hS ?_
  rotate_left 1
  focus (intro w hSw; (try dsimp only at hSw); obtain ⟨_, _, hSt, _, _⟩ := hSw; go_simp; try (with_reducible rfl))
  simp only [Act.put, List.setIfInBounds_toArray, List.set_cons_zero, List.set_cons_succ]
  refine wpAnyH_take (i := 31) (oi := { dst := some 134, op := _, type := _, pos := _, after := _, guard := some (27, true) }) (v := ?_) rfl (by kernel_rfl) (by kernel_rfl) (by kernel_rfl) (fun _ _ _ h => h) (Or.inl ⟨by rfl, ?_⟩) hS ?_
  rotate_left 1
  focus (intro w hSw; (try dsimp only at hSw); obtain ⟨_, _, hSt, _, _⟩ := hSw; go_simp; try (with_reducible rfl))
  simp only [Act.put, List.setIfInBounds_toArray, List.set_cons_zero, List.set_cons_succ]
  refine wpAnyH_take (i := 32) (oi := { dst := some 135, op := _, type := _, pos := _, after := _, guard := some (27, true) }) (v := .agg (machL Z F2.S).toArray) rfl (by kernel_rfl) (by kernel_rfl) (by kernel_rfl) (fun _ _ _ h => h) (Or.inl ⟨by rfl, fun w' hSw => exec_load_mid 41 _ rfl F2.g 0 rfl (machL Z F2.S) _ hSw.2.2.2.2 Try.underlying41 rfl info_mach⟩) hS ?_
  simp only [Act.put, List.setIfInBounds_toArray, List.set_cons_zero, List.set_cons_succ]
  refine wpAnyH_ready (rs := [33]) (by kernel_rfl) (by simp) ?_
  refine AllReadyH.cons (o := { dst := some 136, op := _, type := _, pos := _, after := _, guard := some (27, true) }) rfl (fun K hK => ?_) AllReadyH.nil
  go_simp
  go_at_call 13
  refine (Bu.same_any Z Sy F2.S _ HKk1.out.r.ys HKk1.out.g2s).mono ?_
  rintro e k2 ⟨rfl, hbk2⟩
  have HKk2 := hid (HKk1.out.kept hbk2)
  clear hbk2
  try go_wp2_with fail
  refine hK.out _ _ HKk2.out.s (fun _ => ?_)
  clear hK K hS
  have hS := HKk2.out.s
  try simp only [Act.put, List.setIfInBounds_toArray, List.set_cons_zero, List.set_cons_succ]
  refine wpAnyH_take (i := 34) (oi := { dst := some 137, op := _, type := _, pos := _, after := _, guard := none }) (v := ?_) rfl (by kernel_rfl) (by kernel_rfl) (by kernel_rfl) (fun _ _ _ h => h) (Or.inl ⟨by rfl, ?_⟩) hS ?_
  rotate_left 1
  focus (intro w hSw; clear hSw; go_simp; try (with_reducible rfl))
  simp only [Act.put, List.setIfInBounds_toArray, List.set_cons_zero, List.set_cons_succ]
  refine wpAnyH_take (i := 35) (oi := { dst := some 8, op := _, type := _, pos := _, after := _, guard := none }) (v := ?_) rfl (by kernel_rfl) (by kernel_rfl) (by kernel_rfl) (fun _ _ _ h => h) (Or.inl ⟨by rfl, ?_⟩) hS ?_
  rotate_left 1
  focus (intro w hSw; clear hSw; go_simp; try (with_reducible rfl))
  simp only [Act.put, List.setIfInBounds_toArray, List.set_cons_zero, List.set_cons_succ]
  refine wpAnyH_done (by kernel_rfl) ?_ _
  go_simp
  go_wp2
  go_ret
  exact ⟨rfl, HKk2.out.r.low⟩
theorem busReads_walk : BusReadsWalk := by
  intro H enc W base v0 v1 v2 v3 d0 d1 d2 d3 p0 p1 p2 p3 hwt k0 t0 k1 t1 k2 t2 k3 t3
  obtain ⟨M, S, rfl, hok, hs, hz⟩ := open_mach k0 t0
  obtain ⟨aux, rfl, _⟩ := open_bool Try.underlying4 k1 t1
  obtain ⟨a, rfl, _, _, wa⟩ := open_int Try.underlying23 k2 t2
  obtain ⟨n, rfl, _, _, wn⟩ := open_int Try.underlying5 k3 t3
  have ha := bounds_u16 wa
  have hn := bounds_u8 wn
  have hl := mach_lens t0 hwt hs.lens
  by_cases hc : M.chk = 0
  · have hf := chk_fit hok hc
    cases aux
    · exact Bu.reads_ok0 M (M.rdM a).2 (M.wrM a n) S W a n (M.rdM a).1 (tookM a n) ha hn hf hs hl
        (fun S w hs => (Bu.read_m M S w a ha hs hf).mono fun e w' ⟨S', h1, h2, _, _, h3⟩ => ⟨S', h1, h2, h3⟩)
        (fun S w hs => (Bu.write_m M S w a n ha hn hs hf).mono fun e w' ⟨S', h1, h2, _, _, h3⟩ => ⟨S', h1, h2, h3⟩) hc rfl rfl rfl
    · exact Bu.reads_ok1 M (M.rdA a).2 (M.wrA a n) S W a n (M.rdA a).1 0 ha hn hf hs hl
        (fun S w hs => (Bu.read_a M S w a ha hs hf).mono fun e w' ⟨S', h1, h2, _, _, h3⟩ => ⟨S', h1, h2, h3⟩)
        (fun S w hs => (Bu.write_a M S w a n ha hn hs hf).mono fun e w' ⟨S', h1, h2, _, _, h3⟩ => ⟨S', h1, h2, h3⟩) hc rfl rfl rfl
  · exact Bu.reads_bad M S W aux a n M.chk hs hl
      (fun S w hs => (Bu.read_bad M S aux w a hs.lens hz hc).mono fun e w' ⟨h1, h3⟩ => ⟨nilS, h1, zero_at _, h3⟩)
      (fun S w hs => (Bu.write_bad M S aux w a n hs.lens hz hc).mono fun e w' ⟨h1, h3⟩ => ⟨nilS, h1, zero_at _, h3⟩) rfl (by simpa using hc)
theorem busReads_holds : Rows.BusReadsSaid := busReads_row busReads_walk
end Go.Proofs.Ythooknikfachnaa
