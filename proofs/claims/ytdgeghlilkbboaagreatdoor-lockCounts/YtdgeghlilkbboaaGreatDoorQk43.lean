/-
  Parts of a proof, joined.
-/
import Derived.Test.YtdgeghlilkbboaaGreatDoorQk41
import Derived.Test.YtdgeghlilkbboaaGreatDoorQk42
import Derived.Test.YtdgeghlilkbboaaGreatDoorQk07
import Derived.Test.YtdgeghlilkbboaaGreatDoorQk21
import Derived.ChangeKeysEq
import Derived.Laws.StructEq
import Derived.Test.YtdgeghlilkbboaaGreatDoorQk30
import Derived.Deep.DeepCutAuto
import Derived.Test.YtdgeghlilkbboaaGreatDoorQk17
namespace Go.Proofs.YtdgeghlilkbboaaGreatDoor
open Go.ChangeShapes Go.WideShapes Go.ChangeAt Go.RowKit
set_option linter.unusedVariables false
set_option maxRecDepth 100000
def lkText : S.By := [46, 119, 111, 114, 100, 32, 54, 10, 46, 119, 111, 114, 100, 32, 48, 10, 46, 119, 111, 114, 100, 32, 48, 10, 108, 100, 105, 32, 114, 49, 44, 32, 51, 50, 55, 54, 56, 10, 115, 116, 98, 32, 114, 49, 44, 32, 114, 49, 44, 32, 49, 10, 104, 108, 116, 10]
theorem lk_build : S.readText lkText = .ok lkRom := by
  have h : (match S.readText lkText with | .ok r => r == lkRom | .error _ => false) = true := by decide +kernel
  split at h
  · rename_i r hr
    rw [hr, beq_iff_eq.1 h]
  · cases h
theorem as_slice {w : World} {v : Value} {l : List UInt8} (h : AssliceAt w v l) : sliceAt w v l := h
theorem row_len {w : World} {B z n : Nat} {t : TypeId} {v : Value} {xs : List Value} (h : w.ownsRow B t z v n xs) : ∃ a c, v = .slice a n c := by
  rcases h.2 with ⟨e0, e1⟩ | ⟨g, cap, cur, e0, _⟩
  · exact ⟨none, 0, by rw [e0, e1]⟩
  · exact ⟨_, _, e0⟩
theorem isSl_of {W : World} {S : Sl} {M : Mach} (h : SlAt W S M) : S.isSl := fun j hj => by
  obtain ⟨a, c, e⟩ := slice_len (h j hj)
  exact ⟨_, _, _, e⟩
structure LBx (w : World) (b : Nat) (M : Mach) (S : Sl) (Y : World) : Prop where
  low : Below w.heap.size w Y
  ge : w.heap.size ≤ b
  bx : Bx Y b (machL M S)
  sl : SlAt Y S M
theorem LBx.mk0 {w w2 : World} {M : Mach} {S : Sl} (hb : Below w.heap.size w w2) (hs : SlAt w2 S M) : LBx w w2.heap.size M S ((w2.alloc (.cells (machL zeroM nilS).toArray 41)).setCells w2.heap.size 0 (machL M S)) := by
  have hx := (Bx.new w2 (machL zeroM nilS) 41 (b := w2.heap.size) rfl).puts 0 (machL M S) (by rw [machL_len, machL_len]; omega)
  rw [putL_whole _ _ (by rw [machL_len, machL_len])] at hx
  have hq : Below w2.heap.size w2 ((w2.alloc (.cells (machL zeroM nilS).toArray 41)).setCells w2.heap.size 0 (machL M S)) := Bl.puts (stA (st0 w2) _) (Nat.le_refl _) _
  exact ⟨stp hb hq, hb.size, hx, hs.kept hq⟩
structure LE (w : World) (b c : Nat) (M : Mach) (S : Sl) (L : List Value) (Y : World) : Prop where
  low : Below w.heap.size w Y
  bx : Bx Y b (machL M S)
  sh : Bx Y c L
theorem LE.mk1 {w w3 : World} {b : Nat} {M X : Mach} {S S' : Sl} (hb : Below w.heap.size w w3) (hge : w.heap.size ≤ b) (hx : Bx w3 b (machL M S)) : LE w b w3.heap.size X S' [.slice none 0 0, .slice none 0 0, .slice none 0 0] ((w3.alloc (.cells #[.slice none 0 0, .slice none 0 0, .slice none 0 0] 47)).setCells b 0 (machL X S')) := by
  have hz := hx.z
  have h1 := (hx.over (.cells #[.slice none 0 0, .slice none 0 0, .slice none 0 0] 47)).puts 0 (machL X S') (by rw [machL_len, machL_len]; omega)
  rw [putL_whole _ _ (by rw [machL_len, machL_len])] at h1
  exact ⟨below_sets' (stA hb _) hge _ _, h1, DW.bb (Bx.new w3 [.slice none 0 0, .slice none 0 0, .slice none 0 0] 47 (b := w3.heap.size) rfl) (by omega)⟩
theorem LE.put {w Y : World} {b c : Nat} {X : Mach} {S' : Sl} {x y z x' y' z' : Value} (h : LE w b c X S' [x, y, z] Y) (hne : b ≠ c) (hge : w.heap.size ≤ c) : LE w b c X S' [x', y', z'] (Y.setCells c 0 [x', y', z']) := by
  have h1 := h.sh.puts 0 [x', y', z'] (by simp)
  rw [putL_whole _ _ (by simp)] at h1
  exact ⟨below_sets' h.low hge _ _, DW.bb h.bx hne, h1⟩
theorem cell_of {Y : World} {b : Nat} {M : Mach} {S : Sl} (h : Bx Y b (machL M S)) : Y.cell? ⟨b, 14, none⟩ = some (.bool M.main.Waits) ∧ Y.cell? ⟨b, 72, none⟩ = some (.int .i64 M.clock) ∧ Y.cell? ⟨b, 61, none⟩ = some (.int .i64 M.b.l) := ⟨h.at 14 _ rfl, h.at 72 _ rfl, h.at 61 _ rfl⟩
theorem nil_inp (B : Nat) (w : World) : InpAt B w (.slice none 0 0) [] := Or.inl ⟨rfl, _, _, rfl⟩
theorem sl_nil (w : World) : sliceAt w (.slice none 0 0) [] := Or.inl ⟨_, _, rfl, rfl⟩
set_option maxHeartbeats 3200000 in
theorem Lk.locked_any (w : World) (hF : AF w) : Calls Tryz.prog 10 #[] w fun e w' => e = .returned (.bool true) ∧ Below w.heap.size w w' := by
  have HB := hid (build_ok lkText lkRom (by decide) (by decide) lk_build w hF)
  have HF := hid hF
  have hE := lk_end
  obtain ⟨K, hK⟩ : ∃ K, K = lkStart.clocks 64 := ⟨_, rfl⟩
  rw [← hK] at hE
  have HK := hid hK
  have HE := hid hE
  clear hF hK hE
  go_enter Tryz.func10, Tryz.ntmps10
  go_wp2_with (first
    | (go_at_call 29; refine HB.out.mono ?_; rintro e w1 ⟨v, rfl, hv, hb1⟩; have HV := hid (as_slice hv); have HL1 := hid hb1; clear hv hb1)
    | (go_at_call 30; refine (Bu.new_ok lkRom [] v (.slice none 0 0) w1 HV.out (sl_nil _) (by decide) (by decide)).mono ?_; rintro e w2 ⟨S2, rfl, hs2, hf2, hn2, hb2⟩; have HS2 := hid hs2; have HF2 := hid hf2; have HL2 := hid (stp HL1.out hb2); clear hs2 hf2 hn2 hb2)
    | (refine wpList_store_mid rfl 41 _ _ rfl w2.heap.size 0 (machL (newD lkRom []) S2).toArray rfl rfl ((Bx.new w2 (machL zeroM nilS) 41 (b := w2.heap.size) rfl).there 0 75 (by rw [machL_len]; omega)) info_mach (machL_one _ _ (isSl_of HS2.out)) ?_
       refine Pl.cutL (LBx w w2.heap.size (newD lkRom []) S2) (LBx.mk0 HL2.out HS2.out) ?_
       intro Y1 hY1
       have HY1 := hid hY1
       clear hY1)
    | (refine wpList_load_mid rfl 41 _ rfl w2.heap.size 0 rfl (machL (newD lkRom []) S2) _ HY1.out.bx.c Tryz.underlying41 rfl info_mach ?_)
    | (go_at_call 8; refine (Lk.run_ok (newD lkRom []) S2 (.slice none 0 0) [] 64 Y1 HY1.out.sl (HF.out.kept HY1.out.low).shapes (nil_inp _ _) (fun x hx => by cases hx) HF2.out (by show (0 : Int) ≤ 20000; decide) rfl ⟨by decide, by show (0 : Int) + 64 ≤ 200000; decide⟩).mono ?_
       rintro e w3 ⟨F, N, vln, vsm, vw, rfl, hT, _, _, _, hb3⟩
       change Told F N (lkStart.clocks 64) vln vsm vw w3 at hT
       have HKQ := HK.out
       rw [show (⟨⟨newD lkRom [], 0, []⟩, [], [], []⟩ : Cs) = lkStart from rfl, ← HKQ]
       rw [← HKQ] at hT
       obtain ⟨a1, c1, e1⟩ := row_len hT.ln
       obtain ⟨a2, c2, e2⟩ := row_len hT.sm
       obtain ⟨a3, n3, c3, e3⟩ := row_slice hT.ws
       rw [HE.out.1] at e1
       rw [HE.out.2.1] at e2
       subst e1 e2 e3
       have HIS := hid (isSl_of hT.sl)
       have HB3 := hid (HY1.out.bx.kept hb3)
       have HL3 := hid (stp HY1.out.low hb3)
       have hne : w2.heap.size ≠ w3.heap.size := by have := HB3.out.z; omega
       obtain ⟨X, hX⟩ : ∃ X, X = K.s.M := ⟨_, rfl⟩
       have HX : Hid (X.main.Waits = true ∧ X.clock = 64 ∧ X.b.l = 1) := hid (by rw [hX]; exact HE.out.2.2)
       rw [← hX]
       clear hT hb3 hX HKQ)
    | (refine wpList_store_mid rfl 41 _ _ rfl w2.heap.size 0 (machL X F.S).toArray rfl rfl ((HB3.out.over _).there 0 75 (by rw [machL_len]; omega)) info_mach (machL_one _ _ HIS.out) ?_
       refine Pl.cutL (LE w w2.heap.size w3.heap.size X F.S [.slice none 0 0, .slice none 0 0, .slice none 0 0]) (LE.mk1 HL3.out HY1.out.ge HB3.out) ?_
       intro Y2 hY2
       have HY2 := hid hY2
       clear hY2)
    | (refine wpList_store_mid rfl 47 _ _ rfl w3.heap.size 0 #[.slice a1 1 c1, .slice a2 4 c2, .slice a3 n3 c3] rfl rfl (HY2.out.sh.there 0 3 (by simp)) info_shown (by simp [Value.oneCell']) ?_
       refine Pl.cutL (LE w w2.heap.size w3.heap.size X F.S [.slice a1 1 c1, .slice a2 4 c2, .slice a3 n3 c3]) (HY2.out.put hne HL3.out.size) ?_
       intro Y3 hY3
       have HY3 := hid hY3
       have y0 := hY3.sh.at 0 _ rfl
       have y1 := hY3.sh.at 1 _ rfl
       have yz := hY3.sh.z
       obtain ⟨x1, x2, x3⟩ := cell_of hY3.bx
       have xz := hY3.bx.z
       rw [HX.out.1] at x1
       rw [HX.out.2.1] at x2
       rw [HX.out.2.2] at x3
       clear hY3))
  go_ret
  exact ⟨rfl, HY3.out.low⟩
theorem Bu.eq_arr (a0 a1 a2 a3 a4 a5 a6 a7 : Int) (d : Nat) (w : World) :
    (Op.equalIn (d + 2) 23 (.agg #[.int .u16 a0, .int .u16 a1, .int .u16 a2, .int .u16 a3, .int .u16 a4, .int .u16 a5, .int .u16 a6, .int .u16 a7]) (.agg #[.int .u16 a0, .int .u16 a1, .int .u16 a2, .int .u16 a3, .int .u16 a4, .int .u16 a5, .int .u16 a6, .int .u16 a7])).run Tryz.prog w = .ok true w := by
  have u3 := Tryz.underlying22
  have x3 := Tryz.isAgg22
  have z3 := Tryz.sizeOf22
  have hU : Tryz.prog.cellsOf 22 = 1 := by kernel_rfl
  have hs : (Tryz.prog.info? 22).isSome = true := by kernel_rfl
  obtain ⟨i, hi⟩ := Option.isSome_iff_exists.1 hs
  rw [run_equalIn_array w (d + 1) _ _ Tryz.underlying23 hi, hU]
  simp only [List.range, List.range.loop, Op.eqItems]
  go_simp
theorem Bu.eq_cpu (c : C.Cpu) (w : World) : (binOp .eql 25 (.agg #[.int .u16 (c.r 0), .int .u16 (c.r 1), .int .u16 (c.r 2), .int .u16 (c.r 3), .int .u16 (c.r 4), .int .u16 (c.r 5), .int .u16 (c.r 6), .int .u16 (c.r 7), .int .u16 c.PC, .bool c.Z, .bool c.N, .bool c.C, .bool c.V, .bool c.May, .bool c.Waits]) (.agg #[.int .u16 (c.r 0), .int .u16 (c.r 1), .int .u16 (c.r 2), .int .u16 (c.r 3), .int .u16 (c.r 4), .int .u16 (c.r 5), .int .u16 (c.r 6), .int .u16 (c.r 7), .int .u16 c.PC, .bool c.Z, .bool c.N, .bool c.C, .bool c.V, .bool c.May, .bool c.Waits])).run Tryz.prog w = .ok (.bool true) w := by
  have u3 := Tryz.underlying22
  have x3 := Tryz.isAgg22
  have z3 := Tryz.sizeOf22
  have u4 := Tryz.underlying4
  have x4 := Tryz.isAgg4
  have z4 := Tryz.sizeOf4
  have x5 := Tryz.isAgg23
  have z5 := Tryz.sizeOf23
  have ha := Bu.eq_arr (c.r 0) (c.r 1) (c.r 2) (c.r 3) (c.r 4) (c.r 5) (c.r 6) (c.r 7) 9997
  have hS : Tryz.prog.underlying 25 = some (.struct (Tryz.prog.fieldsOf 25)) := by kernel_rfl
  have hp : Tryz.prog.stoodInHeld 25 = false := by kernel_rfl
  rw [run_eql_struct, show (10000 : Nat) = 9999 + 1 from rfl, run_equalIn_agg w 9999 25 _ _ hS hp]
  simp only [Program.fieldsOf, Tryz.underlying25]
  go_simp
theorem Bu.eq_cpuL (c : C.Cpu) (w : World) : (binOp .eql 25 (.agg (cpuL c).toArray) (.agg (cpuL c).toArray)).run Tryz.prog w = .ok (.bool true) w := Bu.eq_cpu c w
theorem Bu.eq_pad (d s : Int) (l : Bool) (n : Nat) (w : World) : (Op.equalIn (n + 2) 28 (.agg #[.int .u8 d, .bool l, .int .u8 s]) (.agg #[.int .u8 d, .bool l, .int .u8 s])).run Tryz.prog w = .ok true w := by
  have u4 := Tryz.underlying4
  have a4 := Tryz.isAgg4
  have z4 := Tryz.sizeOf4
  have u5 := Tryz.underlying5
  have a5 := Tryz.isAgg5
  have z5 := Tryz.sizeOf5
  have hS : Tryz.prog.underlying 28 = some (.struct (Tryz.prog.fieldsOf 28)) := by kernel_rfl
  have hp : Tryz.prog.stoodInHeld 28 = false := by kernel_rfl
  rw [run_equalIn_agg w (n + 1) 28 _ _ hS hp]
  simp only [Program.fieldsOf, Tryz.underlying28]
  go_simp
theorem Bu.eq_pads (d s d' s' : Int) (l l' : Bool) (w : World) : (binOp .eql 29 (.agg #[.int .u8 d, .bool l, .int .u8 s, .int .u8 d', .bool l', .int .u8 s']) (.agg #[.int .u8 d, .bool l, .int .u8 s, .int .u8 d', .bool l', .int .u8 s'])).run Tryz.prog w = .ok (.bool true) w := by
  have h0 := Bu.eq_pad d s l 9997
  have h1 := Bu.eq_pad d' s' l' 9997
  have a3 := Tryz.isAgg28
  have z3 := Tryz.sizeOf28
  have hU : Tryz.prog.cellsOf 28 = 3 := by kernel_rfl
  have hs : (Tryz.prog.info? 28).isSome = true := by kernel_rfl
  obtain ⟨i, hi⟩ := Option.isSome_iff_exists.1 hs
  rw [run_eql_struct, show (10000 : Nat) = 9999 + 1 from rfl, run_equalIn_array w 9999 _ _ Tryz.underlying29 hi, hU]
  simp only [List.range, List.range.loop, Op.eqItems]
  go_simp
theorem Bu.eq_mail (x y : Int) (w : World) : (binOp .eql 39 (.agg #[.int .u8 x, .int .u8 y]) (.agg #[.int .u8 x, .int .u8 y])).run Tryz.prog w = .ok (.bool true) w := by
  have u3 := Tryz.underlying5
  have a3 := Tryz.isAgg5
  have z3 := Tryz.sizeOf5
  have hU : Tryz.prog.cellsOf 5 = 1 := by kernel_rfl
  have hs : (Tryz.prog.info? 5).isSome = true := by kernel_rfl
  obtain ⟨i, hi⟩ := Option.isSome_iff_exists.1 hs
  rw [run_eql_struct, show (10000 : Nat) = 9999 + 1 from rfl, run_equalIn_array w 9999 _ _ Tryz.underlying39 hi, hU]
  simp only [List.range, List.range.loop, Op.eqItems]
  go_simp
theorem Bu.loadG {P : Program} {ops : Array Oper} {rest : List Oper} {op : Oper} {a : Act} {w : World} {Q : Exit → Act → World → Prop} (hw : Region.wanted op (yielded ops a.tmps) = true) (ty : TypeId) (x : Operand) (ho : op.op = .load ty x)
    (b o : Nat) (hx : a.eval x = .pointer (some ⟨b, o, none⟩)) (cs : List Value) (d : TypeDesc) (hc : w.rangeAt b o cs)
    (hu : P.underlying ty = some d) (hd : d.isRow = true) (hi : (P.info? ty).map (·.size) = some cs.length)
    (h : wpList P ops Q rest (a.put op.dst (.agg cs.toArray)) w) : wpList P ops Q (op :: rest) a w :=
  wpList_step fun K hK => by rw [if_pos hw]; exact wp_load_mid ty x ho b o hx cs d hc hu hd hi (hK _ _ h)
theorem Bx.mainR {Y : World} {b : Nat} {M : Mach} {S : Sl} (h : Bx Y b (machL M S)) : Y.rangeAt b 0 (cpuL M.main) := fun i v hi => by
  refine h.at (0 + i) v ?_
  rw [Nat.zero_add]
  unfold machL
  rw [List.getElem?_append_left (List.getElem?_eq_some_iff.1 hi).1]
  exact hi
theorem Bx.auxR {Y : World} {b : Nat} {M : Mach} {S : Sl} (h : Bx Y b (machL M S)) : Y.rangeAt b 15 (cpuL M.aux) := fun i v hi => by
  refine h.at (15 + i) v ?_
  unfold machL
  have hl : (cpuL M.main).length = 15 := rfl
  rw [List.getElem?_append_right (by omega), hl, show 15 + i - 15 = i by omega, List.getElem?_append_left (List.getElem?_eq_some_iff.1 hi).1]
  exact hi
theorem Bx.scl {Y : World} {b : Nat} {M : Mach} {S : Sl} (h : Bx Y b (machL M S)) : Y.cell? ⟨b, 35, none⟩ = some (.int .u8 M.p0.d) ∧ Y.cell? ⟨b, 36, none⟩ = some (.bool M.p0.l) ∧ Y.cell? ⟨b, 37, none⟩ = some (.int .u8 M.p0.s) ∧ Y.cell? ⟨b, 38, none⟩ = some (.int .u8 M.p1.d) ∧ Y.cell? ⟨b, 39, none⟩ = some (.bool M.p1.l) ∧ Y.cell? ⟨b, 40, none⟩ = some (.int .u8 M.p1.s) ∧ Y.cell? ⟨b, 41, none⟩ = some (.int .u16 M.t.r) ∧ Y.cell? ⟨b, 42, none⟩ = some (.int .u16 M.t.c) ∧ Y.cell? ⟨b, 43, none⟩ = some (.bool M.t.on) ∧ Y.cell? ⟨b, 44, none⟩ = some (.bool M.t.g) ∧ Y.cell? ⟨b, 61, none⟩ = some (.int .i64 M.b.l) ∧ Y.cell? ⟨b, 62, none⟩ = some (.int .i64 M.b.a) ∧ Y.cell? ⟨b, 63, none⟩ = some (.bool M.b.g) ∧ Y.cell? ⟨b, 64, none⟩ = some (.int .i64 M.b.f) ∧ Y.cell? ⟨b, 65, none⟩ = some (.int .u16 M.fr) ∧ Y.cell? ⟨b, 66, none⟩ = some (.int .u16 M.to) ∧ Y.cell? ⟨b, 67, none⟩ = some (.bool M.granted) ∧ Y.cell? ⟨b, 68, none⟩ = some (.bool M.held) ∧ Y.cell? ⟨b, 69, none⟩ = some (.int .u8 M.m0) ∧ Y.cell? ⟨b, 70, none⟩ = some (.int .u8 M.m1) ∧ Y.cell? ⟨b, 71, none⟩ = some (.bool M.rung) ∧ Y.cell? ⟨b, 72, none⟩ = some (.int .i64 M.clock) ∧ Y.cell? ⟨b, 73, none⟩ = some (.int .i64 M.mready) ∧ Y.cell? ⟨b, 74, none⟩ = some (.int .i64 M.aready) :=
  ⟨h.at 35 _ rfl, h.at 36 _ rfl, h.at 37 _ rfl, h.at 38 _ rfl, h.at 39 _ rfl, h.at 40 _ rfl, h.at 41 _ rfl, h.at 42 _ rfl, h.at 43 _ rfl, h.at 44 _ rfl, h.at 61 _ rfl, h.at 62 _ rfl, h.at 63 _ rfl, h.at 64 _ rfl, h.at 65 _ rfl, h.at 66 _ rfl, h.at 67 _ rfl, h.at 68 _ rfl, h.at 69 _ rfl, h.at 70 _ rfl, h.at 71 _ rfl, h.at 72 _ rfl, h.at 73 _ rfl, h.at 74 _ rfl⟩
abbrev nil3 : List Value := [.slice none 0 0, .slice none 0 0, .slice none 0 0]
structure R3 (w1 : World) (X : Mach) (S' : Sl) (L : List Value) (Y : World) : Prop where
  old : Below w1.heap.size w1 Y
  x : Bx Y w1.heap.size (machL X S')
  s : Bx Y (w1.heap.size + 1) L
section
variable {w1 Y Y' : World} {X : Mach} {S' : Sl} {L : List Value}
theorem R3.mk1 (w1 : World) (X : Mach) (S' : Sl) : R3 w1 X S' nil3 (((w1.alloc (.cells (machL zeroM nilS).toArray 41)).alloc (.cells #[.slice none 0 0, .slice none 0 0, .slice none 0 0] 47)).setCells w1.heap.size 0 (machL X S')) := by
  have h1 := ((Bx.new w1 (machL zeroM nilS) 41 (b := w1.heap.size) rfl).over (.cells #[.slice none 0 0, .slice none 0 0, .slice none 0 0] 47)).puts 0 (machL X S') (by rw [machL_len, machL_len]; omega)
  rw [putL_whole _ _ (by rw [machL_len, machL_len])] at h1
  exact ⟨below_sets' (stA (stA (st0 w1) _) _) (Nat.le_refl _) _ _, h1, DW.bb (Bx.new (w1.alloc (.cells (machL zeroM nilS).toArray 41)) nil3 47 (b := w1.heap.size + 1) (by simp)) (by omega)⟩
theorem R3.put {x y z x' y' z' : Value} (h : R3 w1 X S' [x, y, z] Y) : R3 w1 X S' [x', y', z'] (Y.setCells (w1.heap.size + 1) 0 [x', y', z']) := by
  have h1 := h.s.puts 0 [x', y', z'] (by simp)
  rw [putL_whole _ _ (by simp)] at h1
  exact ⟨below_sets' h.old (by omega) _ _, DW.bb h.x (by omega), h1⟩
theorem R3.kept (h : R3 w1 X S' L Y) (hb : Below Y.heap.size Y Y') : R3 w1 X S' L Y' := ⟨stp h.old hb, h.x.kept hb, h.s.kept hb⟩
end
theorem R3.th1 (w1 : World) : ((w1.alloc (.cells (machL zeroM nilS).toArray 41)).alloc (.cells #[.slice none 0 0, .slice none 0 0, .slice none 0 0] 47)).there w1.heap.size 0 75 := ((Bx.new w1 (machL zeroM nilS) 41 (b := w1.heap.size) rfl).over _).there 0 75 (by rw [machL_len]; omega)
theorem one3 (a1 a2 a3 : Option Addr) (n1 n2 n3 c1 c2 c3 : Nat) : (#[.slice a1 n1 c1, .slice a2 n2 c2, .slice a3 n3 c3] : Array Value).all (·.oneCell') = true := by simp [Value.oneCell']
theorem Lk.long_any (M : Mach) (S : Sl) (n : Int) (w : World) : Calls Tryz.prog 14 #[.agg (machL M S).toArray, .int .i64 n] w fun e w' => e = .returned (.bool (decide (19000 < M.b.f))) ∧ Below w.heap.size w w' := by
  have hB := Bx.new w (machL M S) 41 (b := w.heap.size) rfl
  have x64 := hB.at 64 (.int .i64 M.b.f) rfl
  clear hB
  go_enter Tryz.func14, Tryz.ntmps14
  go_wp2
  go_ret
  exact ⟨rfl, stA (st0 w) _⟩
theorem fld {H : Type} {enc : TypeId × Value → H} {P : Program} {w : World} {base : Nat} {spare : Nat → Bool} {held : Bool} {n i o : Nat} {ty : TypeId} {cs : List Value} {xs : List (DataW H × List MemPlace)}
    (h : DataW.trod enc P w base spare held n ty ((cs.drop o).take (P.cellsOf ty)) = xs[i]?) (hi : i < xs.length) (hc : P.cellsOf ty = 1) {v : Value} (hv : cs[o]? = some v) : ∃ y, DataW.trod enc P w base spare held n ty [v] = some y := by
  rw [hc, List.getElem?_eq_getElem hi] at h
  have e : (cs.drop o).take 1 = [v] := by
    rw [List.take_one, List.head?_drop, hv]
    rfl
  rw [e] at h
  exact ⟨_, h⟩
theorem fld_int {H : Type} {enc : TypeId × Value → H} {P : Program} {w : World} {base : Nat} {spare : Nat → Bool} {held : Bool} {n i o : Nat} {ty : TypeId} {cs : List Value} {xs : List (DataW H × List MemPlace)} {k : IntKind}
    (h : DataW.trod enc P w base spare held n ty ((cs.drop o).take (P.cellsOf ty)) = xs[i]?) (hi : i < xs.length) (hc : P.cellsOf ty = 1) (ht : P.underlying ty = some (.int k)) {v : Value} (hv : cs[o]? = some v) : ∃ a : Int, v = .int k a ∧ (Lit.int k a).wf = true := by
  obtain ⟨y, hy⟩ := fld h hi hc hv
  obtain ⟨a, e, _, hw⟩ := DataW.trod_int ht hy
  simp only [List.cons.injEq, and_true] at e
  exact ⟨a, e, hw⟩
theorem fld_bool {H : Type} {enc : TypeId × Value → H} {P : Program} {w : World} {base : Nat} {spare : Nat → Bool} {held : Bool} {n i o : Nat} {ty : TypeId} {cs : List Value} {xs : List (DataW H × List MemPlace)}
    (h : DataW.trod enc P w base spare held n ty ((cs.drop o).take (P.cellsOf ty)) = xs[i]?) (hi : i < xs.length) (hc : P.cellsOf ty = 1) (ht : P.underlying ty = some .bool) {v : Value} (hv : cs[o]? = some v) : ∃ a : Bool, v = .bool a := by
  obtain ⟨y, hy⟩ := fld h hi hc hv
  obtain ⟨a, e, _⟩ := DataW.trod_bool ht hy
  simp only [List.cons.injEq, and_true] at e
  exact ⟨a, e⟩
theorem trod_voice {H : Type} {enc : TypeId × Value → H} {w : World} {base : Nat} {spare : Nat → Bool} {held : Bool} {m : Nat} {c0 c1 c2 c3 c4 : Value} {x : DataW H × List MemPlace} (h : DataW.trod enc Tryz.prog w base spare held m 33 [c0, c1, c2, c3, c4] = some x) :
    ∃ v : Vc, [c0, c1, c2, c3, c4] = vcs v ∧ v.ok := by
  have hU : Tryz.prog.cellsOf 22 = 1 := by kernel_rfl
  have hB : Tryz.prog.cellsOf 4 = 1 := by kernel_rfl
  have hE : Tryz.prog.cellsOf 5 = 1 := by kernel_rfl
  obtain ⟨xs, n, _, _, _, hlen, hfs⟩ := DataW.trod_struct Tryz.underlying33 h
  have hl5 : xs.length = 5 := hlen
  obtain ⟨a0, rfl, w0⟩ := fld_int (ty := 22) (o := 0) (v := c0) (hfs 0 _ rfl) (by omega) hU Tryz.underlying22 rfl
  obtain ⟨a1, rfl, w1⟩ := fld_int (ty := 22) (o := 1) (v := c1) (hfs 1 _ rfl) (by omega) hU Tryz.underlying22 rfl
  obtain ⟨a2, rfl, w2⟩ := fld_int (ty := 5) (o := 2) (v := c2) (hfs 2 _ rfl) (by omega) hE Tryz.underlying5 rfl
  obtain ⟨b3, rfl⟩ := fld_bool (ty := 4) (o := 3) (v := c3) (hfs 3 _ rfl) (by omega) hB Tryz.underlying4 rfl
  obtain ⟨a4, rfl, w4⟩ := fld_int (ty := 22) (o := 4) (v := c4) (hfs 4 _ rfl) (by omega) hU Tryz.underlying22 rfl
  exact ⟨⟨a0, a1, a2, b3, a4⟩, rfl, bounds_u16 w0, bounds_u16 w1, bounds_u8 w2, bounds_u16 w4⟩
end Go.Proofs.YtdgeghlilkbboaaGreatDoor
