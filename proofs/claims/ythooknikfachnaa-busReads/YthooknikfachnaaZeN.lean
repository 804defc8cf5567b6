/-
  Joined texts.
-/
import Derived.Test.YthooknikfachnaaZeC
import Derived.Test.YthooknikfachnaaZeA
import Derived.Test.YthooknikfachnaaBusE
import Derived.Test.YthooknikfachnaaBusWe
import Derived.Test.YthooknikfachnaaTonD
import Derived.SizedLaws
namespace Go.Proofs.Ythooknikfachnaa
open Go.ChangeShapes Go.WideShapes Go.ChangeAt Go.RowKit
set_option linter.unusedVariables false
set_option maxRecDepth 100000

def newM (l1 l2 : List UInt8) : Mach := { zeroM with mrom := l1, arom := l2, ram := List.replicate 128 0, own := List.replicate 64 0, video := List.replicate 256 0, held := true }
theorem zero_ok : C.Cpu.zero.ok := ⟨rfl, fun x hx => by simp [C.Cpu.zero] at hx; omega, by decide, by decide⟩
theorem z8 : 0 ≤ (0 : Int) ∧ (0 : Int) ≤ 255 := by decide
theorem z16 : 0 ≤ (0 : Int) ∧ (0 : Int) ≤ 65535 := by decide
theorem zok : zeroM.ok := ⟨zero_ok, zero_ok, ⟨z8, z8⟩, ⟨z8, z8⟩, z16, z16, ⟨⟨z16, z16, z8, z16⟩, ⟨z16, z16, z8, z16⟩, ⟨z16, z16, z8, z16⟩⟩, z16, z16, z8, z8⟩
theorem newM_fit (l1 l2 : List UInt8) (h1 : l1.length ≤ 1024) (h2 : l2.length ≤ 1024) : (newM l1 l2).fit :=
  ⟨⟨zero_ok, zero_ok, ⟨z8, z8⟩, ⟨z8, z8⟩, z16, z16, zok.s, z16, z16, z8, z8⟩, h1, h2, by simp [newM], by simp [newM], by simp [newM], (by decide : 0 ≤ (0 : Int) ∧ (0 : Int) ≤ 15), ⟨(by decide : 0 ≤ (0 : Int)), (by decide : (0 : Int) ≤ 9), (by decide : 0 ≤ (0 : Int)), (by decide : (0 : Int) ≤ 63), (by decide : 0 ≤ (0 : Int)), (by decide : (0 : Int) ≤ 20000)⟩, (by decide : 0 ≤ (0 : Int) ∧ (0 : Int) ≤ 200000), (by decide : 0 ≤ (0 : Int) ∧ (0 : Int) ≤ 0 + 20000), (by decide : 0 ≤ (0 : Int) ∧ (0 : Int) ≤ 0 + 20000)⟩
theorem run_new (a1 a2 : Option Addr) (n1 c1 n2 c2 b1 b2 b3 : Nat) (l1 l2 : List UInt8) (w : World) : (Instr.build 41 #[(2, .slice a1 n1 c1), (3, .slice a2 n2 c2), (4, .slice (some ⟨b1, 0, none⟩) 128 128), (5, .slice (some ⟨b2, 0, none⟩) 64 64), (6, .slice (some ⟨b3, 0, none⟩) 256 256), (14, .bool true)]).run Try.prog w =
    .ok (.agg (machL (newM l1 l2) ⟨.slice a1 n1 c1, .slice a2 n2 c2, .slice (some ⟨b1, 0, none⟩) 128 128, .slice (some ⟨b2, 0, none⟩) 64 64, .slice (some ⟨b3, 0, none⟩) 256 256⟩).toArray) w := by kernel_rfl
theorem exec_build6 {P : Program} {a : Act} {o : Oper} {w : World} (t : TypeId) (i0 i1 i2 i3 i4 i5 : Nat) (x0 x1 x2 x3 x4 x5 : Operand) (ho : o.op = .build t #[(i0, x0), (i1, x1), (i2, x2), (i3, x3), (i4, x4), (i5, x5)]) (v0 v1 v2 v3 v4 v5 v : Value) (h0 : a.eval x0 = v0) (h1 : a.eval x1 = v1) (h2 : a.eval x2 = v2) (h3 : a.eval x3 = v3) (h4 : a.eval x4 = v4) (h5 : a.eval x5 = v5)
    (hrun : (Instr.build t #[(i0, v0), (i1, v1), (i2, v2), (i3, v3), (i4, v4), (i5, v5)]).run P w = .ok v w) : (execOp a.eval o).run P w = .ok (.value v) w :=
  exec_build t _ ho v (by simp only [List.map_toArray, List.map_cons, List.map_nil, h0, h1, h2, h3, h4, h5]; exact hrun)
/-- Bytes that are all zero lie in a new block. -/
theorem zeros_at {W : World} {n b : Nat} (h : Bx W b (List.replicate n (.int .u8 0))) (hn : 0 < n) : sliceAt W (.slice (some ⟨b, 0, none⟩) n n) (List.replicate n 0) := by
  refine Or.inr ⟨b, 0, n, by simp, by simp, h.z, fun j c hj => ?_⟩
  rw [Nat.zero_add]
  refine h.at j _ ?_
  have hl := (List.getElem?_eq_some_iff.1 hj).1
  simp only [List.length_replicate] at hl
  rw [List.getElem?_replicate, if_pos hl] at hj ⊢
  cases hj
  rfl
/-- The box of a result, and a board that was opened behind it. -/
structure NB (w : World) (F : Fx) (M : Mach) (tk : Tk) (L : List Value) (Y : World) : Prop where
  bd : Bd F Y M tk
  low : Below w.heap.size w Y
  res : Bx Y w.heap.size L
  B : w.heap.size < F.B
  r : F.B ≤ F.mr ∧ F.B ≤ F.ar
theorem NB.go {w Y Y' : World} {F : Fx} {M M' : Mach} {tk tk' : Tk} {L : List Value} (h : NB w F M tk L Y) (hB : Bd F Y' M' tk') (ht : Bt F Y Y') : NB w F M' tk' L Y' := by
  have hb := h.B
  exact ⟨hB, h.low.trans ((Mv.below ht).mono (by omega)), h.res.under (Mv.below ht) hb, hb, h.r⟩
theorem NB.kept {w Y Y' : World} {F : Fx} {M : Mach} {tk : Tk} {L : List Value} (h : NB w F M tk L Y) (hb : Below Y.heap.size Y Y') : NB w F M tk L Y' := h.go (h.bd.kept hb) (Mv.of_below h.bd.big hb)
theorem NB.fin {w Y : World} {F : Fx} {M : Mach} {tk : Tk} {L L' : List Value} (h : NB w F M tk L Y) (hl : L'.length = L.length) : Below w.heap.size w (Y.setCells w.heap.size 0 L') ∧ Bx (Y.setCells w.heap.size 0 L') w.heap.size L' ∧ SlAt (Y.setCells w.heap.size 0 L') F.S M := by
  have hx := h.res.puts 0 L' (by omega)
  rw [putL_whole _ _ hl] at hx
  have lo := h.bd.nd.lo
  have hB := h.B
  have hr := h.r
  refine ⟨Bl.puts h.low (by omega) _, hx, fun j hj => ?_⟩
  rcases five hj with rfl | rfl | rfl | rfl | rfl
  · exact (h.bd.mr.offB (by omega) _ _).slice
  · exact (h.bd.ar.offB (by omega) _ _).slice
  · exact (h.bd.ra.offB (by omega) _ _).slice
  · exact (h.bd.ow.offB (by omega) _ _).slice
  · exact (h.bd.vi.offB (by omega) _ _).slice
/-- Three memories of zeros were made. -/
structure NF (w : World) (l1 l2 : List UInt8) (S : Sl) (Y : World) : Prop where
  low : Below w.heap.size w Y
  res : Bx Y w.heap.size (machL zeroM nilS)
  sl : SlAt Y S (newM l1 l2)
theorem NF.of {w Y : World} {l1 l2 : List UInt8} {a1 a2 : Option Addr} {c1 c2 b1 b2 b3 : Nat} (H1 : sliceAt w (.slice a1 l1.length c1) l1) (H2 : sliceAt w (.slice a2 l2.length c2) l2) (hl : Below w.heap.size w Y) (hr : Bx Y w.heap.size (machL zeroM nilS))
    (x1 : Bx Y b1 (List.replicate 128 (.int .u8 0))) (x2 : Bx Y b2 (List.replicate 64 (.int .u8 0))) (x3 : Bx Y b3 (List.replicate 256 (.int .u8 0))) : NF w l1 l2 ⟨.slice a1 l1.length c1, .slice a2 l2.length c2, .slice (some ⟨b1, 0, none⟩) 128 128, .slice (some ⟨b2, 0, none⟩) 64 64, .slice (some ⟨b3, 0, none⟩) 256 256⟩ Y :=
  ⟨hl, hr, fun j hj => by
    rcases five hj with rfl | rfl | rfl | rfl | rfl
    · exact H1.kept hl
    · exact H2.kept hl
    · exact zeros_at x1 (by omega)
    · exact zeros_at x2 (by omega)
    · exact zeros_at x3 (by omega)⟩
theorem mk1280 (w : World) : (Instr.makeSlice 22 (.int .i64 128) (.int .i64 128)).run Try.prog w = .ok (.slice (some ⟨w.heap.size, 0, none⟩) 128 128) (w.alloc (.cells (List.replicate 128 (.int .u8 0)).toArray 5)) := by kernel_rfl
theorem mk128 (w : World) (k : Nat) (h : w.heap.size = k) : (Instr.makeSlice 22 (.int .i64 128) (.int .i64 128)).run Try.prog w = .ok (.slice (some ⟨k, 0, none⟩) 128 128) (w.alloc (.cells (List.replicate 128 (.int .u8 0)).toArray 5)) := by subst h; exact mk1280 w
theorem mk640 (w : World) : (Instr.makeSlice 22 (.int .i64 64) (.int .i64 64)).run Try.prog w = .ok (.slice (some ⟨w.heap.size, 0, none⟩) 64 64) (w.alloc (.cells (List.replicate 64 (.int .u8 0)).toArray 5)) := by kernel_rfl
theorem mk64 (w : World) (k : Nat) (h : w.heap.size = k) : (Instr.makeSlice 22 (.int .i64 64) (.int .i64 64)).run Try.prog w = .ok (.slice (some ⟨k, 0, none⟩) 64 64) (w.alloc (.cells (List.replicate 64 (.int .u8 0)).toArray 5)) := by subst h; exact mk640 w
theorem mkV0 (w : World) : (Instr.makeSlice 22 (.int .i64 256) (.int .i64 256)).run Try.prog w = .ok (.slice (some ⟨w.heap.size, 0, none⟩) 256 256) (w.alloc (.cells (List.replicate 256 (.int .u8 0)).toArray 5)) := by kernel_rfl
theorem mkV (w : World) (k : Nat) (h : w.heap.size = k) : (Instr.makeSlice 22 (.int .i64 256) (.int .i64 256)).run Try.prog w = .ok (.slice (some ⟨k, 0, none⟩) 256 256) (w.alloc (.cells (List.replicate 256 (.int .u8 0)).toArray 5)) := by subst h; exact mkV0 w
theorem step_make {P : Program} {ops : Array Oper} {op : Oper} {a : Act} {w w' : World} {K : Act → World → Prop} {Q : Exit → Act → World → Prop} {E : Prop} (hgd : op.guard = none) (t : TypeId) (l c : Operand) (ho : op.op = .makeSlice t l c) (lv cv v : Value) (hl : a.eval l = lv) (hc : a.eval c = cv)
    (hrun : (Instr.makeSlice t lv cv).run P w = .ok v w') (h : K (a.put op.dst v) w') : if Region.wanted op (yielded ops a.tmps) = true then Oper.wp P op a w K Q else E := by
  rw [if_pos (by simp [Region.wanted, hgd])]
  unfold Oper.wp execOp
  simp only [ho, hl, hc, Sem.run_bind, hrun, Result.andThen_ok, Sem.run_pure]
  exact h
theorem consH_make {P : Program} {md : Region.Mode} {ops : Array Oper} {Q : Exit → Act → World → Prop} {S : World → Prop} {fuel : Nat} {listed : Array Bool} {a : Act} {w w' : World} {i : Nat} {rs : List Nat} {op : Oper} (hi : ops[i]? = some op) (hgd : op.guard = none) (t : TypeId) (l c : Operand) (ho : op.op = .makeSlice t l c) (lv cv v : Value) (hl : a.eval l = lv) (hc : a.eval c = cv)
    (hrun : (Instr.makeSlice t lv cv).run P w = .ok v w') (hS : S w') (h : wpAnyH P md ops Q S fuel (listed.setIfInBounds i true) (a.put op.dst v) w') (hs : AllReadyH P md ops Q S fuel listed a w rs) : AllReadyH P md ops Q S fuel listed a w (i :: rs) :=
  AllReadyH.cons hi (fun K hK => step_make hgd t l c ho lv cv v hl hc hrun (hK.out _ _ hS (fun _ => h))) hs
theorem cutH {P : Program} {md : Region.Mode} {ops : Array Oper} {Q : Exit → Act → World → Prop} {S : World → Prop} {fuel : Nat} {listed : Array Bool} {a : Act} {w : World} (K : World → Prop) (h : K w) (k : ∀ w', K w' → wpAnyH P md ops Q S fuel listed a w') : wpAnyH P md ops Q S fuel listed a w := k w h
def newD (l1 l2 : List UInt8) : Mach := { newM l1 l2 with main := beginC ((newM l1 l2).lookM 0) ((newM l1 l2).lookM 1) }
theorem new_put {w Y : World} {F : Fx} {l1 l2 : List UInt8} {L : List Value} (h : NB w F (newM l1 l2) Tk.zero L Y) : NB w F (newD l1 l2) Tk.zero L (Y.setCells F.g 0 (begL ((newM l1 l2).lookM 0 * 256 + (newM l1 l2).lookM 1))) := by
  have hok := beg_ok _ _ (lookM_bd (newM l1 l2) 0) (lookM_bd (newM l1 l2) 1)
  have hf : (newD l1 l2).fit := Mach.fit.of h.bd.fit { h.bd.fit with main := hok } ⟨rfl, rfl, rfl, rfl, rfl⟩ rfl ⟨rfl, rfl, rfl⟩ ⟨rfl, rfl⟩ (Or.inl rfl)
  rw [begL_eq]
  exact h.go (h.bd.puts (M' := newD l1 l2) (tk' := Tk.zero) 0 (cpuL (beginC ((newM l1 l2).lookM 0) ((newM l1 l2).lookM 1))) (by simp [cpuL]) (F.putMain _ _ _) ⟨rfl, rfl, rfl, rfl, rfl⟩ hf) (Bt.sets h.bd.nd _ 0 _ (Bt.refl _ _))
set_option maxHeartbeats 3200000 in
theorem Bu.new_ok (l1 l2 : List UInt8) (v1 v2 : Value) (w : World) (h1 : sliceAt w v1 l1) (h2 : sliceAt w v2 l2) (hl1 : l1.length ≤ 1024) (hl2 : l2.length ≤ 1024) :
    Calls Try.prog 8 #[v1, v2] w fun e w' => ∃ S', e = .returned (.tuple #[.agg (machL (newD l1 l2) S').toArray, .int .i64 0]) ∧ SlAt w' S' (newD l1 l2) ∧ (newD l1 l2).fit ∧ SlNew (w.heap.size + 1) S' ∧ Below w.heap.size w w' := by
  obtain ⟨a1, c1, e1⟩ := slice_len h1
  obtain ⟨a2, c2, e2⟩ := slice_len h2
  subst e1 e2
  have H1 := hid h1
  have H2 := hid h2
  have HR := hid (Bx.new w (machL zeroM nilS) 41 (b := w.heap.size) rfl)
  clear h1 h2
  go_enter Try.func8, Try.ntmps8
  go_wp2
  refine wp_region_held_drew (S := fun _ => True) (by kernel_rfl) trivial ?_
  intro _
  refine wpAnyH_take (i := 0) (oi := { dst := some 9, op := _, type := _, pos := _, after := _, guard := none }) (v := ?_) rfl (by kernel_rfl) (by kernel_rfl) (by kernel_rfl) (fun _ _ _ h => h) (Or.inl ⟨by rfl, ?_⟩) trivial ?_
  rotate_left 1
  focus (intro w hSw; (try dsimp only at hSw); go_simp; try (with_reducible rfl))
  simp only [Act.put, List.setIfInBounds_toArray, List.set_cons_zero, List.set_cons_succ]
  refine wpAnyH_take (i := 1) (oi := { dst := some 10, op := _, type := _, pos := _, after := _, guard := none }) (v := ?_) rfl (by kernel_rfl) (by kernel_rfl) (by kernel_rfl) (fun _ _ _ h => h) (Or.inl ⟨by rfl, ?_⟩) trivial ?_
  rotate_left 1
  focus (intro w hSw; (try dsimp only at hSw); go_simp; try (with_reducible rfl))
  simp only [Act.put, List.setIfInBounds_toArray, List.set_cons_zero, List.set_cons_succ]
  refine wpAnyH_ready (rs := [2, 3, 4]) (by kernel_rfl) (by simp) ?_
  refine consH_make (op := { dst := some 11, op := _, type := _, pos := _, after := _, guard := none }) rfl rfl 22 _ _ rfl (.int .i64 128) (.int .i64 128) _ rfl rfl (mk128 _ (w.heap.size + 1) (by simp)) trivial ?_ (consH_make (op := { dst := some 12, op := _, type := _, pos := _, after := _, guard := none }) rfl rfl 22 _ _ rfl (.int .i64 64) (.int .i64 64) _ rfl rfl (mk64 _ (w.heap.size + 1) (by simp)) trivial ?_ (consH_make (op := { dst := some 13, op := _, type := _, pos := _, after := _, guard := none }) rfl rfl 22 _ _ rfl (.int .i64 256) (.int .i64 256) _ rfl rfl (mkV _ (w.heap.size + 1) (by simp)) trivial ?_ AllReadyH.nil))
  all_goals simp only [Act.put, List.setIfInBounds_toArray, List.set_cons_zero, List.set_cons_succ]
  · refine wpAnyH_ready (rs := [3, 4]) (by kernel_rfl) (by simp) ?_
    refine consH_make (op := { dst := some 12, op := _, type := _, pos := _, after := _, guard := none }) rfl rfl 22 _ _ rfl (.int .i64 64) (.int .i64 64) _ rfl rfl (mk64 _ (w.heap.size + 1 + 1) (by simp)) trivial ?_ (consH_make (op := { dst := some 13, op := _, type := _, pos := _, after := _, guard := none }) rfl rfl 22 _ _ rfl (.int .i64 256) (.int .i64 256) _ rfl rfl (mkV _ (w.heap.size + 1 + 1) (by simp)) trivial ?_ AllReadyH.nil)
    all_goals simp only [Act.put, List.setIfInBounds_toArray, List.set_cons_zero, List.set_cons_succ]
    · refine wpAnyH_ready (rs := [4]) (by kernel_rfl) (by simp) ?_
      refine consH_make (op := { dst := some 13, op := _, type := _, pos := _, after := _, guard := none }) rfl rfl 22 _ _ rfl (.int .i64 256) (.int .i64 256) _ rfl rfl (mkV _ (w.heap.size + 1 + 1 + 1) (by simp)) trivial ?_ AllReadyH.nil
      simp only [Act.put, List.setIfInBounds_toArray, List.set_cons_zero, List.set_cons_succ]
      refine cutH (NF w l1 l2 ⟨.slice a1 l1.length c1, .slice a2 l2.length c2, .slice (some ⟨_, 0, none⟩) 128 128, .slice (some ⟨_, 0, none⟩) 64 64, .slice (some ⟨_, 0, none⟩) 256 256⟩) (NF.of (b1 := w.heap.size + 1) (b2 := w.heap.size + 1 + 1) (b3 := w.heap.size + 1 + 1 + 1) H1.out H2.out ?_ ?_ ?_ ?_ ?_) ?_
      · repeat' (first | exact st0 _ | refine Below.drew ?_ | refine stA ?_ _)
      · repeat' (first | exact HR.out | refine Bx.drew ?_ | refine Bx.over ?_ _)
      · repeat' (first | exact Bx.new _ (List.replicate 128 (.int .u8 0)) _ (by simp) | refine Bx.drew ?_ | refine Bx.over ?_ _)
      · repeat' (first | exact Bx.new _ (List.replicate 64 (.int .u8 0)) _ (by simp) | refine Bx.drew ?_ | refine Bx.over ?_ _)
      · repeat' (first | exact Bx.new _ (List.replicate 256 (.int .u8 0)) _ (by simp) | refine Bx.drew ?_ | refine Bx.over ?_ _)
      intro Y hY
      have HY := hid hY
      clear hY
      refine wpAnyH_take (i := 5) (oi := { dst := some 14, op := _, type := _, pos := _, after := _, guard := none }) (v := .agg (machL (newM l1 l2) ⟨.slice a1 l1.length c1, .slice a2 l2.length c2, .slice (some ⟨w.heap.size + 1, 0, none⟩) 128 128, .slice (some ⟨w.heap.size + 1 + 1, 0, none⟩) 64 64, .slice (some ⟨w.heap.size + 1 + 1 + 1, 0, none⟩) 256 256⟩).toArray) rfl (by kernel_rfl) (by kernel_rfl) (by kernel_rfl) (fun _ _ _ h => h) (Or.inl ⟨by rfl, fun w' _ => exec_build6 41 2 3 4 5 6 14 _ _ _ _ _ _ rfl _ _ _ _ _ _ _ rfl rfl rfl rfl rfl rfl (run_new a1 a2 l1.length c1 l2.length c2 (w.heap.size + 1) (w.heap.size + 1 + 1) (w.heap.size + 1 + 1 + 1) l1 l2 w')⟩) trivial ?_
      simp only [Act.put, List.setIfInBounds_toArray, List.set_cons_zero, List.set_cons_succ]
      refine wpAnyH_ready (rs := [6]) (by kernel_rfl) (by simp) ?_
      refine AllReadyH.cons (o := { dst := some 15, op := _, type := _, pos := _, after := _, guard := none }) rfl (fun K hK => ?_) AllReadyH.nil
      go_simp
      go_at_call 21
      refine (Bu.open_ok (newM l1 l2) _ _ HY.out.sl.lens HY.out.sl (newM_fit l1 l2 hl1 hl2)).mono ?_
      rintro e w1 ⟨F, hFB, rfl, hr, hB1, hb1⟩
      have HN := hid (NB.mk hB1 (stp HY.out.low hb1) (HY.out.res.kept hb1) (by rw [hFB]; exact HY.out.res.z) hr)
      clear hB1 hb1 hFB hr
      try go_wp2_with fail
      refine hK.out _ _ trivial (fun _ => ?_)
      clear hK K HY
      try simp only [Act.put, List.setIfInBounds_toArray, List.set_cons_zero, List.set_cons_succ]
      refine wpAnyH_take (i := 7) (oi := { dst := some 8, op := _, type := _, pos := _, after := _, guard := none }) (v := ?_) rfl (by kernel_rfl) (by kernel_rfl) (by kernel_rfl) (fun _ _ _ h => h) (Or.inl ⟨by rfl, ?_⟩) trivial ?_
      rotate_left 1
      focus (intro w hSw; (try dsimp only at hSw); go_simp; try (with_reducible rfl))
      simp only [Act.put, List.setIfInBounds_toArray, List.set_cons_zero, List.set_cons_succ]
      refine wpAnyH_take (i := 8) (oi := { dst := some 16, op := _, type := _, pos := _, after := _, guard := none }) (v := ?_) rfl (by kernel_rfl) (by kernel_rfl) (by kernel_rfl) (fun _ _ _ h => h) (Or.inl ⟨by rfl, ?_⟩) trivial ?_
      rotate_left 1
      focus (intro w hSw; (try dsimp only at hSw); go_simp; try (with_reducible rfl))
      simp only [Act.put, List.setIfInBounds_toArray, List.set_cons_zero, List.set_cons_succ]
      refine wpAnyH_take (i := 9) (oi := { dst := some 17, op := _, type := _, pos := _, after := _, guard := none }) (v := ?_) rfl (by kernel_rfl) (by kernel_rfl) (by kernel_rfl) (fun _ _ _ h => h) (Or.inl ⟨by rfl, ?_⟩) trivial ?_
      rotate_left 1
      focus (intro w hSw; (try dsimp only at hSw); go_simp; try (with_reducible rfl))
      simp only [Act.put, List.setIfInBounds_toArray, List.set_cons_zero, List.set_cons_succ]
      refine wpAnyH_take (i := 10) (oi := { dst := some 6, op := _, type := _, pos := _, after := _, guard := none }) (v := ?_) rfl (by kernel_rfl) (by kernel_rfl) (by kernel_rfl) (fun _ _ _ h => h) (Or.inl ⟨by rfl, ?_⟩) trivial ?_
      rotate_left 1
      focus (intro w hSw; (try dsimp only at hSw); go_simp; try (with_reducible rfl))
      simp only [Act.put, List.setIfInBounds_toArray, List.set_cons_zero, List.set_cons_succ]
      refine wpAnyH_take (i := 11) (oi := { dst := some 7, op := _, type := _, pos := _, after := _, guard := none }) (v := ?_) rfl (by kernel_rfl) (by kernel_rfl) (by kernel_rfl) (fun _ _ _ h => h) (Or.inl ⟨by rfl, ?_⟩) trivial ?_
      rotate_left 1
      focus (intro w hSw; (try dsimp only at hSw); go_simp; try (with_reducible rfl))
      simp only [Act.put, List.setIfInBounds_toArray, List.set_cons_zero, List.set_cons_succ]
      refine wpAnyH_done (by kernel_rfl) ?_ _
      refine Pl.cutE (NB w F (newM l1 l2) Tk.zero (machL zeroM nilS)) HN.out ?_
      intro X hX
      have HX := hid hX
      clear hX HN
      go_wp2_with (first
        | (go_at_call 23; refine (Bu.main_any F.g _).mono ?_; rintro e w2 ⟨rfl, hb2⟩; have HX2 := hid (HX.out.kept hb2); clear hb2)
        | (go_at_call 22; refine (Bu.begin_any HX2.out.bd 77 _ _ (Bu.reads_M 0 (by omega)) (Bu.reads_M 1 (by omega)) (lookM_bd _ _) (lookM_bd _ _)).mono ?_; rintro e w3 ⟨rfl, hB3, hT3⟩; have HX3 := hid (HX2.out.go hB3 hT3); clear hB3 hT3)
        | (refine wpList_store_mid rfl 26 _ _ rfl F.g 0 (begL ((newM l1 l2).lookM 0 * 256 + (newM l1 l2).lookM 1)).toArray rfl rfl (Bx.there HX3.out.bd.bx 0 15 (by rw [Fx.len]; omega)) info_cpu (beg_one _) ?_
           refine Pl.cutL (NB w F (newD l1 l2) Tk.zero (machL zeroM nilS)) (new_put HX3.out) ?_
           intro Z hZ
           have HZ := hid hZ
           clear hZ)
        | (refine wpList_load_mid rfl 41 _ rfl F.g 0 rfl (machL (newD l1 l2) F.S) _ HZ.out.bd.row Try.underlying41 rfl info_mach ?_)
        | (refine wpList_store_mid rfl 41 _ _ rfl w.heap.size 0 (machL (newD l1 l2) F.S).toArray rfl rfl (HZ.out.res.there 0 75 (by rw [machL_len]; omega)) info_mach (machL_one _ _ HZ.out.bd.isSl) ?_
           refine Pl.cutL (fun V => Below w.heap.size w V ∧ Bx V w.heap.size (machL (newD l1 l2) F.S) ∧ SlAt V F.S (newD l1 l2)) (HZ.out.fin rfl) ?_
           rintro V ⟨hV1, hV2, hV3⟩
           have HV1 := hid hV1
           have HV2 := hid hV2
           have HV3 := hid hV3
           clear hV1 hV2 hV3))
      have hl := load_mach _ _ HV2.out.c
      refine bodyPost_ret (v := .tuple #[.agg (machL (newD l1 l2) F.S).toArray, .int .i64 0]) ?_ rfl ⟨F.S, rfl, HV3.out, HZ.out.bd.fit, (HZ.out.bd.slNew HZ.out.r).mono HZ.out.B, HV1.out⟩
      simp only [results, Try.results8]
      simp
      show (Result.andThen (Sem.run Try.prog (loadVar 41 ⟨w.heap.size, 0, none⟩) V) _) = _
      rw [hl]
      rfl
    · refine wpAnyH_ready (rs := [3]) (by kernel_rfl) (by simp) ?_
      refine consH_make (op := { dst := some 12, op := _, type := _, pos := _, after := _, guard := none }) rfl rfl 22 _ _ rfl (.int .i64 64) (.int .i64 64) _ rfl rfl (mk64 _ (w.heap.size + 1 + 1 + 1) (by simp)) trivial ?_ AllReadyH.nil
      simp only [Act.put, List.setIfInBounds_toArray, List.set_cons_zero, List.set_cons_succ]
      refine cutH (NF w l1 l2 ⟨.slice a1 l1.length c1, .slice a2 l2.length c2, .slice (some ⟨_, 0, none⟩) 128 128, .slice (some ⟨_, 0, none⟩) 64 64, .slice (some ⟨_, 0, none⟩) 256 256⟩) (NF.of (b1 := w.heap.size + 1) (b2 := w.heap.size + 1 + 1 + 1) (b3 := w.heap.size + 1 + 1) H1.out H2.out ?_ ?_ ?_ ?_ ?_) ?_
      · repeat' (first | exact st0 _ | refine Below.drew ?_ | refine stA ?_ _)
      · repeat' (first | exact HR.out | refine Bx.drew ?_ | refine Bx.over ?_ _)
      · repeat' (first | exact Bx.new _ (List.replicate 128 (.int .u8 0)) _ (by simp) | refine Bx.drew ?_ | refine Bx.over ?_ _)
      · repeat' (first | exact Bx.new _ (List.replicate 64 (.int .u8 0)) _ (by simp) | refine Bx.drew ?_ | refine Bx.over ?_ _)
      · repeat' (first | exact Bx.new _ (List.replicate 256 (.int .u8 0)) _ (by simp) | refine Bx.drew ?_ | refine Bx.over ?_ _)
      intro Y hY
      have HY := hid hY
      clear hY
      refine wpAnyH_take (i := 5) (oi := { dst := some 14, op := _, type := _, pos := _, after := _, guard := none }) (v := .agg (machL (newM l1 l2) ⟨.slice a1 l1.length c1, .slice a2 l2.length c2, .slice (some ⟨w.heap.size + 1, 0, none⟩) 128 128, .slice (some ⟨w.heap.size + 1 + 1 + 1, 0, none⟩) 64 64, .slice (some ⟨w.heap.size + 1 + 1, 0, none⟩) 256 256⟩).toArray) rfl (by kernel_rfl) (by kernel_rfl) (by kernel_rfl) (fun _ _ _ h => h) (Or.inl ⟨by rfl, fun w' _ => exec_build6 41 2 3 4 5 6 14 _ _ _ _ _ _ rfl _ _ _ _ _ _ _ rfl rfl rfl rfl rfl rfl (run_new a1 a2 l1.length c1 l2.length c2 (w.heap.size + 1) (w.heap.size + 1 + 1 + 1) (w.heap.size + 1 + 1) l1 l2 w')⟩) trivial ?_
      simp only [Act.put, List.setIfInBounds_toArray, List.set_cons_zero, List.set_cons_succ]
      refine wpAnyH_ready (rs := [6]) (by kernel_rfl) (by simp) ?_
      refine AllReadyH.cons (o := { dst := some 15, op := _, type := _, pos := _, after := _, guard := none }) rfl (fun K hK => ?_) AllReadyH.nil
      go_simp
      go_at_call 21
      refine (Bu.open_ok (newM l1 l2) _ _ HY.out.sl.lens HY.out.sl (newM_fit l1 l2 hl1 hl2)).mono ?_
      rintro e w1 ⟨F, hFB, rfl, hr, hB1, hb1⟩
      have HN := hid (NB.mk hB1 (stp HY.out.low hb1) (HY.out.res.kept hb1) (by rw [hFB]; exact HY.out.res.z) hr)
      clear hB1 hb1 hFB hr
      try go_wp2_with fail
      refine hK.out _ _ trivial (fun _ => ?_)
      clear hK K HY
      try simp only [Act.put, List.setIfInBounds_toArray, List.set_cons_zero, List.set_cons_succ]
      refine wpAnyH_take (i := 7) (oi := { dst := some 8, op := _, type := _, pos := _, after := _, guard := none }) (v := ?_) rfl (by kernel_rfl) (by kernel_rfl) (by kernel_rfl) (fun _ _ _ h => h) (Or.inl ⟨by rfl, ?_⟩) trivial ?_
      rotate_left 1
      focus (intro w hSw; (try dsimp only at hSw); go_simp; try (with_reducible rfl))
      simp only [Act.put, List.setIfInBounds_toArray, List.set_cons_zero, List.set_cons_succ]
      refine wpAnyH_take (i := 8) (oi := { dst := some 16, op := _, type := _, pos := _, after := _, guard := none }) (v := ?_) rfl (by kernel_rfl) (by kernel_rfl) (by kernel_rfl) (fun _ _ _ h => h) (Or.inl ⟨by rfl, ?_⟩) trivial ?_
      rotate_left 1
      focus (intro w hSw; (try dsimp only at hSw); go_simp; try (with_reducible rfl))
      simp only [Act.put, List.setIfInBounds_toArray, List.set_cons_zero, List.set_cons_succ]
      refine wpAnyH_take (i := 9) (oi := { dst := some 17, op := _, type := _, pos := _, after := _, guard := none }) (v := ?_) rfl (by kernel_rfl) (by kernel_rfl) (by kernel_rfl) (fun _ _ _ h => h) (Or.inl ⟨by rfl, ?_⟩) trivial ?_
      rotate_left 1
      focus (intro w hSw; (try dsimp only at hSw); go_simp; try (with_reducible rfl))
      simp only [Act.put, List.setIfInBounds_toArray, List.set_cons_zero, List.set_cons_succ]
      refine wpAnyH_take (i := 10) (oi := { dst := some 6, op := _, type := _, pos := _, after := _, guard := none }) (v := ?_) rfl (by kernel_rfl) (by kernel_rfl) (by kernel_rfl) (fun _ _ _ h => h) (Or.inl ⟨by rfl, ?_⟩) trivial ?_
      rotate_left 1
      focus (intro w hSw; (try dsimp only at hSw); go_simp; try (with_reducible rfl))
      simp only [Act.put, List.setIfInBounds_toArray, List.set_cons_zero, List.set_cons_succ]
      refine wpAnyH_take (i := 11) (oi := { dst := some 7, op := _, type := _, pos := _, after := _, guard := none }) (v := ?_) rfl (by kernel_rfl) (by kernel_rfl) (by kernel_rfl) (fun _ _ _ h => h) (Or.inl ⟨by rfl, ?_⟩) trivial ?_
      rotate_left 1
      focus (intro w hSw; (try dsimp only at hSw); go_simp; try (with_reducible rfl))
      simp only [Act.put, List.setIfInBounds_toArray, List.set_cons_zero, List.set_cons_succ]
      refine wpAnyH_done (by kernel_rfl) ?_ _
      refine Pl.cutE (NB w F (newM l1 l2) Tk.zero (machL zeroM nilS)) HN.out ?_
      intro X hX
      have HX := hid hX
      clear hX HN
      go_wp2_with (first
        | (go_at_call 23; refine (Bu.main_any F.g _).mono ?_; rintro e w2 ⟨rfl, hb2⟩; have HX2 := hid (HX.out.kept hb2); clear hb2)
        | (go_at_call 22; refine (Bu.begin_any HX2.out.bd 77 _ _ (Bu.reads_M 0 (by omega)) (Bu.reads_M 1 (by omega)) (lookM_bd _ _) (lookM_bd _ _)).mono ?_; rintro e w3 ⟨rfl, hB3, hT3⟩; have HX3 := hid (HX2.out.go hB3 hT3); clear hB3 hT3)
        | (refine wpList_store_mid rfl 26 _ _ rfl F.g 0 (begL ((newM l1 l2).lookM 0 * 256 + (newM l1 l2).lookM 1)).toArray rfl rfl (Bx.there HX3.out.bd.bx 0 15 (by rw [Fx.len]; omega)) info_cpu (beg_one _) ?_
           refine Pl.cutL (NB w F (newD l1 l2) Tk.zero (machL zeroM nilS)) (new_put HX3.out) ?_
           intro Z hZ
           have HZ := hid hZ
           clear hZ)
        | (refine wpList_load_mid rfl 41 _ rfl F.g 0 rfl (machL (newD l1 l2) F.S) _ HZ.out.bd.row Try.underlying41 rfl info_mach ?_)
        | (refine wpList_store_mid rfl 41 _ _ rfl w.heap.size 0 (machL (newD l1 l2) F.S).toArray rfl rfl (HZ.out.res.there 0 75 (by rw [machL_len]; omega)) info_mach (machL_one _ _ HZ.out.bd.isSl) ?_
           refine Pl.cutL (fun V => Below w.heap.size w V ∧ Bx V w.heap.size (machL (newD l1 l2) F.S) ∧ SlAt V F.S (newD l1 l2)) (HZ.out.fin rfl) ?_
           rintro V ⟨hV1, hV2, hV3⟩
           have HV1 := hid hV1
           have HV2 := hid hV2
           have HV3 := hid hV3
           clear hV1 hV2 hV3))
      have hl := load_mach _ _ HV2.out.c
      refine bodyPost_ret (v := .tuple #[.agg (machL (newD l1 l2) F.S).toArray, .int .i64 0]) ?_ rfl ⟨F.S, rfl, HV3.out, HZ.out.bd.fit, (HZ.out.bd.slNew HZ.out.r).mono HZ.out.B, HV1.out⟩
      simp only [results, Try.results8]
      simp
      show (Result.andThen (Sem.run Try.prog (loadVar 41 ⟨w.heap.size, 0, none⟩) V) _) = _
      rw [hl]
      rfl
  · refine wpAnyH_ready (rs := [2, 4]) (by kernel_rfl) (by simp) ?_
    refine consH_make (op := { dst := some 11, op := _, type := _, pos := _, after := _, guard := none }) rfl rfl 22 _ _ rfl (.int .i64 128) (.int .i64 128) _ rfl rfl (mk128 _ (w.heap.size + 1 + 1) (by simp)) trivial ?_ (consH_make (op := { dst := some 13, op := _, type := _, pos := _, after := _, guard := none }) rfl rfl 22 _ _ rfl (.int .i64 256) (.int .i64 256) _ rfl rfl (mkV _ (w.heap.size + 1 + 1) (by simp)) trivial ?_ AllReadyH.nil)
    all_goals simp only [Act.put, List.setIfInBounds_toArray, List.set_cons_zero, List.set_cons_succ]
    · refine wpAnyH_ready (rs := [4]) (by kernel_rfl) (by simp) ?_
      refine consH_make (op := { dst := some 13, op := _, type := _, pos := _, after := _, guard := none }) rfl rfl 22 _ _ rfl (.int .i64 256) (.int .i64 256) _ rfl rfl (mkV _ (w.heap.size + 1 + 1 + 1) (by simp)) trivial ?_ AllReadyH.nil
      simp only [Act.put, List.setIfInBounds_toArray, List.set_cons_zero, List.set_cons_succ]
      refine cutH (NF w l1 l2 ⟨.slice a1 l1.length c1, .slice a2 l2.length c2, .slice (some ⟨_, 0, none⟩) 128 128, .slice (some ⟨_, 0, none⟩) 64 64, .slice (some ⟨_, 0, none⟩) 256 256⟩) (NF.of (b1 := w.heap.size + 1 + 1) (b2 := w.heap.size + 1) (b3 := w.heap.size + 1 + 1 + 1) H1.out H2.out ?_ ?_ ?_ ?_ ?_) ?_
      · repeat' (first | exact st0 _ | refine Below.drew ?_ | refine stA ?_ _)
      · repeat' (first | exact HR.out | refine Bx.drew ?_ | refine Bx.over ?_ _)
      · repeat' (first | exact Bx.new _ (List.replicate 128 (.int .u8 0)) _ (by simp) | refine Bx.drew ?_ | refine Bx.over ?_ _)
      · repeat' (first | exact Bx.new _ (List.replicate 64 (.int .u8 0)) _ (by simp) | refine Bx.drew ?_ | refine Bx.over ?_ _)
      · repeat' (first | exact Bx.new _ (List.replicate 256 (.int .u8 0)) _ (by simp) | refine Bx.drew ?_ | refine Bx.over ?_ _)
      intro Y hY
      have HY := hid hY
      clear hY
      refine wpAnyH_take (i := 5) (oi := { dst := some 14, op := _, type := _, pos := _, after := _, guard := none }) (v := .agg (machL (newM l1 l2) ⟨.slice a1 l1.length c1, .slice a2 l2.length c2, .slice (some ⟨w.heap.size + 1 + 1, 0, none⟩) 128 128, .slice (some ⟨w.heap.size + 1, 0, none⟩) 64 64, .slice (some ⟨w.heap.size + 1 + 1 + 1, 0, none⟩) 256 256⟩).toArray) rfl (by kernel_rfl) (by kernel_rfl) (by kernel_rfl) (fun _ _ _ h => h) (Or.inl ⟨by rfl, fun w' _ => exec_build6 41 2 3 4 5 6 14 _ _ _ _ _ _ rfl _ _ _ _ _ _ _ rfl rfl rfl rfl rfl rfl (run_new a1 a2 l1.length c1 l2.length c2 (w.heap.size + 1 + 1) (w.heap.size + 1) (w.heap.size + 1 + 1 + 1) l1 l2 w')⟩) trivial ?_
      simp only [Act.put, List.setIfInBounds_toArray, List.set_cons_zero, List.set_cons_succ]
      refine wpAnyH_ready (rs := [6]) (by kernel_rfl) (by simp) ?_
      refine AllReadyH.cons (o := { dst := some 15, op := _, type := _, pos := _, after := _, guard := none }) rfl (fun K hK => ?_) AllReadyH.nil
      go_simp
      go_at_call 21
      refine (Bu.open_ok (newM l1 l2) _ _ HY.out.sl.lens HY.out.sl (newM_fit l1 l2 hl1 hl2)).mono ?_
      rintro e w1 ⟨F, hFB, rfl, hr, hB1, hb1⟩
      have HN := hid (NB.mk hB1 (stp HY.out.low hb1) (HY.out.res.kept hb1) (by rw [hFB]; exact HY.out.res.z) hr)
      clear hB1 hb1 hFB hr
      try go_wp2_with fail
      refine hK.out _ _ trivial (fun _ => ?_)
      clear hK K HY
      try simp only [Act.put, List.setIfInBounds_toArray, List.set_cons_zero, List.set_cons_succ]
      refine wpAnyH_take (i := 7) (oi := { dst := some 8, op := _, type := _, pos := _, after := _, guard := none }) (v := ?_) rfl (by kernel_rfl) (by kernel_rfl) (by kernel_rfl) (fun _ _ _ h => h) (Or.inl ⟨by rfl, ?_⟩) trivial ?_
      rotate_left 1
      focus (intro w hSw; (try dsimp only at hSw); go_simp; try (with_reducible rfl))
      simp only [Act.put, List.setIfInBounds_toArray, List.set_cons_zero, List.set_cons_succ]
      refine wpAnyH_take (i := 8) (oi := { dst := some 16, op := _, type := _, pos := _, after := _, guard := none }) (v := ?_) rfl (by kernel_rfl) (by kernel_rfl) (by kernel_rfl) (fun _ _ _ h => h) (Or.inl ⟨by rfl, ?_⟩) trivial ?_
      rotate_left 1
      focus (intro w hSw; (try dsimp only at hSw); go_simp; try (with_reducible rfl))
      simp only [Act.put, List.setIfInBounds_toArray, List.set_cons_zero, List.set_cons_succ]
      refine wpAnyH_take (i := 9) (oi := { dst := some 17, op := _, type := _, pos := _, after := _, guard := none }) (v := ?_) rfl (by kernel_rfl) (by kernel_rfl) (by kernel_rfl) (fun _ _ _ h => h) (Or.inl ⟨by rfl, ?_⟩) trivial ?_
      rotate_left 1
      focus (intro w hSw; (try dsimp only at hSw); go_simp; try (with_reducible rfl))
      simp only [Act.put, List.setIfInBounds_toArray, List.set_cons_zero, List.set_cons_succ]
      refine wpAnyH_take (i := 10) (oi := { dst := some 6, op := _, type := _, pos := _, after := _, guard := none }) (v := ?_) rfl (by kernel_rfl) (by kernel_rfl) (by kernel_rfl) (fun _ _ _ h => h) (Or.inl ⟨by rfl, ?_⟩) trivial ?_
      rotate_left 1
      focus (intro w hSw; (try dsimp only at hSw); go_simp; try (with_reducible rfl))
      simp only [Act.put, List.setIfInBounds_toArray, List.set_cons_zero, List.set_cons_succ]
      refine wpAnyH_take (i := 11) (oi := { dst := some 7, op := _, type := _, pos := _, after := _, guard := none }) (v := ?_) rfl (by kernel_rfl) (by kernel_rfl) (by kernel_rfl) (fun _ _ _ h => h) (Or.inl ⟨by rfl, ?_⟩) trivial ?_
      rotate_left 1
      focus (intro w hSw; (try dsimp only at hSw); go_simp; try (with_reducible rfl))
      simp only [Act.put, List.setIfInBounds_toArray, List.set_cons_zero, List.set_cons_succ]
      refine wpAnyH_done (by kernel_rfl) ?_ _
      refine Pl.cutE (NB w F (newM l1 l2) Tk.zero (machL zeroM nilS)) HN.out ?_
      intro X hX
      have HX := hid hX
      clear hX HN
      go_wp2_with (first
        | (go_at_call 23; refine (Bu.main_any F.g _).mono ?_; rintro e w2 ⟨rfl, hb2⟩; have HX2 := hid (HX.out.kept hb2); clear hb2)
        | (go_at_call 22; refine (Bu.begin_any HX2.out.bd 77 _ _ (Bu.reads_M 0 (by omega)) (Bu.reads_M 1 (by omega)) (lookM_bd _ _) (lookM_bd _ _)).mono ?_; rintro e w3 ⟨rfl, hB3, hT3⟩; have HX3 := hid (HX2.out.go hB3 hT3); clear hB3 hT3)
        | (refine wpList_store_mid rfl 26 _ _ rfl F.g 0 (begL ((newM l1 l2).lookM 0 * 256 + (newM l1 l2).lookM 1)).toArray rfl rfl (Bx.there HX3.out.bd.bx 0 15 (by rw [Fx.len]; omega)) info_cpu (beg_one _) ?_
           refine Pl.cutL (NB w F (newD l1 l2) Tk.zero (machL zeroM nilS)) (new_put HX3.out) ?_
           intro Z hZ
           have HZ := hid hZ
           clear hZ)
        | (refine wpList_load_mid rfl 41 _ rfl F.g 0 rfl (machL (newD l1 l2) F.S) _ HZ.out.bd.row Try.underlying41 rfl info_mach ?_)
        | (refine wpList_store_mid rfl 41 _ _ rfl w.heap.size 0 (machL (newD l1 l2) F.S).toArray rfl rfl (HZ.out.res.there 0 75 (by rw [machL_len]; omega)) info_mach (machL_one _ _ HZ.out.bd.isSl) ?_
           refine Pl.cutL (fun V => Below w.heap.size w V ∧ Bx V w.heap.size (machL (newD l1 l2) F.S) ∧ SlAt V F.S (newD l1 l2)) (HZ.out.fin rfl) ?_
           rintro V ⟨hV1, hV2, hV3⟩
           have HV1 := hid hV1
           have HV2 := hid hV2
           have HV3 := hid hV3
           clear hV1 hV2 hV3))
      have hl := load_mach _ _ HV2.out.c
      refine bodyPost_ret (v := .tuple #[.agg (machL (newD l1 l2) F.S).toArray, .int .i64 0]) ?_ rfl ⟨F.S, rfl, HV3.out, HZ.out.bd.fit, (HZ.out.bd.slNew HZ.out.r).mono HZ.out.B, HV1.out⟩
      simp only [results, Try.results8]
      simp
      show (Result.andThen (Sem.run Try.prog (loadVar 41 ⟨w.heap.size, 0, none⟩) V) _) = _
      rw [hl]
      rfl
    · refine wpAnyH_ready (rs := [2]) (by kernel_rfl) (by simp) ?_
      refine consH_make (op := { dst := some 11, op := _, type := _, pos := _, after := _, guard := none }) rfl rfl 22 _ _ rfl (.int .i64 128) (.int .i64 128) _ rfl rfl (mk128 _ (w.heap.size + 1 + 1 + 1) (by simp)) trivial ?_ AllReadyH.nil
      simp only [Act.put, List.setIfInBounds_toArray, List.set_cons_zero, List.set_cons_succ]
      refine cutH (NF w l1 l2 ⟨.slice a1 l1.length c1, .slice a2 l2.length c2, .slice (some ⟨_, 0, none⟩) 128 128, .slice (some ⟨_, 0, none⟩) 64 64, .slice (some ⟨_, 0, none⟩) 256 256⟩) (NF.of (b1 := w.heap.size + 1 + 1 + 1) (b2 := w.heap.size + 1) (b3 := w.heap.size + 1 + 1) H1.out H2.out ?_ ?_ ?_ ?_ ?_) ?_
      · repeat' (first | exact st0 _ | refine Below.drew ?_ | refine stA ?_ _)
      · repeat' (first | exact HR.out | refine Bx.drew ?_ | refine Bx.over ?_ _)
      · repeat' (first | exact Bx.new _ (List.replicate 128 (.int .u8 0)) _ (by simp) | refine Bx.drew ?_ | refine Bx.over ?_ _)
      · repeat' (first | exact Bx.new _ (List.replicate 64 (.int .u8 0)) _ (by simp) | refine Bx.drew ?_ | refine Bx.over ?_ _)
      · repeat' (first | exact Bx.new _ (List.replicate 256 (.int .u8 0)) _ (by simp) | refine Bx.drew ?_ | refine Bx.over ?_ _)
      intro Y hY
      have HY := hid hY
      clear hY
      refine wpAnyH_take (i := 5) (oi := { dst := some 14, op := _, type := _, pos := _, after := _, guard := none }) (v := .agg (machL (newM l1 l2) ⟨.slice a1 l1.length c1, .slice a2 l2.length c2, .slice (some ⟨w.heap.size + 1 + 1 + 1, 0, none⟩) 128 128, .slice (some ⟨w.heap.size + 1, 0, none⟩) 64 64, .slice (some ⟨w.heap.size + 1 + 1, 0, none⟩) 256 256⟩).toArray) rfl (by kernel_rfl) (by kernel_rfl) (by kernel_rfl) (fun _ _ _ h => h) (Or.inl ⟨by rfl, fun w' _ => exec_build6 41 2 3 4 5 6 14 _ _ _ _ _ _ rfl _ _ _ _ _ _ _ rfl rfl rfl rfl rfl rfl (run_new a1 a2 l1.length c1 l2.length c2 (w.heap.size + 1 + 1 + 1) (w.heap.size + 1) (w.heap.size + 1 + 1) l1 l2 w')⟩) trivial ?_
      simp only [Act.put, List.setIfInBounds_toArray, List.set_cons_zero, List.set_cons_succ]
      refine wpAnyH_ready (rs := [6]) (by kernel_rfl) (by simp) ?_
      refine AllReadyH.cons (o := { dst := some 15, op := _, type := _, pos := _, after := _, guard := none }) rfl (fun K hK => ?_) AllReadyH.nil
      go_simp
      go_at_call 21
      refine (Bu.open_ok (newM l1 l2) _ _ HY.out.sl.lens HY.out.sl (newM_fit l1 l2 hl1 hl2)).mono ?_
      rintro e w1 ⟨F, hFB, rfl, hr, hB1, hb1⟩
      have HN := hid (NB.mk hB1 (stp HY.out.low hb1) (HY.out.res.kept hb1) (by rw [hFB]; exact HY.out.res.z) hr)
      clear hB1 hb1 hFB hr
      try go_wp2_with fail
      refine hK.out _ _ trivial (fun _ => ?_)
      clear hK K HY
      try simp only [Act.put, List.setIfInBounds_toArray, List.set_cons_zero, List.set_cons_succ]
      refine wpAnyH_take (i := 7) (oi := { dst := some 8, op := _, type := _, pos := _, after := _, guard := none }) (v := ?_) rfl (by kernel_rfl) (by kernel_rfl) (by kernel_rfl) (fun _ _ _ h => h) (Or.inl ⟨by rfl, ?_⟩) trivial ?_
      rotate_left 1
      focus (intro w hSw; (try dsimp only at hSw); go_simp; try (with_reducible rfl))
      simp only [Act.put, List.setIfInBounds_toArray, List.set_cons_zero, List.set_cons_succ]
      refine wpAnyH_take (i := 8) (oi := { dst := some 16, op := _, type := _, pos := _, after := _, guard := none }) (v := ?_) rfl (by kernel_rfl) (by kernel_rfl) (by kernel_rfl) (fun _ _ _ h => h) (Or.inl ⟨by rfl, ?_⟩) trivial ?_
      rotate_left 1
      focus (intro w hSw; (try dsimp only at hSw); go_simp; try (with_reducible rfl))
      simp only [Act.put, List.setIfInBounds_toArray, List.set_cons_zero, List.set_cons_succ]
      refine wpAnyH_take (i := 9) (oi := { dst := some 17, op := _, type := _, pos := _, after := _, guard := none }) (v := ?_) rfl (by kernel_rfl) (by kernel_rfl) (by kernel_rfl) (fun _ _ _ h => h) (Or.inl ⟨by rfl, ?_⟩) trivial ?_
      rotate_left 1
      focus (intro w hSw; (try dsimp only at hSw); go_simp; try (with_reducible rfl))
      simp only [Act.put, List.setIfInBounds_toArray, List.set_cons_zero, List.set_cons_succ]
      refine wpAnyH_take (i := 10) (oi := { dst := some 6, op := _, type := _, pos := _, after := _, guard := none }) (v := ?_) rfl (by kernel_rfl) (by kernel_rfl) (by kernel_rfl) (fun _ _ _ h => h) (Or.inl ⟨by rfl, ?_⟩) trivial ?_
      rotate_left 1
      focus (intro w hSw; (try dsimp only at hSw); go_simp; try (with_reducible rfl))
      simp only [Act.put, List.setIfInBounds_toArray, List.set_cons_zero, List.set_cons_succ]
      refine wpAnyH_take (i := 11) (oi := { dst := some 7, op := _, type := _, pos := _, after := _, guard := none }) (v := ?_) rfl (by kernel_rfl) (by kernel_rfl) (by kernel_rfl) (fun _ _ _ h => h) (Or.inl ⟨by rfl, ?_⟩) trivial ?_
      rotate_left 1
      focus (intro w hSw; (try dsimp only at hSw); go_simp; try (with_reducible rfl))
      simp only [Act.put, List.setIfInBounds_toArray, List.set_cons_zero, List.set_cons_succ]
      refine wpAnyH_done (by kernel_rfl) ?_ _
      refine Pl.cutE (NB w F (newM l1 l2) Tk.zero (machL zeroM nilS)) HN.out ?_
      intro X hX
      have HX := hid hX
      clear hX HN
      go_wp2_with (first
        | (go_at_call 23; refine (Bu.main_any F.g _).mono ?_; rintro e w2 ⟨rfl, hb2⟩; have HX2 := hid (HX.out.kept hb2); clear hb2)
        | (go_at_call 22; refine (Bu.begin_any HX2.out.bd 77 _ _ (Bu.reads_M 0 (by omega)) (Bu.reads_M 1 (by omega)) (lookM_bd _ _) (lookM_bd _ _)).mono ?_; rintro e w3 ⟨rfl, hB3, hT3⟩; have HX3 := hid (HX2.out.go hB3 hT3); clear hB3 hT3)
        | (refine wpList_store_mid rfl 26 _ _ rfl F.g 0 (begL ((newM l1 l2).lookM 0 * 256 + (newM l1 l2).lookM 1)).toArray rfl rfl (Bx.there HX3.out.bd.bx 0 15 (by rw [Fx.len]; omega)) info_cpu (beg_one _) ?_
           refine Pl.cutL (NB w F (newD l1 l2) Tk.zero (machL zeroM nilS)) (new_put HX3.out) ?_
           intro Z hZ
           have HZ := hid hZ
           clear hZ)
        | (refine wpList_load_mid rfl 41 _ rfl F.g 0 rfl (machL (newD l1 l2) F.S) _ HZ.out.bd.row Try.underlying41 rfl info_mach ?_)
        | (refine wpList_store_mid rfl 41 _ _ rfl w.heap.size 0 (machL (newD l1 l2) F.S).toArray rfl rfl (HZ.out.res.there 0 75 (by rw [machL_len]; omega)) info_mach (machL_one _ _ HZ.out.bd.isSl) ?_
           refine Pl.cutL (fun V => Below w.heap.size w V ∧ Bx V w.heap.size (machL (newD l1 l2) F.S) ∧ SlAt V F.S (newD l1 l2)) (HZ.out.fin rfl) ?_
           rintro V ⟨hV1, hV2, hV3⟩
           have HV1 := hid hV1
           have HV2 := hid hV2
           have HV3 := hid hV3
           clear hV1 hV2 hV3))
      have hl := load_mach _ _ HV2.out.c
      refine bodyPost_ret (v := .tuple #[.agg (machL (newD l1 l2) F.S).toArray, .int .i64 0]) ?_ rfl ⟨F.S, rfl, HV3.out, HZ.out.bd.fit, (HZ.out.bd.slNew HZ.out.r).mono HZ.out.B, HV1.out⟩
      simp only [results, Try.results8]
      simp
      show (Result.andThen (Sem.run Try.prog (loadVar 41 ⟨w.heap.size, 0, none⟩) V) _) = _
      rw [hl]
      rfl
  · refine wpAnyH_ready (rs := [2, 3]) (by kernel_rfl) (by simp) ?_
    refine consH_make (op := { dst := some 11, op := _, type := _, pos := _, after := _, guard := none }) rfl rfl 22 _ _ rfl (.int .i64 128) (.int .i64 128) _ rfl rfl (mk128 _ (w.heap.size + 1 + 1) (by simp)) trivial ?_ (consH_make (op := { dst := some 12, op := _, type := _, pos := _, after := _, guard := none }) rfl rfl 22 _ _ rfl (.int .i64 64) (.int .i64 64) _ rfl rfl (mk64 _ (w.heap.size + 1 + 1) (by simp)) trivial ?_ AllReadyH.nil)
    all_goals simp only [Act.put, List.setIfInBounds_toArray, List.set_cons_zero, List.set_cons_succ]
    · refine wpAnyH_ready (rs := [3]) (by kernel_rfl) (by simp) ?_
      refine consH_make (op := { dst := some 12, op := _, type := _, pos := _, after := _, guard := none }) rfl rfl 22 _ _ rfl (.int .i64 64) (.int .i64 64) _ rfl rfl (mk64 _ (w.heap.size + 1 + 1 + 1) (by simp)) trivial ?_ AllReadyH.nil
      simp only [Act.put, List.setIfInBounds_toArray, List.set_cons_zero, List.set_cons_succ]
      refine cutH (NF w l1 l2 ⟨.slice a1 l1.length c1, .slice a2 l2.length c2, .slice (some ⟨_, 0, none⟩) 128 128, .slice (some ⟨_, 0, none⟩) 64 64, .slice (some ⟨_, 0, none⟩) 256 256⟩) (NF.of (b1 := w.heap.size + 1 + 1) (b2 := w.heap.size + 1 + 1 + 1) (b3 := w.heap.size + 1) H1.out H2.out ?_ ?_ ?_ ?_ ?_) ?_
      · repeat' (first | exact st0 _ | refine Below.drew ?_ | refine stA ?_ _)
      · repeat' (first | exact HR.out | refine Bx.drew ?_ | refine Bx.over ?_ _)
      · repeat' (first | exact Bx.new _ (List.replicate 128 (.int .u8 0)) _ (by simp) | refine Bx.drew ?_ | refine Bx.over ?_ _)
      · repeat' (first | exact Bx.new _ (List.replicate 64 (.int .u8 0)) _ (by simp) | refine Bx.drew ?_ | refine Bx.over ?_ _)
      · repeat' (first | exact Bx.new _ (List.replicate 256 (.int .u8 0)) _ (by simp) | refine Bx.drew ?_ | refine Bx.over ?_ _)
      intro Y hY
      have HY := hid hY
      clear hY
      refine wpAnyH_take (i := 5) (oi := { dst := some 14, op := _, type := _, pos := _, after := _, guard := none }) (v := .agg (machL (newM l1 l2) ⟨.slice a1 l1.length c1, .slice a2 l2.length c2, .slice (some ⟨w.heap.size + 1 + 1, 0, none⟩) 128 128, .slice (some ⟨w.heap.size + 1 + 1 + 1, 0, none⟩) 64 64, .slice (some ⟨w.heap.size + 1, 0, none⟩) 256 256⟩).toArray) rfl (by kernel_rfl) (by kernel_rfl) (by kernel_rfl) (fun _ _ _ h => h) (Or.inl ⟨by rfl, fun w' _ => exec_build6 41 2 3 4 5 6 14 _ _ _ _ _ _ rfl _ _ _ _ _ _ _ rfl rfl rfl rfl rfl rfl (run_new a1 a2 l1.length c1 l2.length c2 (w.heap.size + 1 + 1) (w.heap.size + 1 + 1 + 1) (w.heap.size + 1) l1 l2 w')⟩) trivial ?_
      simp only [Act.put, List.setIfInBounds_toArray, List.set_cons_zero, List.set_cons_succ]
      refine wpAnyH_ready (rs := [6]) (by kernel_rfl) (by simp) ?_
      refine AllReadyH.cons (o := { dst := some 15, op := _, type := _, pos := _, after := _, guard := none }) rfl (fun K hK => ?_) AllReadyH.nil
      go_simp
      go_at_call 21
      refine (Bu.open_ok (newM l1 l2) _ _ HY.out.sl.lens HY.out.sl (newM_fit l1 l2 hl1 hl2)).mono ?_
      rintro e w1 ⟨F, hFB, rfl, hr, hB1, hb1⟩
      have HN := hid (NB.mk hB1 (stp HY.out.low hb1) (HY.out.res.kept hb1) (by rw [hFB]; exact HY.out.res.z) hr)
      clear hB1 hb1 hFB hr
      try go_wp2_with fail
      refine hK.out _ _ trivial (fun _ => ?_)
      clear hK K HY
      try simp only [Act.put, List.setIfInBounds_toArray, List.set_cons_zero, List.set_cons_succ]
      refine wpAnyH_take (i := 7) (oi := { dst := some 8, op := _, type := _, pos := _, after := _, guard := none }) (v := ?_) rfl (by kernel_rfl) (by kernel_rfl) (by kernel_rfl) (fun _ _ _ h => h) (Or.inl ⟨by rfl, ?_⟩) trivial ?_
      rotate_left 1
      focus (intro w hSw; (try dsimp only at hSw); go_simp; try (with_reducible rfl))
      simp only [Act.put, List.setIfInBounds_toArray, List.set_cons_zero, List.set_cons_succ]
      refine wpAnyH_take (i := 8) (oi := { dst := some 16, op := _, type := _, pos := _, after := _, guard := none }) (v := ?_) rfl (by kernel_rfl) (by kernel_rfl) (by kernel_rfl) (fun _ _ _ h => h) (Or.inl ⟨by rfl, ?_⟩) trivial ?_
      rotate_left 1
      focus (intro w hSw; (try dsimp only at hSw); go_simp; try (with_reducible rfl))
      simp only [Act.put, List.setIfInBounds_toArray, List.set_cons_zero, List.set_cons_succ]
      refine wpAnyH_take (i := 9) (oi := { dst := some 17, op := _, type := _, pos := _, after := _, guard := none }) (v := ?_) rfl (by kernel_rfl) (by kernel_rfl) (by kernel_rfl) (fun _ _ _ h => h) (Or.inl ⟨by rfl, ?_⟩) trivial ?_
      rotate_left 1
      focus (intro w hSw; (try dsimp only at hSw); go_simp; try (with_reducible rfl))
      simp only [Act.put, List.setIfInBounds_toArray, List.set_cons_zero, List.set_cons_succ]
      refine wpAnyH_take (i := 10) (oi := { dst := some 6, op := _, type := _, pos := _, after := _, guard := none }) (v := ?_) rfl (by kernel_rfl) (by kernel_rfl) (by kernel_rfl) (fun _ _ _ h => h) (Or.inl ⟨by rfl, ?_⟩) trivial ?_
      rotate_left 1
      focus (intro w hSw; (try dsimp only at hSw); go_simp; try (with_reducible rfl))
      simp only [Act.put, List.setIfInBounds_toArray, List.set_cons_zero, List.set_cons_succ]
      refine wpAnyH_take (i := 11) (oi := { dst := some 7, op := _, type := _, pos := _, after := _, guard := none }) (v := ?_) rfl (by kernel_rfl) (by kernel_rfl) (by kernel_rfl) (fun _ _ _ h => h) (Or.inl ⟨by rfl, ?_⟩) trivial ?_
      rotate_left 1
      focus (intro w hSw; (try dsimp only at hSw); go_simp; try (with_reducible rfl))
      simp only [Act.put, List.setIfInBounds_toArray, List.set_cons_zero, List.set_cons_succ]
      refine wpAnyH_done (by kernel_rfl) ?_ _
      refine Pl.cutE (NB w F (newM l1 l2) Tk.zero (machL zeroM nilS)) HN.out ?_
      intro X hX
      have HX := hid hX
      clear hX HN
      go_wp2_with (first
        | (go_at_call 23; refine (Bu.main_any F.g _).mono ?_; rintro e w2 ⟨rfl, hb2⟩; have HX2 := hid (HX.out.kept hb2); clear hb2)
        | (go_at_call 22; refine (Bu.begin_any HX2.out.bd 77 _ _ (Bu.reads_M 0 (by omega)) (Bu.reads_M 1 (by omega)) (lookM_bd _ _) (lookM_bd _ _)).mono ?_; rintro e w3 ⟨rfl, hB3, hT3⟩; have HX3 := hid (HX2.out.go hB3 hT3); clear hB3 hT3)
        | (refine wpList_store_mid rfl 26 _ _ rfl F.g 0 (begL ((newM l1 l2).lookM 0 * 256 + (newM l1 l2).lookM 1)).toArray rfl rfl (Bx.there HX3.out.bd.bx 0 15 (by rw [Fx.len]; omega)) info_cpu (beg_one _) ?_
           refine Pl.cutL (NB w F (newD l1 l2) Tk.zero (machL zeroM nilS)) (new_put HX3.out) ?_
           intro Z hZ
           have HZ := hid hZ
           clear hZ)
        | (refine wpList_load_mid rfl 41 _ rfl F.g 0 rfl (machL (newD l1 l2) F.S) _ HZ.out.bd.row Try.underlying41 rfl info_mach ?_)
        | (refine wpList_store_mid rfl 41 _ _ rfl w.heap.size 0 (machL (newD l1 l2) F.S).toArray rfl rfl (HZ.out.res.there 0 75 (by rw [machL_len]; omega)) info_mach (machL_one _ _ HZ.out.bd.isSl) ?_
           refine Pl.cutL (fun V => Below w.heap.size w V ∧ Bx V w.heap.size (machL (newD l1 l2) F.S) ∧ SlAt V F.S (newD l1 l2)) (HZ.out.fin rfl) ?_
           rintro V ⟨hV1, hV2, hV3⟩
           have HV1 := hid hV1
           have HV2 := hid hV2
           have HV3 := hid hV3
           clear hV1 hV2 hV3))
      have hl := load_mach _ _ HV2.out.c
      refine bodyPost_ret (v := .tuple #[.agg (machL (newD l1 l2) F.S).toArray, .int .i64 0]) ?_ rfl ⟨F.S, rfl, HV3.out, HZ.out.bd.fit, (HZ.out.bd.slNew HZ.out.r).mono HZ.out.B, HV1.out⟩
      simp only [results, Try.results8]
      simp
      show (Result.andThen (Sem.run Try.prog (loadVar 41 ⟨w.heap.size, 0, none⟩) V) _) = _
      rw [hl]
      rfl
    · refine wpAnyH_ready (rs := [2]) (by kernel_rfl) (by simp) ?_
      refine consH_make (op := { dst := some 11, op := _, type := _, pos := _, after := _, guard := none }) rfl rfl 22 _ _ rfl (.int .i64 128) (.int .i64 128) _ rfl rfl (mk128 _ (w.heap.size + 1 + 1 + 1) (by simp)) trivial ?_ AllReadyH.nil
      simp only [Act.put, List.setIfInBounds_toArray, List.set_cons_zero, List.set_cons_succ]
      refine cutH (NF w l1 l2 ⟨.slice a1 l1.length c1, .slice a2 l2.length c2, .slice (some ⟨_, 0, none⟩) 128 128, .slice (some ⟨_, 0, none⟩) 64 64, .slice (some ⟨_, 0, none⟩) 256 256⟩) (NF.of (b1 := w.heap.size + 1 + 1 + 1) (b2 := w.heap.size + 1 + 1) (b3 := w.heap.size + 1) H1.out H2.out ?_ ?_ ?_ ?_ ?_) ?_
      · repeat' (first | exact st0 _ | refine Below.drew ?_ | refine stA ?_ _)
      · repeat' (first | exact HR.out | refine Bx.drew ?_ | refine Bx.over ?_ _)
      · repeat' (first | exact Bx.new _ (List.replicate 128 (.int .u8 0)) _ (by simp) | refine Bx.drew ?_ | refine Bx.over ?_ _)
      · repeat' (first | exact Bx.new _ (List.replicate 64 (.int .u8 0)) _ (by simp) | refine Bx.drew ?_ | refine Bx.over ?_ _)
      · repeat' (first | exact Bx.new _ (List.replicate 256 (.int .u8 0)) _ (by simp) | refine Bx.drew ?_ | refine Bx.over ?_ _)
      intro Y hY
      have HY := hid hY
      clear hY
      refine wpAnyH_take (i := 5) (oi := { dst := some 14, op := _, type := _, pos := _, after := _, guard := none }) (v := .agg (machL (newM l1 l2) ⟨.slice a1 l1.length c1, .slice a2 l2.length c2, .slice (some ⟨w.heap.size + 1 + 1 + 1, 0, none⟩) 128 128, .slice (some ⟨w.heap.size + 1 + 1, 0, none⟩) 64 64, .slice (some ⟨w.heap.size + 1, 0, none⟩) 256 256⟩).toArray) rfl (by kernel_rfl) (by kernel_rfl) (by kernel_rfl) (fun _ _ _ h => h) (Or.inl ⟨by rfl, fun w' _ => exec_build6 41 2 3 4 5 6 14 _ _ _ _ _ _ rfl _ _ _ _ _ _ _ rfl rfl rfl rfl rfl rfl (run_new a1 a2 l1.length c1 l2.length c2 (w.heap.size + 1 + 1 + 1) (w.heap.size + 1 + 1) (w.heap.size + 1) l1 l2 w')⟩) trivial ?_
      simp only [Act.put, List.setIfInBounds_toArray, List.set_cons_zero, List.set_cons_succ]
      refine wpAnyH_ready (rs := [6]) (by kernel_rfl) (by simp) ?_
      refine AllReadyH.cons (o := { dst := some 15, op := _, type := _, pos := _, after := _, guard := none }) rfl (fun K hK => ?_) AllReadyH.nil
      go_simp
      go_at_call 21
      refine (Bu.open_ok (newM l1 l2) _ _ HY.out.sl.lens HY.out.sl (newM_fit l1 l2 hl1 hl2)).mono ?_
      rintro e w1 ⟨F, hFB, rfl, hr, hB1, hb1⟩
      have HN := hid (NB.mk hB1 (stp HY.out.low hb1) (HY.out.res.kept hb1) (by rw [hFB]; exact HY.out.res.z) hr)
      clear hB1 hb1 hFB hr
      try go_wp2_with fail
      refine hK.out _ _ trivial (fun _ => ?_)
      clear hK K HY
      try simp only [Act.put, List.setIfInBounds_toArray, List.set_cons_zero, List.set_cons_succ]
      refine wpAnyH_take (i := 7) (oi := { dst := some 8, op := _, type := _, pos := _, after := _, guard := none }) (v := ?_) rfl (by kernel_rfl) (by kernel_rfl) (by kernel_rfl) (fun _ _ _ h => h) (Or.inl ⟨by rfl, ?_⟩) trivial ?_
      rotate_left 1
      focus (intro w hSw; (try dsimp only at hSw); go_simp; try (with_reducible rfl))
      simp only [Act.put, List.setIfInBounds_toArray, List.set_cons_zero, List.set_cons_succ]
      refine wpAnyH_take (i := 8) (oi := { dst := some 16, op := _, type := _, pos := _, after := _, guard := none }) (v := ?_) rfl (by kernel_rfl) (by kernel_rfl) (by kernel_rfl) (fun _ _ _ h => h) (Or.inl ⟨by rfl, ?_⟩) trivial ?_
      rotate_left 1
      focus (intro w hSw; (try dsimp only at hSw); go_simp; try (with_reducible rfl))
      simp only [Act.put, List.setIfInBounds_toArray, List.set_cons_zero, List.set_cons_succ]
      refine wpAnyH_take (i := 9) (oi := { dst := some 17, op := _, type := _, pos := _, after := _, guard := none }) (v := ?_) rfl (by kernel_rfl) (by kernel_rfl) (by kernel_rfl) (fun _ _ _ h => h) (Or.inl ⟨by rfl, ?_⟩) trivial ?_
      rotate_left 1
      focus (intro w hSw; (try dsimp only at hSw); go_simp; try (with_reducible rfl))
      simp only [Act.put, List.setIfInBounds_toArray, List.set_cons_zero, List.set_cons_succ]
      refine wpAnyH_take (i := 10) (oi := { dst := some 6, op := _, type := _, pos := _, after := _, guard := none }) (v := ?_) rfl (by kernel_rfl) (by kernel_rfl) (by kernel_rfl) (fun _ _ _ h => h) (Or.inl ⟨by rfl, ?_⟩) trivial ?_
      rotate_left 1
      focus (intro w hSw; (try dsimp only at hSw); go_simp; try (with_reducible rfl))
      simp only [Act.put, List.setIfInBounds_toArray, List.set_cons_zero, List.set_cons_succ]
      refine wpAnyH_take (i := 11) (oi := { dst := some 7, op := _, type := _, pos := _, after := _, guard := none }) (v := ?_) rfl (by kernel_rfl) (by kernel_rfl) (by kernel_rfl) (fun _ _ _ h => h) (Or.inl ⟨by rfl, ?_⟩) trivial ?_
      rotate_left 1
      focus (intro w hSw; (try dsimp only at hSw); go_simp; try (with_reducible rfl))
      simp only [Act.put, List.setIfInBounds_toArray, List.set_cons_zero, List.set_cons_succ]
      refine wpAnyH_done (by kernel_rfl) ?_ _
      refine Pl.cutE (NB w F (newM l1 l2) Tk.zero (machL zeroM nilS)) HN.out ?_
      intro X hX
      have HX := hid hX
      clear hX HN
      go_wp2_with (first
        | (go_at_call 23; refine (Bu.main_any F.g _).mono ?_; rintro e w2 ⟨rfl, hb2⟩; have HX2 := hid (HX.out.kept hb2); clear hb2)
        | (go_at_call 22; refine (Bu.begin_any HX2.out.bd 77 _ _ (Bu.reads_M 0 (by omega)) (Bu.reads_M 1 (by omega)) (lookM_bd _ _) (lookM_bd _ _)).mono ?_; rintro e w3 ⟨rfl, hB3, hT3⟩; have HX3 := hid (HX2.out.go hB3 hT3); clear hB3 hT3)
        | (refine wpList_store_mid rfl 26 _ _ rfl F.g 0 (begL ((newM l1 l2).lookM 0 * 256 + (newM l1 l2).lookM 1)).toArray rfl rfl (Bx.there HX3.out.bd.bx 0 15 (by rw [Fx.len]; omega)) info_cpu (beg_one _) ?_
           refine Pl.cutL (NB w F (newD l1 l2) Tk.zero (machL zeroM nilS)) (new_put HX3.out) ?_
           intro Z hZ
           have HZ := hid hZ
           clear hZ)
        | (refine wpList_load_mid rfl 41 _ rfl F.g 0 rfl (machL (newD l1 l2) F.S) _ HZ.out.bd.row Try.underlying41 rfl info_mach ?_)
        | (refine wpList_store_mid rfl 41 _ _ rfl w.heap.size 0 (machL (newD l1 l2) F.S).toArray rfl rfl (HZ.out.res.there 0 75 (by rw [machL_len]; omega)) info_mach (machL_one _ _ HZ.out.bd.isSl) ?_
           refine Pl.cutL (fun V => Below w.heap.size w V ∧ Bx V w.heap.size (machL (newD l1 l2) F.S) ∧ SlAt V F.S (newD l1 l2)) (HZ.out.fin rfl) ?_
           rintro V ⟨hV1, hV2, hV3⟩
           have HV1 := hid hV1
           have HV2 := hid hV2
           have HV3 := hid hV3
           clear hV1 hV2 hV3))
      have hl := load_mach _ _ HV2.out.c
      refine bodyPost_ret (v := .tuple #[.agg (machL (newD l1 l2) F.S).toArray, .int .i64 0]) ?_ rfl ⟨F.S, rfl, HV3.out, HZ.out.bd.fit, (HZ.out.bd.slNew HZ.out.r).mono HZ.out.B, HV1.out⟩
      simp only [results, Try.results8]
      simp
      show (Result.andThen (Sem.run Try.prog (loadVar 41 ⟨w.heap.size, 0, none⟩) V) _) = _
      rw [hl]
      rfl
section
variable {F : Fx} {W : World} {M : Mach} {tk : Tk}
set_option maxHeartbeats 800000 in
theorem Bu.write_A (h : Bd F W M tk) (a n : Int) (ha : 0 ≤ a ∧ a ≤ 65535) (hn : 0 ≤ n ∧ n ≤ 255) (hp : ∀ i, i < 32 → PutA F M tk i n) :
    Calls Try.prog 51 #[pt F.g 143, .int .u16 a, .int .u8 n] W fun e w' => e = .returned (.tuple #[]) ∧ EndA F W w' (M.wrA a n) tk (M.shA a n) := by
  unfold Mach.wrA Mach.shA
  cases hP : isPort a
  · have hm := hid (Bu.mem_A h a ha)
    have e77 := h.at2 1 (mval 47 F.g 0) rfl
    have hP' := hid hP
    have H := hid h
    have hg := h.bx.z
    clear h hP hp
    simp only [Bool.false_eq_true, if_false]
    unfold Mach.memA
    unfold Fx.memA at hm
    by_cases h1 : a < 32768
    · rw [if_pos h1]
      rw [if_pos h1] at hm
      go_enter Try.func51, Try.ntmps51
      go_wp2_with (first
        | (go_at_call 77; refine (Bu.isPort_any a _ ha).mono ?_; rw [hP'.out]; rintro e w1 ⟨rfl, rfl⟩)
        | (go_at_call 47; refine hm.out.mono ?_; rintro e w1 ⟨rfl, rfl⟩))
      go_end0
      exact ⟨rfl, endA H.out rfl (Bt.refl _ _)⟩
    · rw [if_neg h1]
      rw [if_neg h1] at hm
      by_cases h2 : a < 49152
      · rw [if_pos h2]
        rw [if_pos h2] at hm
        obtain ⟨ec, ez, ef⟩ := H.out.ownAt ((a - 32768) % 64) (by omega) (by omega)
        go_enter Try.func51, Try.ntmps51
        go_wp2_with (first
          | (go_at_call 77; refine (Bu.isPort_any a _ ha).mono ?_; rw [hP'.out]; rintro e w1 ⟨rfl, rfl⟩)
          | (go_at_call 47; refine hm.out.mono ?_; rintro e w1 ⟨rfl, rfl⟩))
        go_end0
        exact ⟨rfl, endA (H.out.putOwn _ n (by omega) (by omega) hn) rfl ((Bt.refl _ _).setO H.out.nd _ _)⟩
      · rw [if_neg h2]
        rw [if_neg h2] at hm
        by_cases h3 : a < 53248
        · rw [if_pos h3]
          rw [if_pos h3] at hm
          obtain ⟨ec, ez, ef⟩ := H.out.ramAt ((a - 49152) % 128) (by omega) (by omega)
          cases hgr : M.granted
          · rw [hgr] at hm
            go_enter Try.func51, Try.ntmps51
            go_wp2_with (first
              | (go_at_call 77; refine (Bu.isPort_any a _ ha).mono ?_; rw [hP'.out]; rintro e w1 ⟨rfl, rfl⟩)
              | (go_at_call 47; refine hm.out.mono ?_; rintro e w1 ⟨rfl, rfl⟩))
            go_end0
            exact ⟨rfl, endA H.out rfl (Bt.refl _ _)⟩
          · rw [hgr] at hm
            go_enter Try.func51, Try.ntmps51
            go_wp2_with (first
              | (go_at_call 77; refine (Bu.isPort_any a _ ha).mono ?_; rw [hP'.out]; rintro e w1 ⟨rfl, rfl⟩)
              | (go_at_call 47; refine hm.out.mono ?_; rintro e w1 ⟨rfl, rfl⟩))
            go_end0
            have hX := H.out.putRam ((a - 49152) % 128) n (by omega) (by omega) hn
            rw [hgr] at hX
            exact ⟨rfl, endA hX rfl ((Bt.refl _ _).setR H.out.nd _ _)⟩
        · rw [if_neg h3]
          rw [if_neg h3] at hm
          go_enter Try.func51, Try.ntmps51
          go_wp2_with (first
            | (go_at_call 77; refine (Bu.isPort_any a _ ha).mono ?_; rw [hP'.out]; rintro e w1 ⟨rfl, rfl⟩)
            | (go_at_call 47; refine hm.out.mono ?_; rintro e w1 ⟨rfl, rfl⟩))
          go_end0
          exact ⟨rfl, endA H.out rfl (Bt.refl _ _)⟩
  · obtain ⟨k, hk⟩ : ∃ k : Nat, a % 32 = k := ⟨(a % 32).toNat, by omega⟩
    have hk2 : k < 32 := by omega
    have hm : Int.tmod a 32 = k := by rw [Int.tmod_eq_emod_of_nonneg ha.1, hk]
    have hq := hid (hp k hk2 W h)
    have hP' := hid hP
    have e0 : portNo a = k := by unfold portNo; omega
    simp only [if_true]
    rw [e0]
    obtain ⟨c0, c1⟩ := h.pA k hk2
    have hg := h.bx.z
    have hk3 : (k : Int) < 32 := by omega
    clear h hP hp e0
    generalize F.rdA k = vr at *
    generalize F.wrA k = vw at *
    go_enter Try.func51, Try.ntmps51
    go_wp2_with (first
      | (go_at_call 77; refine (Bu.isPort_any a _ ha).mono ?_; rw [hP'.out]; rintro e w1 ⟨rfl, rfl⟩)
      | (go_at_call 80; refine hq.out.mono ?_; rintro e w1 ⟨rfl, hB1⟩))
    go_end0
    exact ⟨rfl, hB1⟩
end
theorem sets_far75 {w : World} {g b : Nat} {vs : List Value} {v : Value} (hne : g ≠ b) (h : w.cell? ⟨g, 75, none⟩ = some v) : (w.setCells b 0 vs).cell? ⟨g, 75, none⟩ = some v := (World.cell?_of_block (heap_sets_far (x := g) (b := b) hne vs 0 w)).trans h
theorem Bd.at75 {F : Fx} {W : World} {M : Mach} {tk : Tk} (h : Bd F W M tk) : W.cell? ⟨F.g, 75, none⟩ = some (.int .i64 tk.n) := h.at 75 _ rfl
set_option maxHeartbeats 800000 in
theorem Bu.write_m (M : Mach) (S : Sl) (w : World) (a n : Int) (ha : 0 ≤ a ∧ a ≤ 65535) (hn : 0 ≤ n ∧ n ≤ 255) (hs : SlAt w S M) (hf : M.fit) :
    Calls Try.prog 17 #[.agg (machL M S).toArray, .bool false, .int .u16 a, .int .u8 n] w fun e w' => ∃ S', e = .returned (.tuple #[.agg (machL (M.wrM a n) S').toArray, .int .i64 (tookM a n), .int .i64 0]) ∧ SlAt w' S' (M.wrM a n) ∧ (M.wrM a n).fit ∧ SlNew (w.heap.size + 2) S' ∧ Below w.heap.size w w' := by
  have hB := (Bx.new w (machL M S) 41 (b := w.heap.size) rfl).over (.cells (machL zeroM nilS).toArray 41)
  have HB := hid hB
  have HR := hid (Bx.new (w.alloc (.cells (machL M S).toArray 41)) (machL zeroM nilS) 41 (b := w.heap.size + 1) (by simp))
  have HL := hid (stA (stA (st0 w) (.cells (machL M S).toArray 41)) (.cells (machL zeroM nilS).toArray 41))
  have HS := hid hs
  have HF := hid hf
  clear hB hs hf
  go_enter Try.func17, Try.ntmps17
  go_wp2_with (first
    | (refine wpList_load_mid rfl 41 _ rfl w.heap.size 0 rfl (machL M S) _ HB.out.c Try.underlying41 rfl info_mach ?_)
    | (refine wpList_field rfl 73 _ 1 rfl (.agg #[_, _]) _ rfl (field_1 _ _ _) ?_)
    | (go_at_call 21; refine (Bu.open_ok M S _ (HS.out.kept HL.out).lens (HS.out.kept HL.out) HF.out).mono ?_; rintro e w1 ⟨F, hFB, rfl, hr, hB1, hb1⟩; have HR1 := hid (RB.mk hB1 (stp HL.out hb1) (HR.out.kept hb1) (by rw [hFB]; simp) hr); clear hB1 hb1 hFB hr)
    | (go_at_call 30; refine (Bu.reach_m F.g _).mono ?_; rintro e w2 ⟨rfl, hb2⟩; have HR2 := hid (HR1.out.kept hb2); clear hb2)
    | (go_at_call 51; refine (Bu.write_M HR2.out.bd a n ha hn (fun i hi => putM_all n hn (by show (0 : Int) ≤ 0 ∧ (0 : Int) ≤ 1000000000000; omega) i hi)).mono ?_; rintro e w3 ⟨rfl, hB3, hT3⟩; have HR3 := hid (HR2.out.go hB3 hT3); clear hB3 hT3))
  have ctk : w3.drew.cell? ⟨F.g, 75, none⟩ = some (.int .i64 (tookM a n)) := by have := HR3.out.drew.bd.at75; rw [show (Tk.zero.add (tookM a n)).n = tookM a n from Int.zero_add _] at this; exact this
  refine wp_region_held_drew (S := fun w' => w'.cell? ⟨F.g, 75, none⟩ = some (.int .i64 (tookM a n))) (by kernel_rfl) ctk ?_
  intro hS
  refine wpAnyH_take (i := 0) (oi := { dst := some 29, op := _, type := _, pos := _, after := _, guard := none }) (v := ?_) rfl (by kernel_rfl) (by kernel_rfl) (by kernel_rfl) (fun _ _ _ h => h) (Or.inl ⟨by rfl, ?_⟩) hS ?_
  rotate_left 1
  focus (intro w hSw; (try dsimp only at hSw); go_simp; try (with_reducible rfl))
  simp only [Act.put, List.setIfInBounds_toArray, List.set_cons_zero, List.set_cons_succ]
  refine wpAnyH_take (i := 1) (oi := { dst := some 30, op := _, type := _, pos := _, after := _, guard := none }) (v := ?_) rfl (by kernel_rfl) (by kernel_rfl) (by kernel_rfl) (fun _ _ _ h => h) (Or.inl ⟨by rfl, ?_⟩) hS ?_
  rotate_left 1
  focus (intro w hSw; (try dsimp only at hSw); go_simp; try (with_reducible rfl))
  simp only [Act.put, List.setIfInBounds_toArray, List.set_cons_zero, List.set_cons_succ]
  refine wpAnyH_take (i := 2) (oi := { dst := some 31, op := _, type := _, pos := _, after := _, guard := none }) (v := ?_) rfl (by kernel_rfl) (by kernel_rfl) (by kernel_rfl) (fun _ _ _ h => h) (Or.inl ⟨by rfl, ?_⟩) hS ?_
  rotate_left 1
  focus (intro w hSw; (try dsimp only at hSw); go_simp; try (with_reducible rfl))
  simp only [Act.put, List.setIfInBounds_toArray, List.set_cons_zero, List.set_cons_succ]
  refine wpAnyH_take (i := 4) (oi := { dst := some 33, op := _, type := _, pos := _, after := _, guard := none }) (v := ?_) rfl (by kernel_rfl) (by kernel_rfl) (by kernel_rfl) (fun _ _ _ h => h) (Or.inl ⟨by rfl, ?_⟩) hS ?_
  rotate_left 1
  focus (intro w hSw; (try dsimp only at hSw); go_simp; try (with_reducible rfl))
  simp only [Act.put, List.setIfInBounds_toArray, List.set_cons_zero, List.set_cons_succ]
  refine wpAnyH_take (i := 5) (oi := { dst := some 34, op := _, type := _, pos := _, after := _, guard := none }) (v := ?_) rfl (by kernel_rfl) (by kernel_rfl) (by kernel_rfl) (fun _ _ _ h => h) (Or.inl ⟨by rfl, ?_⟩) hS ?_
  rotate_left 1
  focus (intro w hSw; (try dsimp only at hSw); go_simp; try (with_reducible rfl))
  simp only [Act.put, List.setIfInBounds_toArray, List.set_cons_zero, List.set_cons_succ]
  refine wpAnyH_take (i := 6) (oi := { dst := some 35, op := _, type := _, pos := _, after := _, guard := none }) (v := ?_) rfl (by kernel_rfl) (by kernel_rfl) (by kernel_rfl) (fun _ _ _ h => h) (Or.inl ⟨by rfl, ?_⟩) hS ?_
  rotate_left 1
  focus (intro w hSw; (try dsimp only at hSw); go_simp; try (with_reducible rfl))
  simp only [Act.put, List.setIfInBounds_toArray, List.set_cons_zero, List.set_cons_succ]
  refine wpAnyH_take (i := 7) (oi := { dst := some 36, op := _, type := _, pos := _, after := _, guard := none }) (v := ?_) rfl (by kernel_rfl) (by kernel_rfl) (by kernel_rfl) (fun _ _ _ h => h) (Or.inl ⟨by rfl, ?_⟩) hS ?_
  rotate_left 1
  focus (intro w hSw; (try dsimp only at hSw); go_simp; try (with_reducible rfl))
  simp only [Act.put, List.setIfInBounds_toArray, List.set_cons_zero, List.set_cons_succ]
  refine readyH_load (i := 3) (op := { dst := some 32, op := _, type := _, pos := _, after := _, guard := none }) (by kernel_rfl) rfl rfl 41 _ rfl F.g 0 rfl (machL (M.wrM a n) F.S) _ HR3.out.bd.row Try.underlying41 rfl info_mach hS ?_
  simp only [Act.put, List.setIfInBounds_toArray, List.set_cons_zero, List.set_cons_succ]
  have hS2 := sets_far75 (vs := (machL (M.wrM a n) F.S).toArray.toList) (show F.g ≠ w.heap.size + 1 by have := HR3.out.B; have := HR3.out.bd.nd.lo.1; omega) hS
  refine readyH_store (i := 8) (op := { dst := none, op := _, type := _, pos := _, after := _, guard := none }) (by kernel_rfl) rfl rfl 41 _ _ rfl (w.heap.size + 1) 0 (machL (M.wrM a n) F.S).toArray rfl rfl HR3.out.drew.th info_mach (machL_one _ _ HR3.out.bd.isSl) hS2 ?_
  simp only [Act.put]
  refine wpAnyH_take (i := 9) (oi := { dst := some 9, op := _, type := _, pos := _, after := _, guard := none }) (v := ?_) rfl (by kernel_rfl) (by kernel_rfl) (by kernel_rfl) (fun _ _ _ h => h) (Or.inl ⟨by rfl, ?_⟩) hS2 ?_
  rotate_left 1
  focus (intro w hSw; (try dsimp only at hSw); go_simp; try (with_reducible rfl))
  simp only [Act.put, List.setIfInBounds_toArray, List.set_cons_zero, List.set_cons_succ]
  refine wpAnyH_take (i := 10) (oi := { dst := some 10, op := _, type := _, pos := _, after := _, guard := none }) (v := ?_) rfl (by kernel_rfl) (by kernel_rfl) (by kernel_rfl) (fun _ _ _ h => h) (Or.inl ⟨by rfl, ?_⟩) hS2 ?_
  rotate_left 1
  focus (intro w hSw; (try dsimp only at hSw); go_simp; try (with_reducible rfl))
  simp only [Act.put, List.setIfInBounds_toArray, List.set_cons_zero, List.set_cons_succ]
  refine wpAnyH_done (by kernel_rfl) ?_ _
  refine Pl.cutE (fun X => Below w.heap.size w X ∧ Bx X (w.heap.size + 1) (machL (M.wrM a n) F.S) ∧ SlAt X F.S (M.wrM a n)) (HR3.out.drew.fin rfl) ?_
  rintro X ⟨hX1, hX2, hX3⟩
  have HX1 := hid hX1
  have HX2 := hid hX2
  have HX3 := hid hX3
  have HFI := hid HR3.out.bd.fit
  clear hX1 hX2 hX3 hS hS2 ctk
  go_wp2
  have hl := load_mach _ _ HX2.out.c
  refine bodyPost_ret (v := .tuple #[.agg (machL (M.wrM a n) F.S).toArray, .int .i64 (tookM a n), .int .i64 0]) ?_ rfl ⟨F.S, rfl, HX3.out, HFI.out, HR3.out.new, HX1.out⟩
  simp only [results, Try.results17]
  simp
  show (Result.andThen (Sem.run Try.prog (loadVar 41 ⟨w.heap.size + 1, 0, none⟩) X) _) = _
  rw [hl]
  rfl
set_option maxHeartbeats 800000 in
theorem Bu.write_a (M : Mach) (S : Sl) (w : World) (a n : Int) (ha : 0 ≤ a ∧ a ≤ 65535) (hn : 0 ≤ n ∧ n ≤ 255) (hs : SlAt w S M) (hf : M.fit) :
    Calls Try.prog 17 #[.agg (machL M S).toArray, .bool true, .int .u16 a, .int .u8 n] w fun e w' => ∃ S', e = .returned (.tuple #[.agg (machL (M.wrA a n) S').toArray, .int .i64 0, .int .i64 0]) ∧ SlAt w' S' (M.wrA a n) ∧ (M.wrA a n).fit ∧ SlNew (w.heap.size + 2) S' ∧ Below w.heap.size w w' := by
  have hB := (Bx.new w (machL M S) 41 (b := w.heap.size) rfl).over (.cells (machL zeroM nilS).toArray 41)
  have HB := hid hB
  have HR := hid (Bx.new (w.alloc (.cells (machL M S).toArray 41)) (machL zeroM nilS) 41 (b := w.heap.size + 1) (by simp))
  have HL := hid (stA (stA (st0 w) (.cells (machL M S).toArray 41)) (.cells (machL zeroM nilS).toArray 41))
  have HS := hid hs
  have HF := hid hf
  clear hB hs hf
  go_enter Try.func17, Try.ntmps17
  go_wp2_with (first
    | (refine wpList_load_mid rfl 41 _ rfl w.heap.size 0 rfl (machL M S) _ HB.out.c Try.underlying41 rfl info_mach ?_)
    | (refine wpList_field rfl 73 _ 1 rfl (.agg #[_, _]) _ rfl (field_1 _ _ _) ?_)
    | (go_at_call 21; refine (Bu.open_ok M S _ (HS.out.kept HL.out).lens (HS.out.kept HL.out) HF.out).mono ?_; rintro e w1 ⟨F, hFB, rfl, hr, hB1, hb1⟩; have HR1 := hid (RB.mk hB1 (stp HL.out hb1) (HR.out.kept hb1) (by rw [hFB]; simp) hr); clear hB1 hb1 hFB hr)
    | (go_at_call 30; refine (Bu.reach_a F.g _).mono ?_; rintro e w2 ⟨rfl, hb2⟩; have HR2 := hid (HR1.out.kept hb2); clear hb2)
    | (go_at_call 51; refine (Bu.write_A HR2.out.bd a n ha hn (fun i hi => putA_all n hn (by show 0 ≤ 1000000000; omega) i hi)).mono ?_; rintro e w3 ⟨rfl, ⟨vw, hB3⟩, hT3⟩; have HR3 := hid (HR2.out.goW hB3 hT3); clear hB3 hT3))
  have ctk : w3.drew.cell? ⟨F.g, 75, none⟩ = some (.int .i64 0) := HR3.out.drew.bd.at75
  refine wp_region_held_drew (S := fun w' => w'.cell? ⟨F.g, 75, none⟩ = some (.int .i64 0)) (by kernel_rfl) ctk ?_
  intro hS
  refine wpAnyH_take (i := 0) (oi := { dst := some 29, op := _, type := _, pos := _, after := _, guard := none }) (v := ?_) rfl (by kernel_rfl) (by kernel_rfl) (by kernel_rfl) (fun _ _ _ h => h) (Or.inl ⟨by rfl, ?_⟩) hS ?_
  rotate_left 1
  focus (intro w hSw; (try dsimp only at hSw); go_simp; try (with_reducible rfl))
  simp only [Act.put, List.setIfInBounds_toArray, List.set_cons_zero, List.set_cons_succ]
  refine wpAnyH_take (i := 1) (oi := { dst := some 30, op := _, type := _, pos := _, after := _, guard := none }) (v := ?_) rfl (by kernel_rfl) (by kernel_rfl) (by kernel_rfl) (fun _ _ _ h => h) (Or.inl ⟨by rfl, ?_⟩) hS ?_
  rotate_left 1
  focus (intro w hSw; (try dsimp only at hSw); go_simp; try (with_reducible rfl))
  simp only [Act.put, List.setIfInBounds_toArray, List.set_cons_zero, List.set_cons_succ]
  refine wpAnyH_take (i := 2) (oi := { dst := some 31, op := _, type := _, pos := _, after := _, guard := none }) (v := ?_) rfl (by kernel_rfl) (by kernel_rfl) (by kernel_rfl) (fun _ _ _ h => h) (Or.inl ⟨by rfl, ?_⟩) hS ?_
  rotate_left 1
  focus (intro w hSw; (try dsimp only at hSw); go_simp; try (with_reducible rfl))
  simp only [Act.put, List.setIfInBounds_toArray, List.set_cons_zero, List.set_cons_succ]
  refine wpAnyH_take (i := 4) (oi := { dst := some 33, op := _, type := _, pos := _, after := _, guard := none }) (v := ?_) rfl (by kernel_rfl) (by kernel_rfl) (by kernel_rfl) (fun _ _ _ h => h) (Or.inl ⟨by rfl, ?_⟩) hS ?_
  rotate_left 1
  focus (intro w hSw; (try dsimp only at hSw); go_simp; try (with_reducible rfl))
  simp only [Act.put, List.setIfInBounds_toArray, List.set_cons_zero, List.set_cons_succ]
  refine wpAnyH_take (i := 5) (oi := { dst := some 34, op := _, type := _, pos := _, after := _, guard := none }) (v := ?_) rfl (by kernel_rfl) (by kernel_rfl) (by kernel_rfl) (fun _ _ _ h => h) (Or.inl ⟨by rfl, ?_⟩) hS ?_
  rotate_left 1
  focus (intro w hSw; (try dsimp only at hSw); go_simp; try (with_reducible rfl))
  simp only [Act.put, List.setIfInBounds_toArray, List.set_cons_zero, List.set_cons_succ]
  refine wpAnyH_take (i := 6) (oi := { dst := some 35, op := _, type := _, pos := _, after := _, guard := none }) (v := ?_) rfl (by kernel_rfl) (by kernel_rfl) (by kernel_rfl) (fun _ _ _ h => h) (Or.inl ⟨by rfl, ?_⟩) hS ?_
  rotate_left 1
  focus (intro w hSw; (try dsimp only at hSw); go_simp; try (with_reducible rfl))
  simp only [Act.put, List.setIfInBounds_toArray, List.set_cons_zero, List.set_cons_succ]
  refine wpAnyH_take (i := 7) (oi := { dst := some 36, op := _, type := _, pos := _, after := _, guard := none }) (v := ?_) rfl (by kernel_rfl) (by kernel_rfl) (by kernel_rfl) (fun _ _ _ h => h) (Or.inl ⟨by rfl, ?_⟩) hS ?_
  rotate_left 1
  focus (intro w hSw; (try dsimp only at hSw); go_simp; try (with_reducible rfl))
  simp only [Act.put, List.setIfInBounds_toArray, List.set_cons_zero, List.set_cons_succ]
  refine readyH_load (i := 3) (op := { dst := some 32, op := _, type := _, pos := _, after := _, guard := none }) (by kernel_rfl) rfl rfl 41 _ rfl F.g 0 rfl (machL (M.wrA a n) F.S) _ HR3.out.bd.row Try.underlying41 rfl info_mach hS ?_
  simp only [Act.put, List.setIfInBounds_toArray, List.set_cons_zero, List.set_cons_succ]
  have hS2 := sets_far75 (vs := (machL (M.wrA a n) F.S).toArray.toList) (show F.g ≠ w.heap.size + 1 by have := HR3.out.B; have := HR3.out.bd.nd.lo.1; omega) hS
  refine readyH_store (i := 8) (op := { dst := none, op := _, type := _, pos := _, after := _, guard := none }) (by kernel_rfl) rfl rfl 41 _ _ rfl (w.heap.size + 1) 0 (machL (M.wrA a n) F.S).toArray rfl rfl HR3.out.drew.th info_mach (machL_one _ _ HR3.out.bd.isSl) hS2 ?_
  simp only [Act.put]
  refine wpAnyH_take (i := 9) (oi := { dst := some 9, op := _, type := _, pos := _, after := _, guard := none }) (v := ?_) rfl (by kernel_rfl) (by kernel_rfl) (by kernel_rfl) (fun _ _ _ h => h) (Or.inl ⟨by rfl, ?_⟩) hS2 ?_
  rotate_left 1
  focus (intro w hSw; (try dsimp only at hSw); go_simp; try (with_reducible rfl))
  simp only [Act.put, List.setIfInBounds_toArray, List.set_cons_zero, List.set_cons_succ]
  refine wpAnyH_take (i := 10) (oi := { dst := some 10, op := _, type := _, pos := _, after := _, guard := none }) (v := ?_) rfl (by kernel_rfl) (by kernel_rfl) (by kernel_rfl) (fun _ _ _ h => h) (Or.inl ⟨by rfl, ?_⟩) hS2 ?_
  rotate_left 1
  focus (intro w hSw; (try dsimp only at hSw); go_simp; try (with_reducible rfl))
  simp only [Act.put, List.setIfInBounds_toArray, List.set_cons_zero, List.set_cons_succ]
  refine wpAnyH_done (by kernel_rfl) ?_ _
  refine Pl.cutE (fun X => Below w.heap.size w X ∧ Bx X (w.heap.size + 1) (machL (M.wrA a n) F.S) ∧ SlAt X F.S (M.wrA a n)) (HR3.out.drew.fin rfl) ?_
  rintro X ⟨hX1, hX2, hX3⟩
  have HX1 := hid hX1
  have HX2 := hid hX2
  have HX3 := hid hX3
  have HFI := hid HR3.out.bd.fit
  clear hX1 hX2 hX3 hS hS2 ctk
  go_wp2
  have hl := load_mach _ _ HX2.out.c
  refine bodyPost_ret (v := .tuple #[.agg (machL (M.wrA a n) F.S).toArray, .int .i64 0, .int .i64 0]) ?_ rfl ⟨F.S, rfl, HX3.out, HFI.out, HR3.out.new, HX1.out⟩
  simp only [results, Try.results17]
  simp
  show (Result.andThen (Sem.run Try.prog (loadVar 41 ⟨w.heap.size + 1, 0, none⟩) X) _) = _
  rw [hl]
  rfl
theorem wpList_build0 {P : Program} {ops : Array Oper} {rest : List Oper} {op : Oper} {a : Act} {w : World} {Q : Exit → Act → World → Prop} (hgd : op.guard = none) (t : TypeId) (ho : op.op = .build t #[]) (v : Value)
    (hrun : (Instr.build t #[]).run P w = .ok v w) (h : wpList P ops Q rest (a.put op.dst v) w) : wpList P ops Q (op :: rest) a w :=
  wpList_build hgd t _ ho v (by simp only [List.map_toArray, List.map_nil]; exact hrun) h
theorem run_none (w : World) : (Instr.build 41 #[]).run Try.prog w = .ok (.agg (machL zeroM nilS).toArray) w := by kernel_rfl
set_option maxHeartbeats 800000 in
theorem Bu.write_bad (M : Mach) (S : Sl) (aux : Bool) (w : World) (a n : Int) (hS : S.lens M) (hz : ∀ j, j < 5 → (M.byt j).length ≤ 9223372036854775807) (hc : M.chk ≠ 0) :
    Calls Try.prog 17 #[.agg (machL M S).toArray, .bool aux, .int .u16 a, .int .u8 n] w fun e w' => e = .returned (.tuple #[.agg (machL zeroM nilS).toArray, .int .i64 0, .int .i64 M.chk]) ∧ Below w.heap.size w w' := by
  have hB := (Bx.new w (machL M S) 41 (b := w.heap.size) rfl).over (.cells (machL zeroM nilS).toArray 41)
  have HB := hid hB
  have HR := hid (Bx.new (w.alloc (.cells (machL M S).toArray 41)) (machL zeroM nilS) 41 (b := w.heap.size + 1) (by simp))
  have HL := hid (stA (stA (st0 w) (.cells (machL M S).toArray 41)) (.cells (machL zeroM nilS).toArray 41))
  have HSL := hid hS
  have HZ := hid hz
  have HCN := hid hc
  have hne : (M.chk == 0) = false := by simpa using hc
  clear hB hS hz hc
  generalize hcc : M.chk = c at hne ⊢
  have HCC := hid hcc
  clear hcc
  go_enter Try.func17, Try.ntmps17
  go_wp2_with (first
    | (refine wpList_load_mid rfl 41 _ rfl w.heap.size 0 rfl (machL M S) _ HB.out.c Try.underlying41 rfl info_mach ?_)
    | (refine wpList_build0 rfl 41 rfl _ (run_none _) ?_)
    | (go_at_call 21; refine (Bu.open_bad M S _ HSL.out HZ.out HCN.out).mono ?_; rw [HCC.out]; rintro e w1 ⟨rfl, hb1⟩; have HL1 := hid (stp HL.out hb1); have HR1 := hid (HR.out.kept hb1); clear hb1)
    | (refine wpList_store_mid rfl 41 _ _ rfl (w.heap.size + 1) 0 (machL zeroM nilS).toArray rfl rfl (HR1.out.there 0 75 (by rw [machL_len]; omega)) info_mach (machL_one _ _ zero_sl) ?_
       refine Pl.cutL (fun X => Below w.heap.size w X ∧ Bx X (w.heap.size + 1) (machL zeroM nilS)) ⟨?_, ?_⟩ ?_
       · exact Bl.puts HL1.out (by omega) _
       · have hx := HR1.out.puts 0 (machL zeroM nilS) (by omega)
         rw [putL_whole _ _ rfl] at hx
         exact hx
       rintro X ⟨hX1, hX2⟩
       have HX1 := hid hX1
       have HX2 := hid hX2
       clear hX1 hX2))
  have hl := load_mach _ _ HX2.out.c
  refine bodyPost_ret (v := .tuple #[.agg (machL zeroM nilS).toArray, .int .i64 0, .int .i64 c]) ?_ rfl ⟨rfl, HX1.out⟩
  simp only [results, Try.results17]
  simp
  show (Result.andThen (Sem.run Try.prog (loadVar 41 ⟨w.heap.size + 1, 0, none⟩) X) _) = _
  rw [hl]
  rfl
theorem fld {H : Type} {enc : TypeId × Value → H} {P : Program} {w : World} {base : Nat} {spare : Nat → Bool} {held : Bool} {n i o : Nat} {ty : TypeId} {cs : List Value} {xs : List (DataW H × List MemPlace)}
    (h : DataW.trod enc P w base spare held n ty ((cs.drop o).take (P.cellsOf ty)) = xs[i]?) (hi : i < xs.length) (hc : P.cellsOf ty = 1) {v : Value} (hv : cs[o]? = some v) : ∃ y, DataW.trod enc P w base spare held n ty [v] = some y := by
  rw [hc, List.getElem?_eq_getElem hi] at h
  have e : (cs.drop o).take 1 = [v] := by
    rw [List.take_one, List.head?_drop, hv]
    rfl
  rw [e] at h
  exact ⟨_, h⟩
theorem fld_int {H : Type} {enc : TypeId × Value → H} {P : Program} {w : World} {base : Nat} {spare : Nat → Bool} {held : Bool} {n i o : Nat} {ty : TypeId} {cs : List Value} {xs : List (DataW H × List MemPlace)} {k : IntKind}
    (h : DataW.trod enc P w base spare held n ty ((cs.drop o).take (P.cellsOf ty)) = xs[i]?) (hi : i < xs.length) (hc : P.cellsOf ty = 1) (ht : P.underlying ty = some (.int k)) {v : Value} (hv : cs[o]? = some v) : ∃ a : Int, v = .int k a ∧ (Lit.int k a).wf = true := by
  obtain ⟨y, hy⟩ := fld h hi hc hv
  obtain ⟨a, e, _, hw⟩ := DataW.trod_int ht hy
  simp only [List.cons.injEq, and_true] at e
  exact ⟨a, e, hw⟩
theorem fld_bool {H : Type} {enc : TypeId × Value → H} {P : Program} {w : World} {base : Nat} {spare : Nat → Bool} {held : Bool} {n i o : Nat} {ty : TypeId} {cs : List Value} {xs : List (DataW H × List MemPlace)}
    (h : DataW.trod enc P w base spare held n ty ((cs.drop o).take (P.cellsOf ty)) = xs[i]?) (hi : i < xs.length) (hc : P.cellsOf ty = 1) (ht : P.underlying ty = some .bool) {v : Value} (hv : cs[o]? = some v) : ∃ a : Bool, v = .bool a := by
  obtain ⟨y, hy⟩ := fld h hi hc hv
  obtain ⟨a, e, _⟩ := DataW.trod_bool ht hy
  simp only [List.cons.injEq, and_true] at e
  exact ⟨a, e⟩
theorem trod_voice {H : Type} {enc : TypeId × Value → H} {w : World} {base : Nat} {spare : Nat → Bool} {held : Bool} {m : Nat} {c0 c1 c2 c3 c4 : Value} {x : DataW H × List MemPlace} (h : DataW.trod enc Try.prog w base spare held m 33 [c0, c1, c2, c3, c4] = some x) :
    ∃ v : Vc, [c0, c1, c2, c3, c4] = vcs v ∧ v.ok := by
  have hU : Try.prog.cellsOf 23 = 1 := by kernel_rfl
  have hB : Try.prog.cellsOf 4 = 1 := by kernel_rfl
  have hE : Try.prog.cellsOf 5 = 1 := by kernel_rfl
  obtain ⟨xs, n, _, _, _, hlen, hfs⟩ := DataW.trod_struct Try.underlying33 h
  have hl5 : xs.length = 5 := hlen
  obtain ⟨a0, rfl, w0⟩ := fld_int (ty := 23) (o := 0) (v := c0) (hfs 0 _ rfl) (by omega) hU Try.underlying23 rfl
  obtain ⟨a1, rfl, w1⟩ := fld_int (ty := 23) (o := 1) (v := c1) (hfs 1 _ rfl) (by omega) hU Try.underlying23 rfl
  obtain ⟨a2, rfl, w2⟩ := fld_int (ty := 5) (o := 2) (v := c2) (hfs 2 _ rfl) (by omega) hE Try.underlying5 rfl
  obtain ⟨b3, rfl⟩ := fld_bool (ty := 4) (o := 3) (v := c3) (hfs 3 _ rfl) (by omega) hB Try.underlying4 rfl
  obtain ⟨a4, rfl, w4⟩ := fld_int (ty := 23) (o := 4) (v := c4) (hfs 4 _ rfl) (by omega) hU Try.underlying23 rfl
  exact ⟨⟨a0, a1, a2, b3, a4⟩, rfl, bounds_u16 w0, bounds_u16 w1, bounds_u8 w2, bounds_u16 w4⟩
/-- A voice that came in. -/
theorem open_voice {H : Type} {enc : TypeId × Value → H} {w : World} {base : Nat} {spare : Nat → Bool} {held : Bool} {r : Reach} {bb : Nat} {v : Value} {d : DataW H} {p : List MemPlace}
    (hv : Value.okWide Try.prog w r bb 33 v) (h : DataW.Trod enc Try.prog w base spare held 33 v d p) : ∃ x : Vc, v = (.agg #[.int .u16 x.p, .int .u16 x.c, .int .u8 x.l, .bool x.h, .int .u16 x.n]) ∧ x.ok := by
  have hC : Try.prog.cellsOf 33 = 5 := by kernel_rfl
  obtain ⟨cs, rfl, hsz⟩ := okWide_struct Try.underlying33 hv
  have h5 : ∃ c0 c1 c2 c3 c4, cs = #[c0, c1, c2, c3, c4] := by
    have := hsz.trans hC
    obtain ⟨l⟩ := cs
    match l, this with
    | [c0, c1, c2, c3, c4], _ => exact ⟨c0, c1, c2, c3, c4, rfl⟩
  obtain ⟨c0, c1, c2, c3, c4, rfl⟩ := h5
  obtain ⟨fuel, hf⟩ := h
  obtain ⟨x, e, hx⟩ := trod_voice hf
  exact ⟨x, by rw [show (#[c0, c1, c2, c3, c4] : Array Value) = [c0, c1, c2, c3, c4].toArray from rfl, e], hx⟩
set_option maxRecDepth 100000 in
/-- A sound that came in. -/
theorem open_sound {H : Type} {enc : TypeId × Value → H} {w : World} {base : Nat} {spare : Nat → Bool} {held : Bool} {r : Reach} {bb : Nat} {v : Value} {d : DataW H} {p : List MemPlace}
    (hv : Value.okWide Try.prog w r bb 36 v) (h : DataW.Trod enc Try.prog w base spare held 36 v d p) : ∃ s : Sd, v = (.agg #[.int .u16 s.a.p, .int .u16 s.a.c, .int .u8 s.a.l, .bool s.a.h, .int .u16 s.a.n, .int .u16 s.b.p, .int .u16 s.b.c, .int .u8 s.b.l, .bool s.b.h, .int .u16 s.b.n, .int .u16 s.c.p, .int .u16 s.c.c, .int .u8 s.c.l, .bool s.c.h, .int .u16 s.c.n, .int .i64 s.w]) ∧ s.ok ∧ (Lit.int .i64 s.w).wf = true := by
  have hC : Try.prog.cellsOf 36 = 16 := by kernel_rfl
  have hV : Try.prog.cellsOf 33 = 5 := by kernel_rfl
  have hI : Try.prog.cellsOf 3 = 1 := by kernel_rfl
  have hR : Try.prog.cellsOf 34 = 15 := by kernel_rfl
  obtain ⟨cs, rfl, hsz⟩ := okWide_struct Try.underlying36 hv
  have h16 : ∃ c0 c1 c2 c3 c4 c5 c6 c7 c8 c9 c10 c11 c12 c13 c14 c15, cs = #[c0, c1, c2, c3, c4, c5, c6, c7, c8, c9, c10, c11, c12, c13, c14, c15] := by
    have := hsz.trans hC
    obtain ⟨l⟩ := cs
    match l, this with
    | [c0, c1, c2, c3, c4, c5, c6, c7, c8, c9, c10, c11, c12, c13, c14, c15], _ => exact ⟨c0, c1, c2, c3, c4, c5, c6, c7, c8, c9, c10, c11, c12, c13, c14, c15, rfl⟩
  obtain ⟨c0, c1, c2, c3, c4, c5, c6, c7, c8, c9, c10, c11, c12, c13, c14, c15, rfl⟩ := h16
  obtain ⟨fuel, hf⟩ := h
  obtain ⟨xs, n, _, _, _, hlen, hfs⟩ := DataW.trod_struct Try.underlying36 hf
  have hl2 : xs.length = 2 := hlen
  have g0 : DataW.trod enc Try.prog w base spare held n 34 (([c0, c1, c2, c3, c4, c5, c6, c7, c8, c9, c10, c11, c12, c13, c14, c15].drop 0).take (Try.prog.cellsOf 34)) = xs[0]? := hfs 0 _ rfl
  rw [List.getElem?_eq_getElem (by omega), hR] at g0
  obtain ⟨ys, m, _, _, _, hyl, hys⟩ := DataW.trod_array under_three g0
  have y0 := hys 0 (by omega)
  have y1 := hys 1 (by omega)
  have y2 := hys 2 (by omega)
  rw [hV, List.getElem?_eq_getElem (by omega)] at y0 y1 y2
  obtain ⟨va, ea, ha⟩ := trod_voice (c0 := c0) (c1 := c1) (c2 := c2) (c3 := c3) (c4 := c4) y0
  obtain ⟨vb, eb, hb⟩ := trod_voice (c0 := c5) (c1 := c6) (c2 := c7) (c3 := c8) (c4 := c9) y1
  obtain ⟨vc, ec, hc⟩ := trod_voice (c0 := c10) (c1 := c11) (c2 := c12) (c3 := c13) (c4 := c14) y2
  obtain ⟨a15, rfl, w15⟩ := fld_int (ty := 3) (o := 15) (v := c15) (hfs 1 _ rfl) (by omega) hI Try.underlying3 rfl
  simp only [List.cons.injEq, and_true] at ea eb ec
  obtain ⟨rfl, rfl, rfl, rfl, rfl⟩ := ea
  obtain ⟨rfl, rfl, rfl, rfl, rfl⟩ := eb
  obtain ⟨rfl, rfl, rfl, rfl, rfl⟩ := ec
  exact ⟨⟨va, vb, vc, a15⟩, rfl, ⟨ha, hb, hc⟩, w15⟩
theorem list2 {s : List Value} (h : s.length = 2) : ∃ c0 c1, s = [c0, c1] := by
  match s, h with
  | [c0, c1], _ => exact ⟨c0, c1, rfl⟩
theorem list3 {s : List Value} (h : s.length = 3) : ∃ c0 c1 c2, s = [c0, c1, c2] := by
  match s, h with
  | [c0, c1, c2], _ => exact ⟨c0, c1, c2, rfl⟩
theorem list4 {s : List Value} (h : s.length = 4) : ∃ c0 c1 c2 c3, s = [c0, c1, c2, c3] := by
  match s, h with
  | [c0, c1, c2, c3], _ => exact ⟨c0, c1, c2, c3, rfl⟩
theorem list6 {s : List Value} (h : s.length = 6) : ∃ c0 c1 c2 c3 c4 c5, s = [c0, c1, c2, c3, c4, c5] := by
  match s, h with
  | [c0, c1, c2, c3, c4, c5], _ => exact ⟨c0, c1, c2, c3, c4, c5, rfl⟩
theorem list15 {s : List Value} (h : s.length = 15) : ∃ c0 c1 c2 c3 c4 c5 c6 c7 c8 c9 c10 c11 c12 c13 c14, s = [c0, c1, c2, c3, c4, c5, c6, c7, c8, c9, c10, c11, c12, c13, c14] := by
  match s, h with
  | [c0, c1, c2, c3, c4, c5, c6, c7, c8, c9, c10, c11, c12, c13, c14], _ => exact ⟨c0, c1, c2, c3, c4, c5, c6, c7, c8, c9, c10, c11, c12, c13, c14, rfl⟩
theorem list16 {s : List Value} (h : s.length = 16) : ∃ c0 c1 c2 c3 c4 c5 c6 c7 c8 c9 c10 c11 c12 c13 c14 c15, s = [c0, c1, c2, c3, c4, c5, c6, c7, c8, c9, c10, c11, c12, c13, c14, c15] := by
  match s, h with
  | [c0, c1, c2, c3, c4, c5, c6, c7, c8, c9, c10, c11, c12, c13, c14, c15], _ => exact ⟨c0, c1, c2, c3, c4, c5, c6, c7, c8, c9, c10, c11, c12, c13, c14, c15, rfl⟩
set_option maxRecDepth 100000 in
theorem opn_cpu {H : Type} {enc : TypeId × Value → H} {w : World} {base : Nat} {spare : Nat → Bool} {held : Bool} {n : Nat} {x : DataW H × List MemPlace} {s : List Value} (h : DataW.trod enc Try.prog w base spare held n 26 s = some x) (hs : s.length = 15) : ∃ c : C.Cpu, s = cpuL c ∧ c.ok := by
  have hU : Try.prog.cellsOf 23 = 1 := by kernel_rfl
  have hB : Try.prog.cellsOf 4 = 1 := by kernel_rfl
  have hE : Try.prog.cellsOf 5 = 1 := by kernel_rfl
  have hI : Try.prog.cellsOf 3 = 1 := by kernel_rfl
  have hR : Try.prog.cellsOf 24 = 8 := by kernel_rfl
  obtain ⟨c0, c1, c2, c3, c4, c5, c6, c7, c8, c9, c10, c11, c12, c13, c14, rfl⟩ := list15 hs
  obtain ⟨xs, m, _, _, _, hlen, hfs⟩ := DataW.trod_struct Try.underlying26 h
  have hl8 : xs.length = 8 := hlen
  have g0 : DataW.trod enc Try.prog w base spare held m 24 (([c0, c1, c2, c3, c4, c5, c6, c7, c8, c9, c10, c11, c12, c13, c14].drop 0).take (Try.prog.cellsOf 24)) = xs[0]? := hfs 0 _ rfl
  rw [List.getElem?_eq_getElem (by omega)] at g0
  obtain ⟨ys, k, _, _, _, hyl, hys⟩ := DataW.trod_array Try.underlying24 g0
  obtain ⟨a0, rfl, w0⟩ := fld_int (o := 0 * Try.prog.cellsOf 23) (v := c0) (hys 0 (by omega)) (by omega) hU Try.underlying23 (by rw [hU, hR]; rfl)
  obtain ⟨a1, rfl, w1⟩ := fld_int (o := 1 * Try.prog.cellsOf 23) (v := c1) (hys 1 (by omega)) (by omega) hU Try.underlying23 (by rw [hU, hR]; rfl)
  obtain ⟨a2, rfl, w2⟩ := fld_int (o := 2 * Try.prog.cellsOf 23) (v := c2) (hys 2 (by omega)) (by omega) hU Try.underlying23 (by rw [hU, hR]; rfl)
  obtain ⟨a3, rfl, w3⟩ := fld_int (o := 3 * Try.prog.cellsOf 23) (v := c3) (hys 3 (by omega)) (by omega) hU Try.underlying23 (by rw [hU, hR]; rfl)
  obtain ⟨a4, rfl, w4⟩ := fld_int (o := 4 * Try.prog.cellsOf 23) (v := c4) (hys 4 (by omega)) (by omega) hU Try.underlying23 (by rw [hU, hR]; rfl)
  obtain ⟨a5, rfl, w5⟩ := fld_int (o := 5 * Try.prog.cellsOf 23) (v := c5) (hys 5 (by omega)) (by omega) hU Try.underlying23 (by rw [hU, hR]; rfl)
  obtain ⟨a6, rfl, w6⟩ := fld_int (o := 6 * Try.prog.cellsOf 23) (v := c6) (hys 6 (by omega)) (by omega) hU Try.underlying23 (by rw [hU, hR]; rfl)
  obtain ⟨a7, rfl, w7⟩ := fld_int (o := 7 * Try.prog.cellsOf 23) (v := c7) (hys 7 (by omega)) (by omega) hU Try.underlying23 (by rw [hU, hR]; rfl)
  obtain ⟨a8, rfl, wa8⟩ := fld_int (ty := 23) (o := 8) (v := c8) (hfs 1 _ rfl) (by omega) hU Try.underlying23 rfl
  obtain ⟨b0, rfl⟩ := fld_bool (ty := 4) (o := 9) (v := c9) (hfs 2 _ rfl) (by omega) hB Try.underlying4 rfl
  obtain ⟨b1, rfl⟩ := fld_bool (ty := 4) (o := 10) (v := c10) (hfs 3 _ rfl) (by omega) hB Try.underlying4 rfl
  obtain ⟨b2, rfl⟩ := fld_bool (ty := 4) (o := 11) (v := c11) (hfs 4 _ rfl) (by omega) hB Try.underlying4 rfl
  obtain ⟨b3, rfl⟩ := fld_bool (ty := 4) (o := 12) (v := c12) (hfs 5 _ rfl) (by omega) hB Try.underlying4 rfl
  obtain ⟨b4, rfl⟩ := fld_bool (ty := 4) (o := 13) (v := c13) (hfs 6 _ rfl) (by omega) hB Try.underlying4 rfl
  obtain ⟨b5, rfl⟩ := fld_bool (ty := 4) (o := 14) (v := c14) (hfs 7 _ rfl) (by omega) hB Try.underlying4 rfl
  refine ⟨⟨[a0, a1, a2, a3, a4, a5, a6, a7], a8, b0, b1, b2, b3, b4, b5⟩, rfl, rfl, fun z hz => ?_, (bounds_u16 wa8).1, (bounds_u16 wa8).2⟩
  simp only [List.mem_cons, List.not_mem_nil, or_false] at hz
  rcases hz with rfl | rfl | rfl | rfl | rfl | rfl | rfl | rfl
  · exact bounds_u16 w0
  · exact bounds_u16 w1
  · exact bounds_u16 w2
  · exact bounds_u16 w3
  · exact bounds_u16 w4
  · exact bounds_u16 w5
  · exact bounds_u16 w6
  · exact bounds_u16 w7
theorem opn_pad {H : Type} {enc : TypeId × Value → H} {w : World} {base : Nat} {spare : Nat → Bool} {held : Bool} {n : Nat} {x : DataW H × List MemPlace} {s : List Value} (h : DataW.trod enc Try.prog w base spare held n 28 s = some x) (hs : s.length = 3) : ∃ p : Pd, s = [.int .u8 p.d, .bool p.l, .int .u8 p.s] ∧ p.ok := by
  have hU : Try.prog.cellsOf 23 = 1 := by kernel_rfl
  have hB : Try.prog.cellsOf 4 = 1 := by kernel_rfl
  have hE : Try.prog.cellsOf 5 = 1 := by kernel_rfl
  have hI : Try.prog.cellsOf 3 = 1 := by kernel_rfl
  obtain ⟨c0, c1, c2, rfl⟩ := list3 hs
  obtain ⟨xs, m, _, _, _, hlen, hfs⟩ := DataW.trod_struct Try.underlying28 h
  have hl : xs.length = 3 := hlen
  obtain ⟨a0, rfl, wa0⟩ := fld_int (ty := 5) (o := 0) (v := c0) (hfs 0 _ rfl) (by omega) hE Try.underlying5 rfl
  obtain ⟨b1, rfl⟩ := fld_bool (ty := 4) (o := 1) (v := c1) (hfs 1 _ rfl) (by omega) hB Try.underlying4 rfl
  obtain ⟨a2, rfl, wa2⟩ := fld_int (ty := 5) (o := 2) (v := c2) (hfs 2 _ rfl) (by omega) hE Try.underlying5 rfl
  exact ⟨⟨a0, b1, a2⟩, rfl, bounds_u8 wa0, bounds_u8 wa2⟩
theorem opn_pads {H : Type} {enc : TypeId × Value → H} {w : World} {base : Nat} {spare : Nat → Bool} {held : Bool} {n : Nat} {x : DataW H × List MemPlace} {s : List Value} (h : DataW.trod enc Try.prog w base spare held n 29 s = some x) (hs : s.length = 6) : ∃ p q : Pd, s = [.int .u8 p.d, .bool p.l, .int .u8 p.s, .int .u8 q.d, .bool q.l, .int .u8 q.s] ∧ p.ok ∧ q.ok := by
  have hV : Try.prog.cellsOf 28 = 3 := by kernel_rfl
  obtain ⟨c0, c1, c2, c3, c4, c5, rfl⟩ := list6 hs
  obtain ⟨ys, m, _, _, _, hyl, hys⟩ := DataW.trod_array Try.underlying29 h
  have y0 := hys 0 (by omega)
  have y1 := hys 1 (by omega)
  rw [hV, List.getElem?_eq_getElem (by omega)] at y0 y1
  obtain ⟨p, ep, hp⟩ := opn_pad (s := [c0, c1, c2]) y0 rfl
  obtain ⟨q, eq, hq⟩ := opn_pad (s := [c3, c4, c5]) y1 rfl
  simp only [List.cons.injEq, and_true] at ep eq
  obtain ⟨rfl, rfl, rfl⟩ := ep
  obtain ⟨rfl, rfl, rfl⟩ := eq
  exact ⟨p, q, rfl, hp, hq⟩
theorem opn_timer {H : Type} {enc : TypeId × Value → H} {w : World} {base : Nat} {spare : Nat → Bool} {held : Bool} {n : Nat} {x : DataW H × List MemPlace} {s : List Value} (h : DataW.trod enc Try.prog w base spare held n 31 s = some x) (hs : s.length = 4) : ∃ t : TM, s = [.int .u16 t.r, .int .u16 t.c, .bool t.on, .bool t.g] ∧ bd16 t.r ∧ bd16 t.c := by
  have hU : Try.prog.cellsOf 23 = 1 := by kernel_rfl
  have hB : Try.prog.cellsOf 4 = 1 := by kernel_rfl
  have hE : Try.prog.cellsOf 5 = 1 := by kernel_rfl
  have hI : Try.prog.cellsOf 3 = 1 := by kernel_rfl
  obtain ⟨c0, c1, c2, c3, rfl⟩ := list4 hs
  obtain ⟨xs, m, _, _, _, hlen, hfs⟩ := DataW.trod_struct Try.underlying31 h
  have hl : xs.length = 4 := hlen
  obtain ⟨a0, rfl, wa0⟩ := fld_int (ty := 23) (o := 0) (v := c0) (hfs 0 _ rfl) (by omega) hU Try.underlying23 rfl
  obtain ⟨a1, rfl, wa1⟩ := fld_int (ty := 23) (o := 1) (v := c1) (hfs 1 _ rfl) (by omega) hU Try.underlying23 rfl
  obtain ⟨b2, rfl⟩ := fld_bool (ty := 4) (o := 2) (v := c2) (hfs 2 _ rfl) (by omega) hB Try.underlying4 rfl
  obtain ⟨b3, rfl⟩ := fld_bool (ty := 4) (o := 3) (v := c3) (hfs 3 _ rfl) (by omega) hB Try.underlying4 rfl
  exact ⟨⟨a0, a1, b2, b3⟩, rfl, bounds_u16 wa0, bounds_u16 wa1⟩
theorem opn_beam {H : Type} {enc : TypeId × Value → H} {w : World} {base : Nat} {spare : Nat → Bool} {held : Bool} {n : Nat} {x : DataW H × List MemPlace} {s : List Value} (h : DataW.trod enc Try.prog w base spare held n 38 s = some x) (hs : s.length = 4) : ∃ b : Bem, s = [.int .i64 b.l, .int .i64 b.a, .bool b.g, .int .i64 b.f] := by
  have hU : Try.prog.cellsOf 23 = 1 := by kernel_rfl
  have hB : Try.prog.cellsOf 4 = 1 := by kernel_rfl
  have hE : Try.prog.cellsOf 5 = 1 := by kernel_rfl
  have hI : Try.prog.cellsOf 3 = 1 := by kernel_rfl
  obtain ⟨c0, c1, c2, c3, rfl⟩ := list4 hs
  obtain ⟨xs, m, _, _, _, hlen, hfs⟩ := DataW.trod_struct Try.underlying38 h
  have hl : xs.length = 4 := hlen
  obtain ⟨a0, rfl, wa0⟩ := fld_int (ty := 3) (o := 0) (v := c0) (hfs 0 _ rfl) (by omega) hI Try.underlying3 rfl
  obtain ⟨a1, rfl, wa1⟩ := fld_int (ty := 3) (o := 1) (v := c1) (hfs 1 _ rfl) (by omega) hI Try.underlying3 rfl
  obtain ⟨b2, rfl⟩ := fld_bool (ty := 4) (o := 2) (v := c2) (hfs 2 _ rfl) (by omega) hB Try.underlying4 rfl
  obtain ⟨a3, rfl, wa3⟩ := fld_int (ty := 3) (o := 3) (v := c3) (hfs 3 _ rfl) (by omega) hI Try.underlying3 rfl
  exact ⟨⟨a0, a1, b2, a3⟩, rfl⟩
theorem opn_mail {H : Type} {enc : TypeId × Value → H} {w : World} {base : Nat} {spare : Nat → Bool} {held : Bool} {n : Nat} {x : DataW H × List MemPlace} {s : List Value} (h : DataW.trod enc Try.prog w base spare held n 39 s = some x) (hs : s.length = 2) : ∃ a b : Int, s = [.int .u8 a, .int .u8 b] ∧ bd8 a ∧ bd8 b := by
  have hU : Try.prog.cellsOf 23 = 1 := by kernel_rfl
  have hB : Try.prog.cellsOf 4 = 1 := by kernel_rfl
  have hE : Try.prog.cellsOf 5 = 1 := by kernel_rfl
  have hI : Try.prog.cellsOf 3 = 1 := by kernel_rfl
  obtain ⟨c0, c1, rfl⟩ := list2 hs
  obtain ⟨ys, k, _, _, _, hyl, hys⟩ := DataW.trod_array Try.underlying39 h
  obtain ⟨a0, rfl, w0⟩ := fld_int (o := 0 * Try.prog.cellsOf 5) (v := c0) (hys 0 (by omega)) (by omega) hE Try.underlying5 (by rw [hE]; rfl)
  obtain ⟨a1, rfl, w1⟩ := fld_int (o := 1 * Try.prog.cellsOf 5) (v := c1) (hys 1 (by omega)) (by omega) hE Try.underlying5 (by rw [hE]; rfl)
  exact ⟨a0, a1, rfl, bounds_u8 w0, bounds_u8 w1⟩
set_option maxRecDepth 100000 in
theorem opn_sound {H : Type} {enc : TypeId × Value → H} {w : World} {base : Nat} {spare : Nat → Bool} {held : Bool} {n : Nat} {x : DataW H × List MemPlace} {s : List Value} (h : DataW.trod enc Try.prog w base spare held n 36 s = some x) (hs : s.length = 16) : ∃ d : Sd, s = sndL d ∧ d.ok := by
  have hU : Try.prog.cellsOf 23 = 1 := by kernel_rfl
  have hB : Try.prog.cellsOf 4 = 1 := by kernel_rfl
  have hE : Try.prog.cellsOf 5 = 1 := by kernel_rfl
  have hI : Try.prog.cellsOf 3 = 1 := by kernel_rfl
  have hV : Try.prog.cellsOf 33 = 5 := by kernel_rfl
  have hR : Try.prog.cellsOf 34 = 15 := by kernel_rfl
  obtain ⟨c0, c1, c2, c3, c4, c5, c6, c7, c8, c9, c10, c11, c12, c13, c14, c15, rfl⟩ := list16 hs
  obtain ⟨xs, k, _, _, _, hlen, hfs⟩ := DataW.trod_struct Try.underlying36 h
  have hl2 : xs.length = 2 := hlen
  have g0 : DataW.trod enc Try.prog w base spare held k 34 (([c0, c1, c2, c3, c4, c5, c6, c7, c8, c9, c10, c11, c12, c13, c14, c15].drop 0).take (Try.prog.cellsOf 34)) = xs[0]? := hfs 0 _ rfl
  rw [List.getElem?_eq_getElem (by omega), hR] at g0
  obtain ⟨ys, m, _, _, _, hyl, hys⟩ := DataW.trod_array under_three g0
  have y0 := hys 0 (by omega)
  have y1 := hys 1 (by omega)
  have y2 := hys 2 (by omega)
  rw [hV, List.getElem?_eq_getElem (by omega)] at y0 y1 y2
  obtain ⟨va, ea, ha⟩ := trod_voice (c0 := c0) (c1 := c1) (c2 := c2) (c3 := c3) (c4 := c4) y0
  obtain ⟨vb, eb, hb⟩ := trod_voice (c0 := c5) (c1 := c6) (c2 := c7) (c3 := c8) (c4 := c9) y1
  obtain ⟨vc, ec, hc⟩ := trod_voice (c0 := c10) (c1 := c11) (c2 := c12) (c3 := c13) (c4 := c14) y2
  obtain ⟨a15, rfl, w15⟩ := fld_int (ty := 3) (o := 15) (v := c15) (hfs 1 _ rfl) (by omega) hI Try.underlying3 rfl
  simp only [List.cons.injEq, and_true] at ea eb ec
  obtain ⟨rfl, rfl, rfl, rfl, rfl⟩ := ea
  obtain ⟨rfl, rfl, rfl, rfl, rfl⟩ := eb
  obtain ⟨rfl, rfl, rfl, rfl, rfl⟩ := ec
  exact ⟨⟨va, vb, vc, a15⟩, rfl, ⟨ha, hb, hc⟩⟩
set_option maxRecDepth 100000 in
/-- Bytes that came in, in a field. -/
theorem opn_bytes {H : Type} {enc : TypeId × Value → H} {W : World} {v : Value} {n : Nat} {x : DataW H × List MemPlace} (hf : DataW.trod enc Try.prog W 0 (fun _ => true) true n 22 [v] = some x) : ∃ l, sliceAt W v l ∧ l.length ≤ maxLen := by
  have c1 : Try.prog.cellsOf 5 = 1 := by kernel_rfl
  rcases open_ints Try.underlying22 Try.underlying5 c1 hf with ⟨hc, _⟩ | ⟨ad, len', cap', zs, hc, _, hl, hm, hz, _, hcell, hwf⟩
  · have e : v = .slice none 0 0 := by simpa using hc
    rw [e]
    exact ⟨[], Or.inl ⟨none, 0, rfl, rfl⟩, by simp⟩
  · have e : v = .slice (some ad) len' cap' := by simpa using hc
    rw [e]
    simp only [if_true] at hz
    by_cases h0 : len' = 0
    · subst h0
      exact ⟨[], Or.inl ⟨some ad, cap', rfl, rfl⟩, by simp⟩
    · have hs := Pl.spot (hcell 0 (by omega))
      obtain ⟨g, o, sp⟩ := ad
      have hs' : sp = none := by
        cases sp with
        | none => rfl
        | some x => simp [Addr.add] at hs
      subst hs'
      refine ⟨(zs.take len').map (fun z => UInt8.ofNat z.toNat), Or.inr ⟨g, o, cap', by rw [List.length_map, List.length_take, Nat.min_eq_left (by omega)], by rw [List.length_map, List.length_take]; omega, World.block_lt_of_cell? W _ (hcell 0 (by omega)), fun j c hj => ?_⟩, by rw [List.length_map, List.length_take]; omega⟩
      rw [List.getElem?_map] at hj
      obtain ⟨z, hz1, hz2⟩ := Option.map_eq_some_iff.1 hj
      have hjl : j < len' := by
        have := (List.getElem?_eq_some_iff.1 hz1).1
        rw [List.length_take] at this; omega
      rw [List.getElem?_take_of_lt hjl] at hz1
      have hzj : j < zs.length := (List.getElem?_eq_some_iff.1 hz1).1
      have hw := bounds_u8 (hwf z (List.mem_of_getElem? hz1))
      have := hcell j hzj
      rw [addr_add, show zs.getD j 0 = z by simp [List.getD, hz1]] at this
      rw [this, ← hz2]
      rw [show (UInt8.ofNat z.toNat).toNat = z.toNat by simp; omega, show ((z.toNat : Nat) : Int) = z by omega]
theorem sub_some {H : Type} {enc : TypeId × Value → H} {P : Program} {w : World} {base : Nat} {spare : Nat → Bool} {held : Bool} {n i o k : Nat} {ty : TypeId} {cs : List Value} {xs : List (DataW H × List MemPlace)}
    (h : DataW.trod enc P w base spare held n ty ((cs.drop o).take (P.cellsOf ty)) = xs[i]?) (hi : i < xs.length) (hc : P.cellsOf ty = k) : ∃ y, DataW.trod enc P w base spare held n ty ((cs.drop o).take k) = some y := by
  rw [hc, List.getElem?_eq_getElem hi] at h
  exact ⟨_, h⟩
theorem step_list {cs : List Value} (o k : Nat) (h : o + k ≤ cs.length) : cs.drop o = (cs.drop o).take k ++ cs.drop (o + k) := by
  rw [← List.drop_drop]; exact (List.take_append_drop k _).symm
theorem chain_list {l R : List Value} {n k m : Nat} (hm : n + k = m) (h : l.drop m = R) : l.drop n = (l.drop n).take k ++ R := by
  subst hm
  rw [← h, ← List.drop_drop]
  exact (List.take_append_drop k _).symm
theorem last_list {l : List Value} {n k : Nat} (h : l.length ≤ n + k) : l.drop n = (l.drop n).take k := (List.take_of_length_le (by rw [List.length_drop]; omega)).symm
theorem get_list {cs : List Value} (o : Nat) (h : o < cs.length) : ∃ v, cs[o]? = some v ∧ (cs.drop o).take 1 = [v] := ⟨cs[o], List.getElem?_eq_getElem h, by rw [List.take_one, List.head?_drop, List.getElem?_eq_getElem h]; rfl⟩
set_option maxRecDepth 100000 in
set_option maxHeartbeats 800000 in
/-- A machine that came in. -/
theorem open_mach {H : Type} {enc : TypeId × Value → H} {W : World} {base : Nat} {v : Value} {d : DataW H} {p : List MemPlace} (hv : Value.okWide Try.prog W .any base 41 v) (h : DataW.Trod enc Try.prog W 0 (fun _ => true) true 41 v d p) :
    ∃ (M : Mach) (S : Sl), v = .agg (machL M S).toArray ∧ M.ok ∧ SlAt W S M ∧ ∀ j, j < 5 → (M.byt j).length ≤ maxLen := by
  have hU : Try.prog.cellsOf 23 = 1 := by kernel_rfl
  have hB : Try.prog.cellsOf 4 = 1 := by kernel_rfl
  have hE : Try.prog.cellsOf 5 = 1 := by kernel_rfl
  have hI : Try.prog.cellsOf 3 = 1 := by kernel_rfl
  have hM : Try.prog.cellsOf 41 = 75 := by kernel_rfl
  obtain ⟨cs, rfl, hsz⟩ := okWide_struct Try.underlying41 hv
  obtain ⟨l⟩ := cs
  have hl : l.length = 75 := hsz.trans hM
  obtain ⟨fuel, hf0⟩ := h
  have hf : DataW.trod enc Try.prog W 0 (fun _ => true) true fuel 41 l = some (d, p) := hf0
  obtain ⟨xs, m, _, _, _, hlen, hfs⟩ := DataW.trod_struct Try.underlying41 hf
  have hx : xs.length = 20 := hlen
  obtain ⟨y0, g0⟩ := sub_some (ty := 26) (o := 0) (k := 15) (hfs 0 _ rfl) (by omega) (by kernel_rfl)
  obtain ⟨m0, e0, k0⟩ := opn_cpu g0 (by simp [hl])
  obtain ⟨y1, g1⟩ := sub_some (ty := 26) (o := 15) (k := 15) (hfs 1 _ rfl) (by omega) (by kernel_rfl)
  obtain ⟨m1, e1, k1⟩ := opn_cpu g1 (by simp [hl])
  obtain ⟨u2, r2, e2⟩ := get_list (cs := l) 30 (by omega)
  obtain ⟨y2, g2⟩ := sub_some (ty := 22) (o := 30) (k := 1) (hfs 2 _ rfl) (by omega) (by kernel_rfl)
  rw [e2] at g2
  obtain ⟨m2, k2, q2⟩ := opn_bytes g2
  obtain ⟨u3, r3, e3⟩ := get_list (cs := l) 31 (by omega)
  obtain ⟨y3, g3⟩ := sub_some (ty := 22) (o := 31) (k := 1) (hfs 3 _ rfl) (by omega) (by kernel_rfl)
  rw [e3] at g3
  obtain ⟨m3, k3, q3⟩ := opn_bytes g3
  obtain ⟨u4, r4, e4⟩ := get_list (cs := l) 32 (by omega)
  obtain ⟨y4, g4⟩ := sub_some (ty := 22) (o := 32) (k := 1) (hfs 4 _ rfl) (by omega) (by kernel_rfl)
  rw [e4] at g4
  obtain ⟨m4, k4, q4⟩ := opn_bytes g4
  obtain ⟨u5, r5, e5⟩ := get_list (cs := l) 33 (by omega)
  obtain ⟨y5, g5⟩ := sub_some (ty := 22) (o := 33) (k := 1) (hfs 5 _ rfl) (by omega) (by kernel_rfl)
  rw [e5] at g5
  obtain ⟨m5, k5, q5⟩ := opn_bytes g5
  obtain ⟨u6, r6, e6⟩ := get_list (cs := l) 34 (by omega)
  obtain ⟨y6, g6⟩ := sub_some (ty := 22) (o := 34) (k := 1) (hfs 6 _ rfl) (by omega) (by kernel_rfl)
  rw [e6] at g6
  obtain ⟨m6, k6, q6⟩ := opn_bytes g6
  obtain ⟨y7, g7⟩ := sub_some (ty := 29) (o := 35) (k := 6) (hfs 7 _ rfl) (by omega) (by kernel_rfl)
  obtain ⟨m7, n7, e7, k7, q7⟩ := opn_pads g7 (by simp [hl])
  obtain ⟨y8, g8⟩ := sub_some (ty := 31) (o := 41) (k := 4) (hfs 8 _ rfl) (by omega) (by kernel_rfl)
  obtain ⟨m8, e8, k8, q8⟩ := opn_timer g8 (by simp [hl])
  obtain ⟨y9, g9⟩ := sub_some (ty := 36) (o := 45) (k := 16) (hfs 9 _ rfl) (by omega) (by kernel_rfl)
  obtain ⟨m9, e9, k9⟩ := opn_sound g9 (by simp [hl])
  obtain ⟨y10, g10⟩ := sub_some (ty := 38) (o := 61) (k := 4) (hfs 10 _ rfl) (by omega) (by kernel_rfl)
  obtain ⟨m10, e10⟩ := opn_beam g10 (by simp [hl])
  obtain ⟨u11, r11, e11⟩ := get_list (cs := l) 65 (by omega)
  obtain ⟨m11, rfl, w11⟩ := fld_int (ty := 23) (o := 65) (hfs 11 _ rfl) (by omega) hU Try.underlying23 r11
  obtain ⟨u12, r12, e12⟩ := get_list (cs := l) 66 (by omega)
  obtain ⟨m12, rfl, w12⟩ := fld_int (ty := 23) (o := 66) (hfs 12 _ rfl) (by omega) hU Try.underlying23 r12
  obtain ⟨u13, r13, e13⟩ := get_list (cs := l) 67 (by omega)
  obtain ⟨m13, rfl⟩ := fld_bool (ty := 4) (o := 67) (hfs 13 _ rfl) (by omega) hB Try.underlying4 r13
  obtain ⟨u14, r14, e14⟩ := get_list (cs := l) 68 (by omega)
  obtain ⟨m14, rfl⟩ := fld_bool (ty := 4) (o := 68) (hfs 14 _ rfl) (by omega) hB Try.underlying4 r14
  obtain ⟨y15, g15⟩ := sub_some (ty := 39) (o := 69) (k := 2) (hfs 15 _ rfl) (by omega) (by kernel_rfl)
  obtain ⟨m15, n15, e15, k15, q15⟩ := opn_mail g15 (by simp [hl])
  obtain ⟨u16, r16, e16⟩ := get_list (cs := l) 71 (by omega)
  obtain ⟨m16, rfl⟩ := fld_bool (ty := 4) (o := 71) (hfs 16 _ rfl) (by omega) hB Try.underlying4 r16
  obtain ⟨u17, r17, e17⟩ := get_list (cs := l) 72 (by omega)
  obtain ⟨m17, rfl, w17⟩ := fld_int (ty := 3) (o := 72) (hfs 17 _ rfl) (by omega) hI Try.underlying3 r17
  obtain ⟨u18, r18, e18⟩ := get_list (cs := l) 73 (by omega)
  obtain ⟨m18, rfl, w18⟩ := fld_int (ty := 3) (o := 73) (hfs 18 _ rfl) (by omega) hI Try.underlying3 r18
  obtain ⟨u19, r19, e19⟩ := get_list (cs := l) 74 (by omega)
  obtain ⟨m19, rfl, w19⟩ := fld_int (ty := 3) (o := 74) (hfs 19 _ rfl) (by omega) hI Try.underlying3 r19
  have hL : l = (l.drop 0).take 15 ++ ((l.drop 15).take 15 ++ ((l.drop 30).take 1 ++ ((l.drop 31).take 1 ++ ((l.drop 32).take 1 ++ ((l.drop 33).take 1 ++ ((l.drop 34).take 1 ++ ((l.drop 35).take 6 ++ ((l.drop 41).take 4 ++ ((l.drop 45).take 16 ++ ((l.drop 61).take 4 ++ ((l.drop 65).take 1 ++ ((l.drop 66).take 1 ++ ((l.drop 67).take 1 ++ ((l.drop 68).take 1 ++ ((l.drop 69).take 2 ++ ((l.drop 71).take 1 ++ ((l.drop 72).take 1 ++ ((l.drop 73).take 1 ++ ((l.drop 74).take 1))))))))))))))))))) :=
    List.drop_zero.symm.trans (chain_list (n := 0) (m := 15) rfl (chain_list (n := 15) (m := 30) rfl (chain_list (n := 30) (m := 31) rfl (chain_list (n := 31) (m := 32) rfl (chain_list (n := 32) (m := 33) rfl (chain_list (n := 33) (m := 34) rfl (chain_list (n := 34) (m := 35) rfl (chain_list (n := 35) (m := 41) rfl (chain_list (n := 41) (m := 45) rfl (chain_list (n := 45) (m := 61) rfl (chain_list (n := 61) (m := 65) rfl (chain_list (n := 65) (m := 66) rfl (chain_list (n := 66) (m := 67) rfl (chain_list (n := 67) (m := 68) rfl (chain_list (n := 68) (m := 69) rfl (chain_list (n := 69) (m := 71) rfl (chain_list (n := 71) (m := 72) rfl (chain_list (n := 72) (m := 73) rfl (chain_list (n := 73) (m := 74) rfl (last_list (by omega)))))))))))))))))))))
  rw [e0, e1, e2, e3, e4, e5, e6, e7, e8, e9, e10, e11, e12, e13, e14, e15, e16, e17, e18, e19] at hL
  refine ⟨⟨m0, m1, m2, m3, m4, m5, m6, m7, n7, m8, m9, m10, m11, m12, m13, m14, m15, n15, m16, m17, m18, m19⟩, ⟨u2, u3, u4, u5, u6⟩, by rw [hL]; rfl, ⟨k0, k1, k7, q7, k8, q8, k9, bounds_u16 w11, bounds_u16 w12, k15, q15⟩, fun j hj => ?_, fun j hj => ?_⟩
  · rcases five hj with rfl | rfl | rfl | rfl | rfl
    · exact k2
    · exact k3
    · exact k4
    · exact k5
    · exact k6
  · rcases five hj with rfl | rfl | rfl | rfl | rfl
    · exact q2
    · exact q3
    · exact q4
    · exact q5
    · exact q6
theorem opn_len {H : Type} {enc : TypeId × Value → H} {W : World} {v : Value} {x : DataW H × List MemPlace} {fuel : Nat} (hf : DataW.trod enc Try.prog W 0 (fun _ => true) true fuel 22 [v] = some x) (hw : ∀ n ∈ x.1.weights Try.prog 22, n ≤ reachBytes) : ∃ a k c, v = .slice a k c ∧ k ≤ reachBytes := by
  have c1 : Try.prog.cellsOf 5 = 1 := by kernel_rfl
  have b1 : Try.prog.bytesOf 5 = 1 := by kernel_rfl
  rcases open_ints Try.underlying22 Try.underlying5 c1 hf with ⟨hc, _⟩ | ⟨ad, len', cap', zs, hc, _, hle, hm, hz, hx, hcell, hwf⟩
  · exact ⟨none, 0, 0, by simpa using hc, Nat.zero_le _⟩
  · refine ⟨some ad, len', cap', by simpa using hc, ?_⟩
    simp only [if_true] at hz
    have := hw (((lits (H := H) .u8 (zs.take len')).length + (lits (H := H) .u8 (zs.drop len')).length) * Try.prog.bytesOf 5) (by rw [hx]; simp [DataW.weights, Try.underlying22])
    simp only [lits, List.length_map, b1, List.length_take, List.length_drop] at this
    omega
set_option maxRecDepth 100000 in
theorem mach_lens {H : Type} {enc : TypeId × Value → H} {W : World} {M : Mach} {S : Sl} {d : DataW H} {p : List MemPlace} (h : DataW.Trod enc Try.prog W 0 (fun _ => true) true 41 (.agg (machL M S).toArray) d p) (hw : ∀ n ∈ d.weights Try.prog 41, n ≤ reachBytes) (hs : S.lens M) :
    ∀ j, j < 5 → (M.byt j).length ≤ 140737488355328 := by
  obtain ⟨fuel, hf0⟩ := h
  have hf : DataW.trod enc Try.prog W 0 (fun _ => true) true fuel 41 (machL M S) = some (d, p) := hf0
  obtain ⟨xs, m, _, hx, _, hlen, hfs⟩ := DataW.trod_struct Try.underlying41 hf
  have hl : xs.length = 20 := hlen
  simp only [Prod.mk.injEq] at hx
  have hU : Try.prog.cellsOf 22 = 1 := by kernel_rfl
  have hR := reachBytes_lt
  have key : ∀ (j : Nat) (i : Nat) (hi : i < 20), (DataW.trod enc Try.prog W 0 (fun _ => true) true m 22 (((machL M S).drop (30 + j)).take (Try.prog.cellsOf 22)) = xs[i]?) → (∀ (y : DataW H × List MemPlace), xs[i]? = some y → ∀ n ∈ y.1.weights Try.prog 22, n ∈ d.weights Try.prog 41) → j < 5 → (M.byt j).length ≤ 140737488355328 := fun j i hi g hsub hj => by
    have hat := machL_at M S j hj
    have ht : ((machL M S).drop (30 + j)).take 1 = [S.get j] := by rw [List.take_one, List.head?_drop, hat]; rfl
    rw [hU, ht, List.getElem?_eq_getElem (by omega)] at g
    obtain ⟨a, k, c, e, hk⟩ := opn_len g (fun n hn => hw n (hsub _ (List.getElem?_eq_getElem (by omega)) n hn))
    obtain ⟨a', c', e'⟩ := hs j hj
    rw [e] at e'
    simp only [Value.slice.injEq] at e'
    omega
  have hd : ∀ (i : Nat) (y : DataW H × List MemPlace), xs[i]? = some y → (i = 2 ∨ i = 3 ∨ i = 4 ∨ i = 5 ∨ i = 6) → ∀ n ∈ y.1.weights Try.prog 22, n ∈ d.weights Try.prog 41 := fun i y hy hi n hn => by
    rw [hx.1]
    simp only [DataW.weights, Try.underlying41]
    have hy' : (xs.map (·.1))[i]? = some y.1 := by rw [List.getElem?_map, hy]; rfl
    rcases hi with rfl | rfl | rfl | rfl | rfl
    all_goals exact DataW.weights_mem_each (t := 22) rfl hy' n hn
  intro j hj
  rcases five hj with rfl | rfl | rfl | rfl | rfl
  · exact key 0 2 (by omega) (hfs 2 _ rfl) (fun y hy => hd 2 y hy (by omega)) hj
  · exact key 1 3 (by omega) (hfs 3 _ rfl) (fun y hy => hd 3 y hy (by omega)) hj
  · exact key 2 4 (by omega) (hfs 4 _ rfl) (fun y hy => hd 4 y hy (by omega)) hj
  · exact key 3 5 (by omega) (hfs 5 _ rfl) (fun y hy => hd 5 y hy (by omega)) hj
  · exact key 4 6 (by omega) (hfs 6 _ rfl) (fun y hy => hd 6 y hy (by omega)) hj
end Go.Proofs.Ythooknikfachnaa
