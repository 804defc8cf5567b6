/-
  Package tape: the lines of a frame.
-/
import Derived.Test.YtbfflipcmciapaaDoorTapH
namespace Go.Proofs.YtbfflipcmciapaaDoor
open Go.ChangeShapes Go.WideShapes Go.ChangeAt Go.RowKit
set_option linter.unusedVariables false
set_option maxRecDepth 100000

/-- Sixteen pixels. -/
def Tp.r16 (f : Nat → Int) : List Value := [.int .u8 (f 0), .int .u8 (f 1), .int .u8 (f 2), .int .u8 (f 3), .int .u8 (f 4), .int .u8 (f 5), .int .u8 (f 6), .int .u8 (f 7), .int .u8 (f 8), .int .u8 (f 9), .int .u8 (f 10), .int .u8 (f 11), .int .u8 (f 12), .int .u8 (f 13), .int .u8 (f 14), .int .u8 (f 15)]
theorem Tp.r16_len (f : Nat → Int) : (Tp.r16 f).length = 16 := rfl
/-- A line that was shown. -/
structure Tp.Ln where
  f : Int
  l : Int
  px : Nat → Int
def Tp.lnC (x : Tp.Ln) : List Value := .int .i64 x.f :: .int .i64 x.l :: Tp.r16 x.px
theorem Tp.lnC_len (x : Tp.Ln) : (Tp.lnC x).length = 18 := rfl
def Tp.lncs : List Tp.Ln → List Value
  | [] => []
  | x :: l => Tp.lnC x ++ Tp.lncs l
def Tp.pxs : List (Nat → Int) → List Value
  | [] => []
  | x :: l => Tp.r16 x ++ Tp.pxs l
theorem Tp.pxs_app : ∀ l k : List (Nat → Int), Tp.pxs (l ++ k) = Tp.pxs l ++ Tp.pxs k
  | [], k => rfl
  | x :: l, k => by rw [List.cons_append, Tp.pxs, Tp.pxs_app l k, Tp.pxs, List.append_assoc]
theorem Tp.lncs_row : ∀ (l : List Tp.Ln) (i : Nat) (x : Tp.Ln), l[i]? = some x → ∀ (j : Nat) (v : Value), (Tp.lnC x)[j]? = some v → (Tp.lncs l)[i * 18 + j]? = some v
  | [], i, x, h => by simp at h
  | y :: l, 0, x, h => fun j v hj => by
    simp only [List.getElem?_cons_zero, Option.some.injEq] at h
    subst h
    have hl : j < (Tp.lnC y).length := (List.getElem?_eq_some_iff.1 hj).1
    rw [Nat.zero_mul, Nat.zero_add, Tp.lncs, List.getElem?_append_left hl]
    exact hj
  | y :: l, i + 1, x, h => fun j v hj => by
    rw [List.getElem?_cons_succ] at h
    have := Tp.lncs_row l i x h j v hj
    rw [Tp.lncs, List.getElem?_append_right (by rw [Tp.lnC_len]; omega), Tp.lnC_len, show (i + 1) * 18 + j - 18 = i * 18 + j by omega]
    exact this
theorem Tp.pxs_row : ∀ (l : List (Nat → Int)) (i : Nat) (x : Nat → Int), l[i]? = some x → ∀ (j : Nat) (v : Value), (Tp.r16 x)[j]? = some v → (Tp.pxs l)[i * 16 + j]? = some v
  | [], i, x, h => by simp at h
  | y :: l, 0, x, h => fun j v hj => by
    simp only [List.getElem?_cons_zero, Option.some.injEq] at h
    subst h
    have hl : j < (Tp.r16 y).length := (List.getElem?_eq_some_iff.1 hj).1
    rw [Nat.zero_mul, Nat.zero_add, Tp.pxs, List.getElem?_append_left hl]
    exact hj
  | y :: l, i + 1, x, h => fun j v hj => by
    rw [List.getElem?_cons_succ] at h
    have := Tp.pxs_row l i x h j v hj
    rw [Tp.pxs, List.getElem?_append_right (by rw [Tp.r16_len]; omega), Tp.r16_len, show (i + 1) * 16 + j - 16 = i * 16 + j by omega]
    exact this
/-- The lines of one frame, as many as follow one another. -/
def Tp.pick (fr : Int) : List Tp.Ln → List (Nat → Int) → List (Nat → Int)
  | [], acc => acc
  | x :: l, acc => Tp.pick fr l (if x.f = fr ∧ x.l = acc.length then acc ++ [x.px] else acc)
theorem Tp.pick_yes {fr : Int} {x : Tp.Ln} {l : List Tp.Ln} {acc : List (Nat → Int)} (h : x.f = fr ∧ x.l = acc.length) : Tp.pick fr (x :: l) acc = Tp.pick fr l (acc ++ [x.px]) := by rw [Tp.pick, if_pos h]
theorem Tp.pick_no {fr : Int} {x : Tp.Ln} {l : List Tp.Ln} {acc : List (Nat → Int)} (h : ¬ (x.f = fr ∧ x.l = acc.length)) : Tp.pick fr (x :: l) acc = Tp.pick fr l acc := by rw [Tp.pick, if_neg h]
theorem Tp.drop_cons {α : Type} {l : List α} {j : Nat} {x : α} (h : l[j]? = some x) : l.drop j = x :: l.drop (j + 1) := by
  obtain ⟨hlt, e⟩ := List.getElem?_eq_some_iff.1 h
  rw [List.drop_eq_getElem_cons hlt, e]
theorem Tp.info_ln : (Tryd.prog.info? 60).map (·.size) = some 18 := by kernel_rfl
theorem Tp.info_16 : (Tryd.prog.info? 58).map (·.size) = some 16 := by kernel_rfl
theorem Tp.info_163 : (Tryd.prog.info? 58).map (fun i => (i.zero, i.size, i.bytes)) = some (some (.agg (Tp.r16 (fun _ => 0)).toArray), 16, 16) := by kernel_rfl
theorem Tp.sz16 : (Value.agg (Tp.r16 (fun _ => 0)).toArray).cells.size = 16 := by kernel_rfl
theorem Tp.ln_one (x : Tp.Ln) : (Tp.lnC x).toArray.all (·.oneCell') = true := all_oneCell_toArray fun u hu => by
  simp only [Tp.lnC, Tp.r16, List.mem_cons, List.not_mem_nil, or_false] at hu
  rcases hu with rfl | rfl | rfl | rfl | rfl | rfl | rfl | rfl | rfl | rfl | rfl | rfl | rfl | rfl | rfl | rfl | rfl | rfl <;> rfl
theorem Tp.bx_set {W : World} {b : Nat} {L : List Value} (h : Bx W b L) (vs : List Value) (hl : vs.length = L.length) : Bx (W.setCells b 0 vs) b vs :=
  ⟨(h.puts 0 vs (by omega)).z, World.rangeAt_setCells_same W b 0 vs (h.there 0 vs.length (by omega)), (h.puts 0 vs (by omega)).f⟩
theorem Tp.px_one (f : Nat → Int) : ∀ u ∈ Tp.pxs [f], u.oneCell' = true := fun u hu => by
  simp only [Tp.pxs, Tp.r16, List.append_nil, List.mem_cons, List.not_mem_nil, or_false] at hu
  rcases hu with rfl | rfl | rfl | rfl | rfl | rfl | rfl | rfl | rfl | rfl | rfl | rfl | rfl | rfl | rfl | rfl <;> rfl
theorem Tp.run_b16 (f : Nat → Int) (w : World) : (Instr.buildSlice 55 1 #[(0, .agg (Tp.r16 f).toArray)]).run Tryd.prog w = .ok (.slice (some ⟨w.heap.size, 0, none⟩) 1 1) (w.alloc (.cells (Tp.r16 f).toArray 58)) := by kernel_rfl
theorem Tp.wpl_b16 {ops : Array Oper} {rest : List Oper} {o : Oper} {a : Act} {w : World} {Q : Exit → Act → World → Prop} (hgd : o.guard = none) (x : Operand) (ho : o.op = .buildSlice 55 1 #[(0, x)]) (f : Nat → Int) (hx : a.eval x = .agg (Tp.r16 f).toArray)
    (h : wpList Tryd.prog ops Q rest (a.put o.dst (.slice (some ⟨w.heap.size, 0, none⟩) 1 1)) (w.alloc (.cells (Tp.r16 f).toArray 58))) : wpList Tryd.prog ops Q (o :: rest) a w := by
  refine wpList_plain hgd fun K hK => ?_
  have hr := Tp.run_b16 f w
  generalize Tp.r16 f = L at *
  unfold Oper.wp
  simp [execOp, ho, hx, hr, Result.andThen]
  exact hK _ _ h
theorem Tp.px_cells (w : World) (f : Nat → Int) (t : TypeId) {b : Nat} (hb : b = w.heap.size) : ∀ j u, (Tp.pxs [f])[j]? = some u → (w.alloc (.cells (Tp.r16 f).toArray t)).cell? ⟨b, j, none⟩ = some u := fun j u hj => by
  subst hb
  exact (Bx.new w (Tp.r16 f) t (b := w.heap.size) rfl).at j u (by simpa [Tp.pxs] using hj)
/-- A line's new box. -/
theorem Tp.ln_box (w : World) (x : Tp.Ln) (t : TypeId) : Below w.heap.size w ((w.alloc (.cells (Tp.lnC ⟨0, 0, fun _ => 0⟩).toArray t)).setCells w.heap.size 0 (Tp.lnC x)) ∧ Bx ((w.alloc (.cells (Tp.lnC ⟨0, 0, fun _ => 0⟩).toArray t)).setCells w.heap.size 0 (Tp.lnC x)) w.heap.size (Tp.lnC x) :=
  ⟨Pl.below (Nat.le_refl _) _ 0 _ (stA (st0 w) _), Tp.bx_set (Bx.new w (Tp.lnC ⟨0, 0, fun _ => 0⟩) t (b := w.heap.size) rfl) (Tp.lnC x) (by rw [Tp.lnC_len, Tp.lnC_len])⟩
theorem Tp.ln_there (w : World) (t : TypeId) : (w.alloc (.cells (Tp.lnC ⟨0, 0, fun _ => 0⟩).toArray t)).there w.heap.size 0 18 := (Bx.new w (Tp.lnC ⟨0, 0, fun _ => 0⟩) t (b := w.heap.size) rfl).there 0 18 (by rw [Tp.lnC_len]; omega)
theorem Tp.ln_px {V : World} {b : Nat} {x : Tp.Ln} (h : Bx V b (Tp.lnC x)) : V.rangeAt b 2 (Tp.r16 x.px) := fun j v hj => h.at (2 + j) v (by rw [Nat.add_comm]; exact hj)
/-- While Frame runs. -/
structure Tp.Fw (w : World) (fr : Int) (l : List Tp.Ln) (j : Nat) (acc : List (Nat → Int)) (v : Value) (Y : World) : Prop where
  low : Below w.heap.size w Y
  row : Y.ownsRow w.heap.size 58 16 v acc.length (Tp.pxs acc)
  eq : Tp.pick fr (l.drop j) acc = Tp.pick fr l []
  le : acc.length ≤ j
theorem Tp.Fw.kept {w : World} {fr : Int} {l : List Tp.Ln} {j : Nat} {acc : List (Nat → Int)} {v : Value} {Y Y' : World} (h : Tp.Fw w fr l j acc v Y) (hb : Below Y.heap.size Y Y') : Tp.Fw w fr l j acc v Y' := ⟨stp h.low hb, Tp.row_kept h.row hb, h.eq, h.le⟩
/-- What Frame tells. -/
def Tp.frmL (fr : Int) (l : List Tp.Ln) : List (Nat → Int) := if (Tp.pick fr l []).length = 8 then Tp.pick fr l [] else []
def Tp.frmE (fr : Int) (l : List Tp.Ln) : Int := if (Tp.pick fr l []).length = 8 then 0 else 5
set_option maxRecDepth 100000 in
set_option maxHeartbeats 3200000 in
theorem Tp.frame_any (v v2 v3 : Value) (l : List Tp.Ln) (fr : Int) (w : World) (h : Tp.Rw w v l.length 18 (Tp.lncs l)) (hl : l.length ≤ 4398046511104) :
    Calls Tryd.prog 21 #[.agg #[v, v2, v3], .int .i64 fr] w fun e w' => ∃ u, e = .returned (.tuple #[u, .int .i64 (Tp.frmE fr l)]) ∧ w'.ownsRow w.heap.size 58 16 u (Tp.frmL fr l).length (Tp.pxs (Tp.frmL fr l)) ∧ Below w.heap.size w w' := by
  obtain ⟨a1, k1, rfl⟩ := h.len
  have H := hid h
  have HL := hid hl
  clear h hl
  go_enter Tryd.func21, Tryd.ntmps21
  go_wp2
  go_loopw [6, 12] (fun u i wr => ∃ (j : Nat) (acc : List (Nat → Int)), j ≤ l.length ∧ i = .int .i64 j ∧ Tp.Fw w fr l j acc u wr) (fun _ i _ => l.length - (intOf i).toNat)
  case atStart => exact ⟨0, [], Nat.zero_le _, rfl, stA (st0 w) _, ⟨rfl, Or.inl ⟨rfl, rfl⟩⟩, rfl, Nat.le_refl _⟩
  case round =>
    obtain ⟨j, acc, hj, rfl, hw⟩ := hrel
    have HW := hid hw
    have hle := hw.le
    obtain ⟨ua, uc, rfl⟩ := Tp.row_len hw.row
    by_cases hlt : j < l.length
    · have hlt2 : (j : Int) < l.length := by omega
      have hj0 : (0 : Int) ≤ j := by omega
      have hw1 : wrap64 ((j : Int) + 1) = (j : Int) + 1 := by have := HL.out; unfold wrap64; omega
      have hw2 : IntKind.i64.wrap ((j : Int) + 1) = (j : Int) + 1 := by have := HL.out; simp [IntKind.wrap, IntKind.bits, IntKind.signed]; omega
      obtain ⟨x, hx⟩ : ∃ x, l[j]? = some x := ⟨_, List.getElem?_eq_getElem hlt⟩
      obtain ⟨g, o, c, q1, z1, r1⟩ := (H.out.kept hw.low).range hlt (Tp.lncs_row l j x hx)
      cases q1
      have HR := hid r1
      have HD := hid (Tp.drop_cons hx)
      clear hw hx r1
      by_cases hq : x.f = fr ∧ x.l = acc.length
      · obtain ⟨q1, q2⟩ := hq
        have HQ := hid (And.intro q1 q2)
        have t1 : (x.f == fr) = true := by simpa using q1
        have t2 : (x.l == (acc.length : Int)) = true := by simpa using q2
        clear q1 q2
        go_wp2_with (first
          | (refine Tp.wpl_b16 rfl _ rfl x.px rfl ?_)
          | (refine wpList_load_mid rfl 60 _ rfl g (o + j * 18) rfl (Tp.lnC x) _ HR.out Tryd.underlying60 rfl Tp.info_ln ?_)
          | (refine wpList_store_mid rfl 60 _ _ rfl wr.heap.size 0 (Tp.lnC x).toArray rfl rfl (Tp.ln_there wr _) Tp.info_ln (Tp.ln_one x) ?_; refine Pl.cutL (fun V => Tp.Fw w fr l j acc (.slice ua acc.length uc) V ∧ Bx V wr.heap.size (Tp.lnC x)) ⟨HW.out.kept (Tp.ln_box wr x _).1, (Tp.ln_box wr x _).2⟩ ?_; rintro V ⟨p1, p2⟩; have HV := hid p1; have HX := hid p2; have y0 := p2.at 0 (.int .i64 x.f) rfl; have y1 := p2.at 1 (.int .i64 x.l) rfl; have yz := p2.z; clear p1 p2)
          | (refine wpList_load_mid rfl 58 _ rfl wr.heap.size 2 rfl (Tp.r16 x.px) _ (Tp.ln_px HX.out) Tryd.underlying58 rfl Tp.info_16 ?_)
          | (at_builtin; have HV2 := hid (HV.out.kept (stA (st0 V) (.cells (Tp.r16 x.px).toArray 58))); refine Tp.appOne (v := .slice ua acc.length uc) Tryd.underlying55 Tp.info_163 Tp.sz16 (by decide) (by rfl) _ _ (by rfl) (by rfl) HV2.out.row V.heap.size 1 (by rfl) (ys := Tp.pxs [x.px]) rfl (Tp.px_cells V x.px _ rfl) (Tp.px_one x.px) (by have := HL.out; omega) (by have := HL.out; omega) HV2.out.low.size ?_; intro v' w' hown' hb'))
        refine ⟨⟨j + 1, acc ++ [x.px], by omega, by simp, HV2.out.low.trans hb', ?_, ?_, ?_⟩, by simp [intOf]; omega⟩
        · rw [List.length_append, Tp.pxs_app]; exact hown'
        · rw [← HW.out.eq, HD.out, Tp.pick_yes HQ.out]
        · simp; omega
      · have HQ := hid hq
        by_cases q1 : x.f = fr
        · have t1 : (x.f == fr) = true := by simpa using q1
          have t2 : (x.l == (acc.length : Int)) = false := by rw [beq_eq_false_iff_ne]; intro e; exact hq ⟨q1, e⟩
          clear hq q1
          go_wp2_with (first
            | (refine wpList_load_mid rfl 60 _ rfl g (o + j * 18) rfl (Tp.lnC x) _ HR.out Tryd.underlying60 rfl Tp.info_ln ?_)
            | (refine wpList_store_mid rfl 60 _ _ rfl wr.heap.size 0 (Tp.lnC x).toArray rfl rfl (Tp.ln_there wr _) Tp.info_ln (Tp.ln_one x) ?_; refine Pl.cutL (fun V => Tp.Fw w fr l j acc (.slice ua acc.length uc) V ∧ Bx V wr.heap.size (Tp.lnC x)) ⟨HW.out.kept (Tp.ln_box wr x _).1, (Tp.ln_box wr x _).2⟩ ?_; rintro V ⟨p1, p2⟩; have HV := hid p1; have HX := hid p2; have y0 := p2.at 0 (.int .i64 x.f) rfl; have y1 := p2.at 1 (.int .i64 x.l) rfl; have yz := p2.z; clear p1 p2))
          exact ⟨⟨j + 1, acc, by omega, by simp, HV.out.low, HV.out.row, by rw [← HW.out.eq, HD.out, Tp.pick_no HQ.out], by omega⟩, by simp [intOf]; omega⟩
        · have t1 : (x.f == fr) = false := by simpa using q1
          clear hq q1
          go_wp2_with (first
            | (refine wpList_load_mid rfl 60 _ rfl g (o + j * 18) rfl (Tp.lnC x) _ HR.out Tryd.underlying60 rfl Tp.info_ln ?_)
            | (refine wpList_store_mid rfl 60 _ _ rfl wr.heap.size 0 (Tp.lnC x).toArray rfl rfl (Tp.ln_there wr _) Tp.info_ln (Tp.ln_one x) ?_; refine Pl.cutL (fun V => Tp.Fw w fr l j acc (.slice ua acc.length uc) V ∧ Bx V wr.heap.size (Tp.lnC x)) ⟨HW.out.kept (Tp.ln_box wr x _).1, (Tp.ln_box wr x _).2⟩ ?_; rintro V ⟨p1, p2⟩; have HV := hid p1; have HX := hid p2; have y0 := p2.at 0 (.int .i64 x.f) rfl; have y1 := p2.at 1 (.int .i64 x.l) rfl; have yz := p2.z; clear p1 p2))
          exact ⟨⟨j + 1, acc, by omega, by simp, HV.out.low, HV.out.row, by rw [← HW.out.eq, HD.out, Tp.pick_no HQ.out], by omega⟩, by simp [intOf]; omega⟩
    · have hj2 : j = l.length := by omega
      subst hj2
      have hnl : ¬ (l.length : Int) < l.length := by omega
      have he : Tp.pick fr l [] = acc := by rw [← hw.eq, List.drop_length]; rfl
      have e1 : Tp.frmL fr l = if acc.length = 8 then acc else [] := by unfold Tp.frmL; rw [he]
      have e2 : Tp.frmE fr l = if acc.length = 8 then 0 else 5 := by unfold Tp.frmE; rw [he]
      by_cases h8 : acc.length = 8
      · rw [if_pos h8] at e1 e2
        have HE := hid (And.intro e1 e2)
        have h8' : ((acc.length : Int) != 8) = false := by rw [h8]; rfl
        clear hw he e1 e2 h8
        go_wp2
        go_ret2
        rw [HE.out.1, HE.out.2]
        exact ⟨_, rfl, HW.out.row, HW.out.low⟩
      · rw [if_neg h8] at e1 e2
        have HE := hid (And.intro e1 e2)
        have h8' : ((acc.length : Int) != 8) = true := by rw [bne_iff_ne]; omega
        clear hw he e1 e2 h8
        go_wp2
        go_ret2
        rw [HE.out.1, HE.out.2]
        exact ⟨_, rfl, ⟨rfl, Or.inl ⟨rfl, rfl⟩⟩, HW.out.low⟩
end Go.Proofs.YtbfflipcmciapaaDoor
