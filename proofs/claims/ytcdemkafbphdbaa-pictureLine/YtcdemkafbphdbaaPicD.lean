/-
  Package picture: the ground's dots on a line.
-/
import Derived.Test.YtcdemkafbphdbaaPicC
import Derived.Lib.SlBuf
import Derived.Laws.IdiomCopy
import Derived.Deep.RegionLaw
namespace Go.Proofs.Ytcdemkafbphdbaa
open Go.ChangeShapes Go.WideShapes Go.ChangeAt Go.RowKit
set_option linter.unusedVariables false

theorem run_copyB {W : World} {b rb : Nat} {L R : List Value} (hb : Bx W b L) (hr : Bx W rb R) (o dLen dCap sCap n : Nat) (ty : TypeId) (hn : n = R.length) (ho : o + R.length ≤ L.length) (hd : R.length ≤ dLen) (h1 : ∀ v ∈ R, v.oneCell' = true) :
    (Builtin.copy_ #[22, 22] ty #[.slice (some ⟨b, o, none⟩) dLen dCap, .slice (some ⟨rb, 0, none⟩) n sCap]).run Try.prog W = .ok (goInt R.length) (W.setCells b o R) := by
  subst hn
  refine run_copy_cells W 22 22 ty 5 b o dLen dCap ⟨rb, 0, none⟩ R.length sCap R Try.underlying22 (by kernel_rfl) (Nat.min_eq_left hd).symm (fun j v hj => ?_) (fun j hj => ?_) (fun j hj => hb.f _) h1
  · rw [addr_add]; exact hr.c j v hj
  · rw [hb.at (o + j) _ (List.getElem?_eq_getElem (by omega))]; rfl
theorem step_copyB {P : Program} {ops : Array Oper} {o : Oper} {a : Act} {w : World} {K : Act → World → Prop} {Q : Exit → Act → World → Prop} {E : Prop} (hgd : o.guard = none) (d s : Operand) (t t' : TypeId)
    (ho : o.op = .call { callee := .builtin .copy, args := #[d, s], argTypes := #[t, t'] }) (v u : Value) (hd : a.eval d = v) (hs : a.eval s = u) {v' : Value} {w' : World}
    (hr : (Builtin.copy_ #[t, t'] o.type #[v, u]).run P w = .ok v' w') (h : K (a.put o.dst v') w') : if Region.wanted o (yielded ops a.tmps) = true then Oper.wp P o a w K Q else E := by
  have hw : Region.wanted o (yielded ops a.tmps) = true := by simp [Region.wanted, hgd]
  rw [if_pos hw]
  exact Lib.wp_copy_run w d s t t' ho v u hd hs hr h
theorem info16 : (Try.prog.info? 23).map (·.size) = some 16 := by kernel_rfl
theorem row16_one (f : Nat → Nat) : (row16 f).toArray.all (·.oneCell') = true := by
  refine all_oneCell_toArray fun v hv => ?_
  unfold row16 at hv
  rw [List.mem_map] at hv
  obtain ⟨x, _, rfl⟩ := hv
  rfl
theorem putL_mid (A B vs : List Value) (h : vs.length = B.length) : putL (A ++ B) A.length vs = A ++ vs := by
  induction vs generalizing A B with
  | nil => cases B with
    | nil => rfl
    | cons b B => cases h
  | cons v vs ih => cases B with
    | nil => cases h
    | cons b B =>
      have := ih (A ++ [v]) B (by simpa using h)
      simp only [List.append_assoc, List.singleton_append, List.length_append, List.length_singleton] at this
      rw [putL, ← this]
      congr 1
      rw [List.set_append_right _ _ (Nat.le_refl _)]
      simp
theorem Bx.all {W : World} {b : Nat} {L : List Value} (h : Bx W b L) (vs : List Value) (hl : vs.length = L.length) : Bx (W.setCells b 0 vs) b vs := by
  have := h.puts 0 vs (by omega)
  rwa [show putL L 0 vs = vs from putL_mid [] L vs hl] at this
/-- The whole array is loaded. -/
theorem ld16 {ops : Array Oper} {rest : List Oper} {op : Oper} {a : Act} {w : World} {Q : Exit → Act → World → Prop} (hgd : op.guard = none) (x : Operand) (ho : op.op = .load 23 x) (b : Nat) (f : Nat → Nat) (hx : a.eval x = .pointer (some ⟨b, 0, none⟩)) (hb : Bx w b (row16 f))
    (h : wpList Try.prog ops Q rest (a.put op.dst (.agg (row16 f).toArray)) w) : wpList Try.prog ops Q (op :: rest) a w :=
  wpList_load_mid hgd 23 x ho b 0 hx (row16 f) _ hb.c Try.underlying23 rfl (by rw [row16_len]; exact info16) h
/-- The whole array is stored. -/
theorem st16 {ops : Array Oper} {rest : List Oper} {op : Oper} {a : Act} {w : World} {Q : Exit → Act → World → Prop} (hgd : op.guard = none) (x z : Operand) (ho : op.op = .store 23 x z) (b : Nat) (f f' : Nat → Nat) (hx : a.eval x = .pointer (some ⟨b, 0, none⟩)) (hz : a.eval z = .agg (row16 f).toArray) (hb : Bx w b (row16 f'))
    (h : ∀ w', w' = w.setCells b 0 (row16 f) → Bx w' b (row16 f) → wpList Try.prog ops Q rest (a.put op.dst undef) w') : wpList Try.prog ops Q (op :: rest) a w := by
  refine wpList_store_mid hgd 23 x z ho b 0 (row16 f).toArray hx hz ?_ (by simp only [List.size_toArray, row16_len]; exact info16) (row16_one f) ?_
  · simp only [List.size_toArray, row16_len]; exact hb.there 0 16 (by rw [row16_len]; omega)
  · exact h _ rfl (hb.all _ (by rw [row16_len, row16_len]))
theorem lv16 {W : World} {b : Nat} {f : Nat → Nat} (h : Bx W b (row16 f)) : (loadVar 23 ⟨b, 0, none⟩).run Try.prog W = .ok (.agg (row16 f).toArray) W :=
  run_loadVar_mid W b 0 23 _ _ h.c Try.underlying23 rfl (by rw [row16_len]; exact info16)
theorem ground_put (m : List UInt8) (Y n : Nat) (hn : n < 4) : putL (row16 (fun X => if X < 4 * n then g16 m Y X else 0)) (4 * n) [.int .u8 (td m (gb m (Y / 4 * 4 + n)) 0 (Y % 4)), .int .u8 (td m (gb m (Y / 4 * 4 + n)) 1 (Y % 4)), .int .u8 (td m (gb m (Y / 4 * 4 + n)) 2 (Y % 4)), .int .u8 (td m (gb m (Y / 4 * 4 + n)) 3 (Y % 4))] = row16 (fun X => if X < 4 * (n + 1) then g16 m Y X else 0) := by
  simp only [putL]
  rw [row16_set _ _ _ (by omega), row16_set _ _ _ (by omega), row16_set _ _ _ (by omega), row16_set _ _ _ (by omega)]
  apply row16_congr
  intro X hX
  have h : ∀ i, i < 4 → td m (gb m (Y / 4 * 4 + n)) i (Y % 4) = g16 m Y (4 * n + i) := fun i hi => by
    unfold g16
    rw [show (4 * n + i) / 4 = n by omega, show (4 * n + i) % 4 = i by omega]
  rw [h 0 (by omega), h 1 (by omega), h 2 (by omega), h 3 (by omega)]
  by_cases e3 : X = 4 * n + 1 + 1 + 1
  · subst e3; simp; intro; omega
  · by_cases e2 : X = 4 * n + 1 + 1
    · subst e2; simp; intro; omega
    · by_cases e1 : X = 4 * n + 1
      · subst e1; simp; intro; omega
      · by_cases e0 : X = 4 * n
        · subst e0
          rw [if_neg e3, if_neg e2, if_neg e1, if_pos rfl, if_pos (by omega)]
          rfl
        · simp only [if_neg e3, if_neg e2, if_neg e1, if_neg e0]
          by_cases hlt : X < 4 * n
          · rw [if_pos hlt, if_pos (by omega)]
          · rw [if_neg hlt, if_neg (by omega)]
/-- Where the ground is laid: the result's box, the ground's. -/
structure GdW (w : World) (m : List UInt8) (Y n : Nat) (W : World) : Prop where
  low : Below w.heap.size w W
  r : Bx W w.heap.size (row16 fun _ => 0)
  g : Bx W (w.heap.size + 1) (row16 fun X => if X < 4 * n then g16 m Y X else 0)
section
variable {w W w1 : World} {m : List UInt8} {Y n : Nat}
theorem GdW.kept (h : GdW w m Y n W) (hb : Below W.heap.size W w1) : GdW w m Y n w1 := ⟨stp h.low hb, h.r.kept hb, h.g.kept hb⟩
theorem GdW.over (h : GdW w m Y n W) (o : Obj) : GdW w m Y n (W.alloc o) := h.kept (stA (st0 W) o)
theorem GdW.drew (h : GdW w m Y n W) : GdW w m Y n W.drew := ⟨h.low.drew, h.r.drew, h.g.drew⟩
theorem GdW.put (h : GdW w m Y n W) (hn : n < 4) : GdW w m Y (n + 1) (W.setCells (w.heap.size + 1) (4 * n) [.int .u8 (td m (gb m (Y / 4 * 4 + n)) 0 (Y % 4)), .int .u8 (td m (gb m (Y / 4 * 4 + n)) 1 (Y % 4)), .int .u8 (td m (gb m (Y / 4 * 4 + n)) 2 (Y % 4)), .int .u8 (td m (gb m (Y / 4 * 4 + n)) 3 (Y % 4))]) :=
  ⟨Bl.puts h.low (by omega) _, h.r.fars (by omega) _ _, ground_put m Y n hn ▸ h.g.puts (4 * n) _ (by rw [row16_len]; simp; omega)⟩
end
/-- Where what is seen of it is laid. -/
structure SnW (w : World) (m : List UInt8) (y x bs : Nat) (W : World) : Prop where
  low : Below w.heap.size w W
  r : Bx W w.heap.size (row16 fun _ => 0)
  g : Bx W (w.heap.size + 1) (row16 (g16 m ((y + gb m 169) % 16)))
  s : Bx W bs (row16 fun i => if i < x then gd m y i else 0)
  far : w.heap.size + 1 < bs
theorem SnW.put {w W : World} {m : List UInt8} {y x bs : Nat} (h : SnW w m y x bs W) (hx : x < 16) : SnW w m y (x + 1) bs (W.setCell ⟨bs, x, none⟩ (.int .u8 (g16 m ((y + gb m 169) % 16) ((x + gb m 168) % 16)))) := by
  have hf := h.far
  refine ⟨Bl.set h.low (by omega) _, h.r.far (by omega) _, h.g.far (by omega) _, ?_, hf⟩
  have := h.s.set x (.int .u8 (gd m y x)) (by rw [row16_len]; exact hx)
  rw [row16_set _ _ _ hx] at this
  rwa [row16_congr (g := fun i => if i < x + 1 then gd m y i else 0) (fun i hi => ?_)] at this
  by_cases e : i = x
  · subst e; simp
  · simp only [if_neg e]
    by_cases hlt : i < x
    · rw [if_pos hlt, if_pos (by omega)]
    · rw [if_neg hlt, if_neg (by omega)]
set_option maxRecDepth 100000 in
set_option maxHeartbeats 1600000 in
theorem ground_any (m : List UInt8) (v : Value) (g o c : Nat) (y : Nat) (w : World) (h : Mm w m v g o c) (hy : y < 8) :
    Calls Try.prog 21 #[v, .int .i64 y] w fun e w' => e = .returned (.agg (row16 (gd m y)).toArray) ∧ Below w.heap.size w w' := by
  have H := hid h
  obtain ⟨rfl, hl, hz, hc⟩ := h
  have h1 := hc 169 (by omega)
  have hb := gb_lt m 169
  obtain ⟨Y, hY⟩ : ∃ Y, Y = (y + gb m 169) % 16 := ⟨_, rfl⟩
  have eY : ((y : Int) + (gb m 169 : Nat)) % 16 = (Y : Int) := by omega
  have HY := hid hY
  have HE := hid eY
  have hYl : Y < 16 := by omega
  clear hc eY
  go_enter Try.func21, Try.ntmps21
  go_wp2
  rw [HE.out]
  clear hY hb h1 hl
  go_loopw [18] (fun i wr => ∃ n : Nat, n ≤ 4 ∧ i = .int .i64 n ∧ GdW w m Y n wr) (fun i _ => 4 - (intOf i).toNat)
  case atStart => exact ⟨0, Nat.zero_le _, rfl, stA (stA (st0 w) _) _, (Bx.new w (row16 fun _ => 0) _ rfl).over _, Bx.new _ (row16 fun _ => 0) _ (by simp)⟩
  case round =>
    obtain ⟨n, hn, rfl, hG⟩ := hrel
    have HG := hid hG
    have HM := hid (H.out.kept hG.low)
    clear hG
    by_cases h4 : n < 4
    · have h4' : (n : Int) < 4 := by omega
      have hc := HM.out.c (Y / 4 * 4 + n) (by omega)
      have hcl := gb_lt m (Y / 4 * 4 + n)
      have ym : Y % 4 < 4 := Nat.mod_lt _ (by decide)
      go_wp2_with (first
        | (go_at_call 25; refine (rowOf_any m _ g o c (gb m (Y / 4 * 4 + n)) (Y % 4) _ HM.out hcl ym).mono ?_; rintro e w1 ⟨rfl, hb1⟩))
      obtain ⟨W2, hcp, hG2⟩ : ∃ W2, (Builtin.copy_ #[22, 22] 3 #[.slice (some ⟨w.heap.size + 1, 4 * n, none⟩) (16 - 4 * n) (16 - 4 * n), .slice (some ⟨w1.heap.size, 0, none⟩) 4 4]).run Try.prog (w1.alloc (.cells #[.int .u8 (td m (gb m (Y / 4 * 4 + n)) 0 (Y % 4)), .int .u8 (td m (gb m (Y / 4 * 4 + n)) 1 (Y % 4)), .int .u8 (td m (gb m (Y / 4 * 4 + n)) 2 (Y % 4)), .int .u8 (td m (gb m (Y / 4 * 4 + n)) 3 (Y % 4))] 52)).drew = .ok (.int .i64 4) W2 ∧ GdW w m Y (n + 1) W2 :=
        ⟨_, run_copyB ((HG.out.kept hb1).over _).drew.g (Bx.new w1 [.int .u8 (td m (gb m (Y / 4 * 4 + n)) 0 (Y % 4)), .int .u8 (td m (gb m (Y / 4 * 4 + n)) 1 (Y % 4)), .int .u8 (td m (gb m (Y / 4 * 4 + n)) 2 (Y % 4)), .int .u8 (td m (gb m (Y / 4 * 4 + n)) 3 (Y % 4))] 52 rfl).drew (4 * n) _ _ _ _ _ rfl (by rw [row16_len]; simp; omega) (by simp; omega) (by simp [Value.oneCell']), ((HG.out.kept hb1).over _).drew.put h4⟩
      have HG2 := hid hG2
      clear hG2
      have q0 : (0 : Int) ≤ (n : Int) * 4 := by omega
      have q1 : (n : Int) * 4 ≤ 16 := by omega
      have q2 : ((n : Int) * 4).toNat = 4 * n := by omega
      have q3 : IntKind.i64.wrap ((n : Int) * 4) = (n : Int) * 4 := by rw [IntKind.wrap_i64]; omega
      have q4 : ¬ (16 = 4 * n) := by omega
      go_region
      go_wp2
      exact ⟨⟨n + 1, h4, by go_num, HG2.out⟩, by simp [intOf]; omega⟩
    · have h9 : ¬ (n : Int) < 4 := by omega
      have e4 : n = 4 := by omega
      subst e4
      have hY : Y = (y + gb m 169) % 16 := HY.out
      have h168 := gb_lt m 168
      have HS0 : Hid (SnW w m y 0 wr.heap.size (wr.alloc (.cells (row16 fun _ => 0).toArray 23))) := by
        refine ⟨stA HG.out.low _, HG.out.r.over _, ?_, Bx.new wr (row16 fun _ => 0) _ rfl, HG.out.g.z⟩
        have := HG.out.g.over (.cells (row16 fun _ => 0).toArray 23)
        rw [hY] at this
        rwa [row16_congr (fun X hX => if_pos (show X < 4 * 4 by omega))] at this
      clear h4 hn h9 hY
      go_wp2
      go_loopw [39] (fun i W => ∃ x : Nat, x ≤ 16 ∧ i = .int .i64 x ∧ SnW w m y x wr.heap.size W) (fun i _ => 16 - (intOf i).toNat)
      case atStart => exact ⟨0, Nat.zero_le _, rfl, HS0.out⟩
      case round =>
        obtain ⟨x, hx, rfl, hS⟩ := hrel
        have HS := hid hS
        clear hS HS0
        by_cases h16 : x < 16
        · have h16' : (x : Int) < 16 := by omega
          have c0 := (H.out.kept HS.out.low).c 168 (by omega)
          have c1 := HS.out.g.at ((x + gb m 168) % 16) _ (row16_at _ (Nat.mod_lt _ (by decide)))
          have c2 := HS.out.s.at x _ (row16_at _ h16)
          have f2 := HS.out.s.f x
          go_wp2
          exact ⟨⟨x + 1, h16, by go_num, HS.out.put h16⟩, by simp [intOf]; omega⟩
        · have h17 : ¬ (x : Int) < 16 := by omega
          have e16 : x = 16 := by omega
          subst e16
          have hs := HS.out.s
          rw [row16_congr (fun X hX => if_pos hX)] at hs
          have HSS := hid hs
          clear hs
          go_wp2_with (first
            | (refine ld16 rfl _ rfl _ _ rfl HSS.out ?_)
            | (refine st16 rfl _ _ rfl w.heap.size (gd m y) _ rfl rfl HS.out.r ?_; rintro w' hw' hB'; have HB' := hid hB'; have HW' := hid hw'; clear hB' hw'))
          have hl := lv16 HB'.out
          refine bodyPost_ret (v := .agg (row16 (gd m y)).toArray) ?_ rfl ⟨rfl, ?_⟩
          · simp only [results, Try.results21]
            simp
            exact hl
          · rw [HW'.out]; exact Bl.puts HS.out.low (Nat.le_refl _) _
end Go.Proofs.Ytcdemkafbphdbaa
