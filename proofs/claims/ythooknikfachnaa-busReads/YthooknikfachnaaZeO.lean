/-
  Joined texts.
-/
import Derived.Deep.RegionHeld3
import Derived.Test.YthooknikfachnaaZeC
import Derived.Deep.AppendLies
import Derived.Test.YthooknikfachnaaZeK
import Derived.Test.YthooknikfachnaaBusH
import Derived.Test.YthooknikfachnaaZeA
import Derived.Test.YthooknikfachnaaBusN
import Derived.Deep.DeepCutAuto
namespace Go.Proofs.Ythooknikfachnaa
open Go.ChangeShapes Go.WideShapes Go.ChangeAt Go.RowKit
set_option linter.unusedVariables false
set_option maxRecDepth 100000

open Go
set_option linter.unusedVariables false

section
variable {P : Program} {ops : Array Oper} {Q : Exit → Act → World → Prop} {md : Region.Mode} {S : World → Prop} {st : Nat}
/-- Whatever order is picked from here on; and S holds behind every operation that is carried out ahead of number st. -/
def wpAnyG (P : Program) (md : Region.Mode) (ops : Array Oper) (Q : Exit → Act → World → Prop) (S : World → Prop) (st : Nat) : Nat → Array Bool → Act → World → Prop
  | 0, listed, a, w => Region.ready md ops listed = [] ∧ Q .normal a w
  | fuel + 1, listed, a, w =>
    (Region.ready md ops listed = [] → Q .normal a w) ∧
    ∀ i ∈ Region.ready md ops listed, wpOp P ops Q i (fun a' w' => ((listed.setIfInBounds i true).getD st true = false → S w') ∧ wpAnyG P md ops Q S st fuel (listed.setIfInBounds i true) a' w') a w
theorem wpAny_of_G : ∀ (fuel : Nat) (listed : Array Bool) (a : Act) (w : World), wpAnyG P md ops Q S st fuel listed a w → wpAny P md ops Q fuel listed a w
  | 0, _, _, _, h => h
  | fuel + 1, _, _, _, h => ⟨h.1, fun i hi => wpOp_mono (fun a' w' h' => wpAny_of_G fuel _ a' w' h'.2) (h.2 i hi)⟩
/-- Number st waits for number i. -/
def waits (md : Region.Mode) (ops : Array Oper) (st i : Nat) : Bool :=
  match ops[st]? with
  | some o => o.after.toList.any fun e => Region.binds md e && e.on == i
  | none => false
theorem waits_spec {i : Nat} (h : waits md ops st i = true) : ∃ os, ops[st]? = some os ∧ ∃ e ∈ os.after, Region.binds md e = true ∧ e.on = i := by
  unfold waits at h
  cases hs : ops[st]? with
  | none => rw [hs] at h; cases h
  | some os =>
    rw [hs] at h
    obtain ⟨e, he, h2⟩ := List.any_eq_true.1 h
    simp only [Bool.and_eq_true, beq_iff_eq] at h2
    exact ⟨os, rfl, e, by simpa using he, h2.1, h2.2⟩
theorem wpAnyG_first {i : Nat} {oi : Oper} {v : Value} (hi : ops[i]? = some oi) (hsel : ∀ (j : Nat) (o : Oper) cs b, ops[j]? = some o → o.op ≠ .select cs b)
    (hQ : ∀ c a w, Q (.panic c) (a.put oi.dst v) w → Q (.panic c) a w) (hw : waits md ops st i = true) (hsi : st ≠ i) :
    ∀ (fuel : Nat) (listed : Array Bool) (a : Act) (w : World),
      (∀ j oj, ops[j]? = some oj → j ≠ i → listed.getD j true = false → (∀ e ∈ oj.after, Region.binds md e = true → e.on ≠ i) → oi.apart ops oj = true) →
      i ∈ Region.ready md ops listed → YieldsIf P ops S oi v a → S w → listed.getD st true = false →
      wpAnyG P md ops Q S st fuel (listed.setIfInBounds i true) (a.put oi.dst v) w → wpAnyG P md ops Q S st (fuel + 1) listed a w := by
  intro fuel
  induction fuel with
  | zero =>
    intro listed a w _ hr hy hS _ H
    refine ⟨fun h => (by rw [h] at hr; cases hr), fun j hj => ?_⟩
    by_cases hji : j = i
    · subst hji; exact hy.wpOp hi hS ⟨fun _ => hS, H⟩
    · have := ready_mono hj hji
      rw [H.1] at this
      cases this
  | succ fuel ih =>
    intro listed a w hfree hr hy hS hun H
    refine ⟨fun h => (by rw [h] at hr; cases hr), fun j hj => ?_⟩
    by_cases hji : j = i
    · subst hji; exact hy.wpOp hi hS ⟨fun _ => hS, H⟩
    · have h1 := H.2 j (ready_mono hj hji)
      obtain ⟨hjun, oj, hoj, hall⟩ := mem_ready.1 hj
      have hnot : ∀ e ∈ oj.after, Region.binds md e = true → e.on ≠ i := fun e he hb heq => by
        have h1 := hall e he hb
        have h0 := (mem_ready.1 hr).1
        rw [heq] at h1
        rcases Nat.lt_or_ge i listed.size with h' | h'
        · simp [h'] at h0 h1; rw [h0] at h1; cases h1
        · simp [Array.getElem?_eq_none h'] at h1
      have hjs : j ≠ st := fun e => by
        obtain ⟨os, hos, e', he', hb', hon⟩ := waits_spec hw
        rw [e, hos] at hoj
        cases hoj
        exact hnot e' he' hb' hon
      have h2 := wpOp_putIf hoj (hfree j oj hoj hji hjun hnot) (fun cs b => hsel i oi cs b hi) (fun cs b => hsel j oj cs b hoj) hQ hy h1
      have hun2 : (listed.setIfInBounds j true).getD st true = false := by rw [getD_set_ne true hjs]; exact hun
      have hun3 : ((listed.setIfInBounds i true).setIfInBounds j true).getD st true = false := by rw [getD_set_ne true hjs, getD_set_ne true (Ne.symm hsi)]; exact hun
      have hfree' : ∀ k ok, ops[k]? = some ok → k ≠ i → (listed.setIfInBounds j true).getD k true = false →
          (∀ e ∈ ok.after, Region.binds md e = true → e.on ≠ i) → oi.apart ops ok = true := fun k ok hk hki hun hno => by
        refine hfree k ok hk hki ?_ hno
        by_cases hjk : j = k
        · subst hjk; exact hjun
        · rw [getD_set_ne true hjk] at hun; exact hun
      refine wpOp_mono (fun a' w' h3 => ⟨fun _ => h3.2.1 hun3, ih (listed.setIfInBounds j true) a' w' hfree' (ready_mono hr (Ne.symm hji)) h3.1 (h3.2.1 hun3) hun2 ?_⟩) h2
      rw [Array.setIfInBounds_comm _ _ hji]
      exact h3.2.2
/-- Take number i first: it may come up, yields v in every world that meets S; number st waits for it. -/
theorem wpAnyG_take {i : Nat} {oi : Oper} {v : Value} {fuel : Nat} {listed : Array Bool} {a : Act} {w : World} (hi : ops[i]? = some oi)
    (hs : Region.noSelect ops = true) (hf : Region.free md ops listed i = true) (hr : (Region.ready md ops listed).contains i = true) (hw : waits md ops st i = true) (hsi : st ≠ i) (hun : listed.getD st true = false)
    (hQ : ∀ c a w, Q (.panic c) (a.put oi.dst v) w → Q (.panic c) a w) (hy : YieldsIf P ops S oi v a) (hS : S w)
    (h : wpAnyG P md ops Q S st fuel (listed.setIfInBounds i true) (a.put oi.dst v) w) : wpAnyG P md ops Q S st (fuel + 1) listed a w :=
  wpAnyG_first hi (Region.noSelect_spec hs) hQ hw hsi fuel listed a w (Region.free_spec hi hf) (by simpa using hr) hy hS hun h
/-- The same for what hangs on no world. -/
theorem wpAnyG_firstP {i : Nat} {oi : Oper} {v : Value} (hi : ops[i]? = some oi) (hsel : ∀ (j : Nat) (o : Oper) cs b, ops[j]? = some o → o.op ≠ .select cs b)
    (hQ : ∀ c a w, Q (.panic c) (a.put oi.dst v) w → Q (.panic c) a w) (hsi : st ≠ i) :
    ∀ (fuel : Nat) (listed : Array Bool) (a : Act) (w : World),
      (∀ j oj, ops[j]? = some oj → j ≠ i → listed.getD j true = false → (∀ e ∈ oj.after, Region.binds md e = true → e.on ≠ i) → oi.apart ops oj = true) →
      i ∈ Region.ready md ops listed → YieldsIf P ops (fun _ => True) oi v a → (listed.getD st true = false → S w) →
      wpAnyG P md ops Q S st fuel (listed.setIfInBounds i true) (a.put oi.dst v) w → wpAnyG P md ops Q S st (fuel + 1) listed a w := by
  have down : ∀ (l : Array Bool) (j : Nat), (l.setIfInBounds j true).getD st true = false → l.getD st true = false := fun l j h => by
    by_cases hj : j = st
    · subst hj
      simp [Array.getD] at h
    · rw [getD_set_ne true hj] at h; exact h
  intro fuel
  induction fuel with
  | zero =>
    intro listed a w _ hr hy hS H
    refine ⟨fun h => (by rw [h] at hr; cases hr), fun j hj => ?_⟩
    by_cases hji : j = i
    · subst hji; exact hy.wpOp hi trivial ⟨fun h => hS (down _ _ h), H⟩
    · have := ready_mono hj hji
      rw [H.1] at this
      cases this
  | succ fuel ih =>
    intro listed a w hfree hr hy hS H
    refine ⟨fun h => (by rw [h] at hr; cases hr), fun j hj => ?_⟩
    by_cases hji : j = i
    · subst hji; exact hy.wpOp hi trivial ⟨fun h => hS (down _ _ h), H⟩
    · have h1 := H.2 j (ready_mono hj hji)
      obtain ⟨hjun, oj, hoj, hall⟩ := mem_ready.1 hj
      have hnot : ∀ e ∈ oj.after, Region.binds md e = true → e.on ≠ i := fun e he hb heq => by
        have h1 := hall e he hb
        have h0 := (mem_ready.1 hr).1
        rw [heq] at h1
        rcases Nat.lt_or_ge i listed.size with h' | h'
        · simp [h'] at h0 h1; rw [h0] at h1; cases h1
        · simp [Array.getElem?_eq_none h'] at h1
      have h2 := wpOp_putIf hoj (hfree j oj hoj hji hjun hnot) (fun cs b => hsel i oi cs b hi) (fun cs b => hsel j oj cs b hoj) hQ hy h1
      have hfree' : ∀ k ok, ops[k]? = some ok → k ≠ i → (listed.setIfInBounds j true).getD k true = false →
          (∀ e ∈ ok.after, Region.binds md e = true → e.on ≠ i) → oi.apart ops ok = true := fun k ok hk hki hun hno => by
        refine hfree k ok hk hki ?_ hno
        by_cases hjk : j = k
        · subst hjk; exact hjun
        · rw [getD_set_ne true hjk] at hun; exact hun
      refine wpOp_mono (fun a' w' h3 => ?_) h2
      · have up : (listed.setIfInBounds j true).getD st true = false → ((listed.setIfInBounds i true).setIfInBounds j true).getD st true = false := fun h => by
          rw [Array.setIfInBounds_comm _ _ (Ne.symm hji), getD_set_ne true (Ne.symm hsi)]; exact h
        refine ⟨fun h => h3.2.1 (up h), ih (listed.setIfInBounds j true) a' w' hfree' (ready_mono hr (Ne.symm hji)) h3.1 (fun h => h3.2.1 (up h)) ?_⟩
        rw [Array.setIfInBounds_comm _ _ hji]
        exact h3.2.2
theorem wpAnyG_pure {i : Nat} {oi : Oper} {v : Value} {fuel : Nat} {listed : Array Bool} {a : Act} {w : World} (hi : ops[i]? = some oi)
    (hs : Region.noSelect ops = true) (hf : Region.free md ops listed i = true) (hr : (Region.ready md ops listed).contains i = true) (hsi : st ≠ i)
    (hQ : ∀ c a w, Q (.panic c) (a.put oi.dst v) w → Q (.panic c) a w) (hy : YieldsIf P ops (fun _ => True) oi v a) (hS : listed.getD st true = false → S w)
    (h : wpAnyG P md ops Q S st fuel (listed.setIfInBounds i true) (a.put oi.dst v) w) : wpAnyG P md ops Q S st (fuel + 1) listed a w :=
  wpAnyG_firstP hi (Region.noSelect_spec hs) hQ hsi fuel listed a w (Region.free_spec hi hf) (by simpa using hr) hy hS h
/-- The one that may come up comes up. -/
theorem wpAnyG_one {fuel : Nat} {listed : Array Bool} {a : Act} {w : World} {i : Nat} {o : Oper} (hr : Region.ready md ops listed = [i]) (ho : ops[i]? = some o)
    (h : ∀ K' : Act → World → Prop, Shut (∀ a w, ((listed.setIfInBounds i true).getD st true = false → S w) → wpAnyG P md ops Q S st fuel (listed.setIfInBounds i true) a w → K' a w) → if Region.wanted o (yielded ops a.tmps) = true then Oper.wp P o a w K' Q else K' (a.put o.dst undef) w) :
    wpAnyG P md ops Q S st (fuel + 1) listed a w :=
  And.intro (fun h0 => (by rw [hr] at h0; cases h0)) (fun j hj => (by
    rw [hr] at hj
    rcases List.mem_cons.1 hj with rfl | hj
    · exact wpOp_step ho (fun K' hK => h K' (fun a w hS hW => hK a w ⟨hS, hW⟩))
    · cases hj))
theorem wpAnyG_done {listed : Array Bool} {a : Act} {w : World} (hr : Region.ready md ops listed = []) (h : Q .normal a w) :
    ∀ fuel, wpAnyG P md ops Q S st fuel listed a w
  | 0 => ⟨hr, h⟩
  | _ + 1 => ⟨fun _ => h, by rw [hr]; simp⟩
theorem wp_region_G {id : Nat} {a : Act} {w : World} (hm : P.follows .mixedOrders = true)
    (h : wpAnyG P .any ops Q S st ops.size (Array.replicate ops.size false) a w.drew) : (Code.region id ops true).wp P Q a w :=
  wp_region_any hm (wpAny_of_G _ _ _ _ h)
end
theorem Gm.append_no (B : Nat) (i : TypeInfo) (hi : Try.prog.info? 5 = some i) (ty : TypeId) (v : Value) (n : Nat) (xs : List Value) {w : World} (hown : w.ownsRow B 5 1 v n xs) (a : Option Addr) (c : Nat) :
    (Builtin.append_ #[22, 22] ty #[v, .slice a 0 c]).run Try.prog w = .ok v w := by
  have hu := run_underlying (P := Try.prog) Try.underlying22
  have hf : (Builtin.firstCells i.size 0 (.slice a 0 c)).run Try.prog w = .ok #[] w := by
    cases a with
    | none => exact run_firstCells_none w i.size 0 0 c
    | some a => exact run_firstCells_some w i.size 0 a 0 c [] (by simp) (fun j v hj => by simp at hj)
  rcases hown.2 with ⟨rfl, rfl⟩ | ⟨g, cap, cur, rfl, _, _, hnc, _⟩
  · simp [Builtin.append_, hu, sizeOf, typeInfo, hi, Builtin.lenOf, hf]
  · simp [Builtin.append_, hu, sizeOf, typeInfo, hi, Builtin.lenOf, hf, hnc, storeCells]
/-- A slice of one's own, at the start of a block from B on. -/
def OwnV (B : Nat) (v : Value) (l : List UInt8) (W : World) : Prop := ∃ k cap, v = .slice (some ⟨k, 0, none⟩) l.length cap ∧ l.length ≤ cap ∧ B ≤ k ∧ Bx W k (bcs l)
theorem OwnV.kept {B : Nat} {v : Value} {l : List UInt8} {W w1 : World} (h : OwnV B v l W) (hb : Below W.heap.size W w1) : OwnV B v l w1 := by
  obtain ⟨k, cap, h1, h2, h3, h4⟩ := h
  exact ⟨k, cap, h1, h2, h3, h4.kept hb⟩
theorem OwnV.lt {B : Nat} {v : Value} {l : List UInt8} {W : World} (h : OwnV B v l W) : ∀ k, v.ownBlock = some k → B ≤ k ∧ k < W.heap.size := fun j e => by
  obtain ⟨k, cap, h1, h2, h3, h4⟩ := h
  rw [h1] at e; cases e; exact ⟨h3, h4.z⟩
theorem OwnV.off {B b o : Nat} {v x : Value} {l : List UInt8} {W : World} (h : OwnV B v l W) (hb : b < B) : OwnV B v l (W.setCell ⟨b, o, none⟩ x) := by
  obtain ⟨k, cap, h1, h2, h3, h4⟩ := h
  exact ⟨k, cap, h1, h2, h3, h4.far (by omega) x⟩
theorem OwnV.mono {B B' : Nat} {v : Value} {l : List UInt8} {W : World} (h : OwnV B v l W) (hB : B' ≤ B) : OwnV B' v l W := by
  obtain ⟨k, cap, h1, h2, h3, h4⟩ := h
  exact ⟨k, cap, h1, h2, Nat.le_trans hB h3, h4⟩
theorem OwnV.rw {B : Nat} {v : Value} {l : List UInt8} {W : World} (h : OwnV B v l W) : ∃ k, Rw W v k l ∧ B ≤ k ∧ v.ownBlock = some k := by
  obtain ⟨k, cap, h1, h2, h3, h4⟩ := h
  exact ⟨k, Or.inr ⟨cap, h1, h2, h4⟩, h3, by rw [h1]; rfl⟩
theorem own_bx2 {W : World} {B b s n c : Nat} {e : TypeId} {xs : List Value} (h : W.ownsRow B e s (.slice (some ⟨b, 0, none⟩) n c) n xs) : Bx W b xs ∧ n ≤ c ∧ B ≤ b := by
  rcases h.2 with ⟨h1, _⟩ | ⟨g, cap, cur, h1, hb, hg, hn, hm, hs, ht⟩
  · cases h1
  · simp only [Value.slice.injEq, Option.some.injEq, Addr.mk.injEq] at h1
    obtain ⟨⟨rfl, _⟩, _, rfl⟩ := h1
    refine ⟨⟨(Array.getElem?_eq_some_iff.1 hg).1, fun j v hj => ?_, fun o => Lib.frozen_of_heap hg o⟩, hn, hb⟩
    have hjl := (List.getElem?_eq_some_iff.1 hj).1
    rw [h.1] at hjl
    rw [Nat.zero_add, Lib.cell_of_heap hg j, ← hj, ← ht, List.getElem?_take, if_pos hjl]
    simp
/-- Bytes are appended to a new slice without one. -/
theorem wpList_app0 {ops : Array Oper} {rest : List Oper} {o : Oper} {a : Act} {w : World} {Q : Exit → Act → World → Prop} (hgd : o.guard = none) (s x : Operand) (ho : o.op = .call { callee := .builtin .append, args := #[s, x], argTypes := #[22, 22] })
    (B g0 : Nat) (hs : a.eval s = .slice (some ⟨g0, 0, none⟩) 0 0) (hown : w.ownsRow B 5 1 (.slice (some ⟨g0, 0, none⟩) 0 0) 0 []) (xv : Value) (hx : a.eval x = xv) (l : List UInt8) (hl : sliceAt w xv l) (hb : l.length ≤ 140737488355328) (hB : B ≤ w.heap.size)
    (h : ∀ v' w', OwnV B v' l w' → Below B w w' → wpList Try.prog ops Q rest (a.put o.dst v') w') : wpList Try.prog ops Q (o :: rest) a w := by
  obtain ⟨i0, hi0, hz0, hz1, hz2⟩ := info_parts info_byte
  by_cases hl0 : l = []
  · subst hl0
    have hxv : ∃ ad c, xv = .slice ad 0 c := by
      rcases hl with ⟨ad, c, h1, _⟩ | ⟨g, o', c, h1, _⟩
      · exact ⟨ad, c, h1⟩
      · exact ⟨_, c, h1⟩
    obtain ⟨ad, c, rfl⟩ := hxv
    refine wpList_plain hgd fun K hK => ?_
    have hrun := Gm.append_no B i0 hi0 o.type _ 0 [] hown ad c
    unfold Oper.wp
    simp [execOp, ho, resolve, invoke, builtin, hs, hx, hrun, Result.andThen]
    obtain ⟨b1, b2, b3⟩ := own_bx2 hown
    exact hK _ _ (h _ w ⟨g0, 0, rfl, Nat.le_refl _, b3, b1⟩ (Below.refl _ _))
  · rcases hl with ⟨ad, c, _, h2⟩ | ⟨g, o', c, h1, h2, h3, h4⟩
    · exact absurd h2 hl0
    · have hlen : 0 < l.length := by cases l with | nil => exact absurd rfl hl0 | cons _ _ => simp
      refine wpList_append_lies _ hgd s x _ ho B 5 i0 _ 1 1 Try.underlying22 hi0 hz0 hz1 hz2 rfl (by omega) _ 0 [] hs hown ⟨g, o', none⟩ l.length c (bcs l) (hx.trans h1) (by rw [bcs_len]; omega) (fun j u hj => ?_) (fun u hu => ?_) hlen (by unfold maxLen; omega) (by omega) hB w.heap.size rfl ?_
      · simp only [bcs, List.getElem?_map, Option.map_eq_some_iff] at hj
        obtain ⟨cc, hc1, hc2⟩ := hj
        rw [← hc2, show (⟨g, o', none⟩ : Addr).add j = ⟨g, o' + j, none⟩ by unfold Addr.add; split <;> simp_all]
        exact h4 j cc hc1
      · simp only [bcs, List.mem_map] at hu
        obtain ⟨cc, _, rfl⟩ := hu
        rfl
      · intro g' cap w' hown' hgrow _ _
        rw [Nat.zero_add, List.nil_append] at hown'
        obtain ⟨b1, b2, b3⟩ := own_bx2 hown'
        exact h _ w' ⟨g', cap, by rw [Nat.zero_add], b2, b3, b1⟩ ((Below.refl B w).grown hgrow hB (fun k hk => (hown.lt k hk).1))
theorem Gm.own1 (v : Value) (l : List UInt8) (w : World) (hs : sliceAt w v l) (hl : l.length ≤ 140737488355328) : Calls Try.prog 29 #[v] w fun e w' => ∃ v', e = .returned v' ∧ OwnV w.heap.size v' l w' ∧ Below w.heap.size w w' := by
  have HS := hid hs
  clear hs
  go_enter Try.func29, Try.ntmps29
  go_wp2_with (refine wpList_app0 rfl _ _ rfl w.heap.size w.heap.size rfl (World.ownsRow_made w #[] 0 (Nat.le_refl _) (by unfold maxLen; omega) rfl) v rfl l (HS.out.kept (stA (st0 w) _)) hl (by simp) ?_; intro v' w2 hv2 hb2; have HV := hid hv2; have HB := hid ((stA (st0 w) _).trans hb2); clear hv2 hb2)
  exact bodyPost_ret (v := v') (by simp [results, Try.results29, go_sem]) rfl ⟨v', rfl, HV.out, HB.out⟩
/-- While a machine is copied: its box, the result's, the slices that are new. -/
structure OM (w : World) (M : Mach) (S : Sl) (Y : World) : Prop where
  low : Below w.heap.size w Y
  m : Bx Y w.heap.size (machL M S)
  r : Bx Y (w.heap.size + 1) (machL zeroM nilS)
  sl : SlAt Y S M
theorem OM.kept {w Y Y' : World} {M : Mach} {S : Sl} (h : OM w M S Y) (hb : Below Y.heap.size Y Y') : OM w M S Y' := ⟨stp h.low hb, h.m.kept hb, h.r.kept hb, h.sl.kept hb⟩
theorem OM.ss {w Y : World} {M : Mach} {S : Sl} (h : OM w M S Y) : ∀ j, j < 5 → Y.cell? ⟨w.heap.size, 30 + j, none⟩ = some (S.get j) := fun j hj => by
  rcases five hj with rfl | rfl | rfl | rfl | rfl
  · exact h.m.at 30 _ rfl
  · exact h.m.at 31 _ rfl
  · exact h.m.at 32 _ rfl
  · exact h.m.at 33 _ rfl
  · exact h.m.at 34 _ rfl
theorem OwnV.offs {B b : Nat} {v : Value} {l : List UInt8} {W : World} (h : OwnV B v l W) (hb : b < B) (vs : List Value) (o : Nat) : OwnV B v l (W.setCells b o vs) := by
  obtain ⟨k, cap, h1, h2, h3, h4⟩ := h
  exact ⟨k, cap, h1, h2, h3, h4.fars (by omega) o vs⟩
theorem own_cells (M : Mach) (S : Sl) (x0 x1 x2 x3 x4 : Value) : putL (machL M S) 30 [x0, x1, x2, x3, x4] = machL M ⟨x0, x1, x2, x3, x4⟩ := rfl
theorem own_res {Y : World} {b : Nat} {M : Mach} {S : Sl} (h : Bx Y b (machL zeroM nilS)) : Bx (Y.setCells b 0 (machL M S)) b (machL M S) := by
  have hx := h.puts 0 (machL M S) (by rw [machL_len, machL_len]; omega)
  rw [putL_whole _ _ (by rw [machL_len, machL_len])] at hx
  exact hx
theorem SlAt.isSl2 {W : World} {S : Sl} {M : Mach} (h : SlAt W S M) : S.isSl := fun j hj => by
  obtain ⟨a, c, e⟩ := h.lens j hj
  exact ⟨_, _, _, e⟩
/-- A machine's slices, all of its own, no two in one block. -/
structure OwnS (B : Nat) (S : Sl) (M : Mach) (W : World) : Prop where
  own : ∀ j, j < 5 → OwnV B (S.get j) (M.byt j) W
  dist : ∀ i j k, i < 5 → j < 5 → i ≠ j → (S.get i).ownBlock = some k → (S.get j).ownBlock ≠ some k
theorem OwnS.slAt {B : Nat} {S : Sl} {M : Mach} {W : World} (h : OwnS B S M W) : SlAt W S M := fun j hj => by
  obtain ⟨k, hr, _, _⟩ := (h.own j hj).rw
  exact hr.slice
theorem OwnS.offs {B b : Nat} {S : Sl} {M : Mach} {W : World} (h : OwnS B S M W) (hb : b < B) (vs : List Value) (o : Nat) : OwnS B S M (W.setCells b o vs) := ⟨fun j hj => (h.own j hj).offs hb vs o, h.dist⟩
theorem OwnS.mk5 {B f0 f1 f2 f3 f4 f5 : Nat} {x0 x1 x2 x3 x4 : Value} {M : Mach} {W : World} (h0 : OwnV B x0 (M.byt 0) W) (h1 : OwnV B x1 (M.byt 1) W) (h2 : OwnV B x2 (M.byt 2) W) (h3 : OwnV B x3 (M.byt 3) W) (h4 : OwnV B x4 (M.byt 4) W)
    (l0 : ∀ k, x0.ownBlock = some k → f0 ≤ k ∧ k < f1) (l1 : ∀ k, x1.ownBlock = some k → f1 ≤ k ∧ k < f2) (l2 : ∀ k, x2.ownBlock = some k → f2 ≤ k ∧ k < f3) (l3 : ∀ k, x3.ownBlock = some k → f3 ≤ k ∧ k < f4) (l4 : ∀ k, x4.ownBlock = some k → f4 ≤ k ∧ k < f5) (hm : f0 ≤ f1 ∧ f1 ≤ f2 ∧ f2 ≤ f3 ∧ f3 ≤ f4 ∧ f4 ≤ f5) : OwnS B ⟨x0, x1, x2, x3, x4⟩ M W := by
  refine ⟨fun j hj => ?_, fun i j k hi hj hne e1 e2 => ?_⟩
  · rcases five hj with rfl | rfl | rfl | rfl | rfl
    · exact h0
    · exact h1
    · exact h2
    · exact h3
    · exact h4
  · rcases five hi with rfl | rfl | rfl | rfl | rfl <;> rcases five hj with rfl | rfl | rfl | rfl | rfl
    all_goals first
      | exact hne rfl
      | skip
    all_goals
      first
        | (have a1 := l0 k e1) | (have a1 := l1 k e1) | (have a1 := l2 k e1) | (have a1 := l3 k e1) | (have a1 := l4 k e1)
      first
        | (have a2 := l0 k e2) | (have a2 := l1 k e2) | (have a2 := l2 k e2) | (have a2 := l3 k e2) | (have a2 := l4 k e2)
      omega
theorem OwnS.kept {B : Nat} {S : Sl} {M : Mach} {W w1 : World} (h : OwnS B S M W) (hb : Below W.heap.size W w1) : OwnS B S M w1 := ⟨fun j hj => (h.own j hj).kept hb, h.dist⟩
set_option maxHeartbeats 3200000 in
theorem Gm.own_any (M : Mach) (S : Sl) (w : World) (hs : SlAt w S M) (hl : ∀ j, j < 5 → (M.byt j).length ≤ 140737488355328) : Calls Try.prog 15 #[.agg (machL M S).toArray] w fun e w' => ∃ S', e = .returned (.agg (machL M S').toArray) ∧ OwnS (w.heap.size + 2) S' M w' ∧ Below w.heap.size w w' := by
  have HO0 := hid (OM.mk (stA (stA (st0 w) (.cells (machL M S).toArray 41)) (.cells (machL zeroM nilS).toArray 41)) ((Bx.new w (machL M S) 41 (b := w.heap.size) rfl).over _) (Bx.new (w.alloc (.cells (machL M S).toArray 41)) (machL zeroM nilS) 41 (b := w.heap.size + 1) (by simp)) (hs.kept (stA (stA (st0 w) _) _)))
  have HZ : Hid (w.heap.size + 2 ≤ ((w.alloc (.cells (machL M S).toArray 41)).alloc (.cells (machL zeroM nilS).toArray 41)).heap.size) := hid (by simp)
  have HLN := hid hl
  clear hs hl
  go_enter Try.func15, Try.ntmps15
  go_upto_region 2 with fail
  refine Pl.cutW (fun Y => OM w M S Y ∧ w.heap.size + 2 ≤ Y.heap.size) ⟨HO0.out, HZ.out⟩ ?_
  rintro Y ⟨hY, hYz⟩
  have HY := hid hY
  have HYZ := hid hYz
  have hS : ∀ j, j < 5 → Y.drew.cell? ⟨w.heap.size, 30 + j, none⟩ = some (S.get j) := (hY.kept (st0 Y).drew).ss
  clear hY hYz HO0 HZ
  refine wp_region_G (S := fun w' => ∀ j, j < 5 → w'.cell? ⟨w.heap.size, 30 + j, none⟩ = some (S.get j)) (st := 21) (by kernel_rfl) ?_
  refine wpAnyG_pure (i := 0) (oi := { dst := some 4, op := _, type := _, pos := _, after := _, guard := none }) (v := ?_) rfl (by kernel_rfl) (by kernel_rfl) (by kernel_rfl) (by decide) (fun _ _ _ h => h) (Or.inl ⟨by rfl, ?_⟩) (fun _ => hS) ?_
  rotate_left 1
  focus (intro w hSw; go_simp; try (with_reducible rfl))
  simp only [Act.put, List.setIfInBounds_toArray, List.set_cons_zero, List.set_cons_succ]
  refine wpAnyG_pure (i := 1) (oi := { dst := some 5, op := _, type := _, pos := _, after := _, guard := none }) (v := ?_) rfl (by kernel_rfl) (by kernel_rfl) (by kernel_rfl) (by decide) (fun _ _ _ h => h) (Or.inl ⟨by rfl, ?_⟩) (fun _ => hS) ?_
  rotate_left 1
  focus (intro w hSw; go_simp; try (with_reducible rfl))
  simp only [Act.put, List.setIfInBounds_toArray, List.set_cons_zero, List.set_cons_succ]
  refine wpAnyG_pure (i := 4) (oi := { dst := some 8, op := _, type := _, pos := _, after := _, guard := none }) (v := ?_) rfl (by kernel_rfl) (by kernel_rfl) (by kernel_rfl) (by decide) (fun _ _ _ h => h) (Or.inl ⟨by rfl, ?_⟩) (fun _ => hS) ?_
  rotate_left 1
  focus (intro w hSw; go_simp; try (with_reducible rfl))
  simp only [Act.put, List.setIfInBounds_toArray, List.set_cons_zero, List.set_cons_succ]
  refine wpAnyG_pure (i := 5) (oi := { dst := some 9, op := _, type := _, pos := _, after := _, guard := none }) (v := ?_) rfl (by kernel_rfl) (by kernel_rfl) (by kernel_rfl) (by decide) (fun _ _ _ h => h) (Or.inl ⟨by rfl, ?_⟩) (fun _ => hS) ?_
  rotate_left 1
  focus (intro w hSw; go_simp; try (with_reducible rfl))
  simp only [Act.put, List.setIfInBounds_toArray, List.set_cons_zero, List.set_cons_succ]
  refine wpAnyG_pure (i := 8) (oi := { dst := some 12, op := _, type := _, pos := _, after := _, guard := none }) (v := ?_) rfl (by kernel_rfl) (by kernel_rfl) (by kernel_rfl) (by decide) (fun _ _ _ h => h) (Or.inl ⟨by rfl, ?_⟩) (fun _ => hS) ?_
  rotate_left 1
  focus (intro w hSw; go_simp; try (with_reducible rfl))
  simp only [Act.put, List.setIfInBounds_toArray, List.set_cons_zero, List.set_cons_succ]
  refine wpAnyG_pure (i := 9) (oi := { dst := some 13, op := _, type := _, pos := _, after := _, guard := none }) (v := ?_) rfl (by kernel_rfl) (by kernel_rfl) (by kernel_rfl) (by decide) (fun _ _ _ h => h) (Or.inl ⟨by rfl, ?_⟩) (fun _ => hS) ?_
  rotate_left 1
  focus (intro w hSw; go_simp; try (with_reducible rfl))
  simp only [Act.put, List.setIfInBounds_toArray, List.set_cons_zero, List.set_cons_succ]
  refine wpAnyG_pure (i := 12) (oi := { dst := some 16, op := _, type := _, pos := _, after := _, guard := none }) (v := ?_) rfl (by kernel_rfl) (by kernel_rfl) (by kernel_rfl) (by decide) (fun _ _ _ h => h) (Or.inl ⟨by rfl, ?_⟩) (fun _ => hS) ?_
  rotate_left 1
  focus (intro w hSw; go_simp; try (with_reducible rfl))
  simp only [Act.put, List.setIfInBounds_toArray, List.set_cons_zero, List.set_cons_succ]
  refine wpAnyG_pure (i := 13) (oi := { dst := some 17, op := _, type := _, pos := _, after := _, guard := none }) (v := ?_) rfl (by kernel_rfl) (by kernel_rfl) (by kernel_rfl) (by decide) (fun _ _ _ h => h) (Or.inl ⟨by rfl, ?_⟩) (fun _ => hS) ?_
  rotate_left 1
  focus (intro w hSw; go_simp; try (with_reducible rfl))
  simp only [Act.put, List.setIfInBounds_toArray, List.set_cons_zero, List.set_cons_succ]
  refine wpAnyG_pure (i := 16) (oi := { dst := some 20, op := _, type := _, pos := _, after := _, guard := none }) (v := ?_) rfl (by kernel_rfl) (by kernel_rfl) (by kernel_rfl) (by decide) (fun _ _ _ h => h) (Or.inl ⟨by rfl, ?_⟩) (fun _ => hS) ?_
  rotate_left 1
  focus (intro w hSw; go_simp; try (with_reducible rfl))
  simp only [Act.put, List.setIfInBounds_toArray, List.set_cons_zero, List.set_cons_succ]
  refine wpAnyG_pure (i := 17) (oi := { dst := some 21, op := _, type := _, pos := _, after := _, guard := none }) (v := ?_) rfl (by kernel_rfl) (by kernel_rfl) (by kernel_rfl) (by decide) (fun _ _ _ h => h) (Or.inl ⟨by rfl, ?_⟩) (fun _ => hS) ?_
  rotate_left 1
  focus (intro w hSw; go_simp; try (with_reducible rfl))
  simp only [Act.put, List.setIfInBounds_toArray, List.set_cons_zero, List.set_cons_succ]
  refine wpAnyG_take (i := 2) (oi := { dst := some 6, op := _, type := _, pos := _, after := _, guard := none }) (v := S.get 0) rfl (by kernel_rfl) (by kernel_rfl) (by kernel_rfl) (by kernel_rfl) (by decide) (by kernel_rfl) (fun _ _ _ h => h) (Or.inl ⟨by rfl, ?_⟩) hS ?_
  · intro w' hSw
    have hcc := hSw 0 (by omega)
    have hcz := World.block_lt_of_cell? w' _ hcc
    go_simp
    try (with_reducible rfl)
  simp only [Act.put, List.setIfInBounds_toArray, List.set_cons_zero, List.set_cons_succ]
  refine wpAnyG_take (i := 6) (oi := { dst := some 10, op := _, type := _, pos := _, after := _, guard := none }) (v := S.get 1) rfl (by kernel_rfl) (by kernel_rfl) (by kernel_rfl) (by kernel_rfl) (by decide) (by kernel_rfl) (fun _ _ _ h => h) (Or.inl ⟨by rfl, ?_⟩) hS ?_
  · intro w' hSw
    have hcc := hSw 1 (by omega)
    have hcz := World.block_lt_of_cell? w' _ hcc
    go_simp
    try (with_reducible rfl)
  simp only [Act.put, List.setIfInBounds_toArray, List.set_cons_zero, List.set_cons_succ]
  refine wpAnyG_take (i := 10) (oi := { dst := some 14, op := _, type := _, pos := _, after := _, guard := none }) (v := S.get 2) rfl (by kernel_rfl) (by kernel_rfl) (by kernel_rfl) (by kernel_rfl) (by decide) (by kernel_rfl) (fun _ _ _ h => h) (Or.inl ⟨by rfl, ?_⟩) hS ?_
  · intro w' hSw
    have hcc := hSw 2 (by omega)
    have hcz := World.block_lt_of_cell? w' _ hcc
    go_simp
    try (with_reducible rfl)
  simp only [Act.put, List.setIfInBounds_toArray, List.set_cons_zero, List.set_cons_succ]
  refine wpAnyG_take (i := 14) (oi := { dst := some 18, op := _, type := _, pos := _, after := _, guard := none }) (v := S.get 3) rfl (by kernel_rfl) (by kernel_rfl) (by kernel_rfl) (by kernel_rfl) (by decide) (by kernel_rfl) (fun _ _ _ h => h) (Or.inl ⟨by rfl, ?_⟩) hS ?_
  · intro w' hSw
    have hcc := hSw 3 (by omega)
    have hcz := World.block_lt_of_cell? w' _ hcc
    go_simp
    try (with_reducible rfl)
  simp only [Act.put, List.setIfInBounds_toArray, List.set_cons_zero, List.set_cons_succ]
  refine wpAnyG_take (i := 18) (oi := { dst := some 22, op := _, type := _, pos := _, after := _, guard := none }) (v := S.get 4) rfl (by kernel_rfl) (by kernel_rfl) (by kernel_rfl) (by kernel_rfl) (by decide) (by kernel_rfl) (fun _ _ _ h => h) (Or.inl ⟨by rfl, ?_⟩) hS ?_
  · intro w' hSw
    have hcc := hSw 4 (by omega)
    have hcz := World.block_lt_of_cell? w' _ hcc
    go_simp
    try (with_reducible rfl)
  simp only [Act.put, List.setIfInBounds_toArray, List.set_cons_zero, List.set_cons_succ]
  refine wpAnyG_one (i := 3) (o := { dst := some 7, op := _, type := _, pos := _, after := _, guard := none }) (by kernel_rfl) rfl (fun K hK => ?_)
  go_simp
  go_at_call 29
  refine (Gm.own1 (S.get 0) (M.byt 0) _ ((HY.out.kept (st0 Y).drew).sl 0 (by omega)) (HLN.out 0 (by omega))).mono ?_
  rintro e W1 ⟨x0, rfl, hx0, hb0⟩
  have HX0 := hid hx0
  have HO1 := hid ((HY.out.kept (st0 Y).drew).kept hb0)
  have HB0 := hid hb0
  clear hx0 hb0
  try go_wp2_with fail
  refine hK.out _ _ (fun _ => HO1.out.ss) ?_
  clear hK K
  try simp only [Act.put, List.setIfInBounds_toArray, List.set_cons_zero, List.set_cons_succ]
  refine wpAnyG_pure (i := 20) (oi := { dst := some 24, op := _, type := _, pos := _, after := _, guard := none }) (v := ?_) rfl (by kernel_rfl) (by kernel_rfl) (by kernel_rfl) (by decide) (fun _ _ _ h => h) (Or.inl ⟨by rfl, ?_⟩) (fun _ => HO1.out.ss) ?_
  rotate_left 1
  focus (intro w hSw; go_simp; try (with_reducible rfl))
  simp only [Act.put, List.setIfInBounds_toArray, List.set_cons_zero, List.set_cons_succ]
  refine wpAnyG_one (i := 7) (o := { dst := some 11, op := _, type := _, pos := _, after := _, guard := none }) (by kernel_rfl) rfl (fun K hK => ?_)
  go_simp
  go_at_call 29
  refine (Gm.own1 (S.get 1) (M.byt 1) _ ((HO1.out).sl 1 (by omega)) (HLN.out 1 (by omega))).mono ?_
  rintro e W2 ⟨x1, rfl, hx1, hb1⟩
  have HX1 := hid hx1
  have HO2 := hid ((HO1.out).kept hb1)
  have HB1 := hid hb1
  clear hx1 hb1
  try go_wp2_with fail
  refine hK.out _ _ (fun _ => HO2.out.ss) ?_
  clear hK K
  try simp only [Act.put, List.setIfInBounds_toArray, List.set_cons_zero, List.set_cons_succ]
  refine wpAnyG_one (i := 11) (o := { dst := some 15, op := _, type := _, pos := _, after := _, guard := none }) (by kernel_rfl) rfl (fun K hK => ?_)
  go_simp
  go_at_call 29
  refine (Gm.own1 (S.get 2) (M.byt 2) _ ((HO2.out).sl 2 (by omega)) (HLN.out 2 (by omega))).mono ?_
  rintro e W3 ⟨x2, rfl, hx2, hb2⟩
  have HX2 := hid hx2
  have HO3 := hid ((HO2.out).kept hb2)
  have HB2 := hid hb2
  clear hx2 hb2
  try go_wp2_with fail
  refine hK.out _ _ (fun _ => HO3.out.ss) ?_
  clear hK K
  try simp only [Act.put, List.setIfInBounds_toArray, List.set_cons_zero, List.set_cons_succ]
  refine wpAnyG_one (i := 15) (o := { dst := some 19, op := _, type := _, pos := _, after := _, guard := none }) (by kernel_rfl) rfl (fun K hK => ?_)
  go_simp
  go_at_call 29
  refine (Gm.own1 (S.get 3) (M.byt 3) _ ((HO3.out).sl 3 (by omega)) (HLN.out 3 (by omega))).mono ?_
  rintro e W4 ⟨x3, rfl, hx3, hb3⟩
  have HX3 := hid hx3
  have HO4 := hid ((HO3.out).kept hb3)
  have HB3 := hid hb3
  clear hx3 hb3
  try go_wp2_with fail
  refine hK.out _ _ (fun _ => HO4.out.ss) ?_
  clear hK K
  try simp only [Act.put, List.setIfInBounds_toArray, List.set_cons_zero, List.set_cons_succ]
  refine wpAnyG_one (i := 19) (o := { dst := some 23, op := _, type := _, pos := _, after := _, guard := none }) (by kernel_rfl) rfl (fun K hK => ?_)
  go_simp
  go_at_call 29
  refine (Gm.own1 (S.get 4) (M.byt 4) _ ((HO4.out).sl 4 (by omega)) (HLN.out 4 (by omega))).mono ?_
  rintro e W5 ⟨x4, rfl, hx4, hb4⟩
  have HX4 := hid hx4
  have HO5 := hid ((HO4.out).kept hb4)
  have HB4 := hid hb4
  clear hx4 hb4
  try go_wp2_with fail
  refine hK.out _ _ (fun _ => HO5.out.ss) ?_
  clear hK K
  try simp only [Act.put, List.setIfInBounds_toArray, List.set_cons_zero, List.set_cons_succ]
  have hS5 := HO5.out.ss
  have hcs : ∀ j, j < 5 → (W5.cell? ⟨w.heap.size, 30 + j, none⟩).isSome = true := fun j hj => by rw [hS5 j hj]; rfl
  have hff := HO5.out.m.f
  have hzz := HO5.out.m.z
  have hc0 := hS5 0 (by omega)
  have hc1 := hS5 1 (by omega)
  have hc2 := hS5 2 (by omega)
  have hc3 := hS5 3 (by omega)
  have hc4 := hS5 4 (by omega)
  obtain ⟨k0, p0, ev0, _⟩ := HX0.out
  obtain ⟨k1, p1, ev1, _⟩ := HX1.out
  obtain ⟨k2, p2, ev2, _⟩ := HX2.out
  obtain ⟨k3, p3, ev3, _⟩ := HX3.out
  obtain ⟨k4, p4, ev4, _⟩ := HX4.out
  have EV0 := hid ev0
  have EV1 := hid ev1
  have EV2 := hid ev2
  have EV3 := hid ev3
  have EV4 := hid ev4
  have o0 : x0.oneCell' = true := by rw [ev0]; rfl
  have o1 : x1.oneCell' = true := by rw [ev1]; rfl
  have o2 : x2.oneCell' = true := by rw [ev2]; rfl
  have o3 : x3.oneCell' = true := by rw [ev3]; rfl
  have o4 : x4.oneCell' = true := by rw [ev4]; rfl
  clear hcs hS5 ev0 ev1 ev2 ev3 ev4
  refine wpAnyG_one (i := 21) (o := { dst := none, op := _, type := _, pos := _, after := _, guard := none }) (by kernel_rfl) rfl (fun K hK => ?_)
  rw [EV0.out]
  go_simp
  refine hK.out _ _ (fun h => by simp at h) ?_
  clear hK K
  try simp only [Act.put, List.setIfInBounds_toArray, List.set_cons_zero, List.set_cons_succ]
  refine wpAnyG_pure (i := 22) (oi := { dst := some 25, op := _, type := _, pos := _, after := _, guard := none }) (v := ?_) rfl (by kernel_rfl) (by kernel_rfl) (by kernel_rfl) (by decide) (fun _ _ _ h => h) (Or.inl ⟨by rfl, ?_⟩) (fun h => by simp at h) ?_
  rotate_left 1
  focus (intro w hSw; go_simp; try (with_reducible rfl))
  simp only [Act.put, List.setIfInBounds_toArray, List.set_cons_zero, List.set_cons_succ]
  refine wpAnyG_one (i := 23) (o := { dst := none, op := _, type := _, pos := _, after := _, guard := none }) (by kernel_rfl) rfl (fun K hK => ?_)
  rw [EV1.out]
  go_simp
  refine hK.out _ _ (fun h => by simp at h) ?_
  clear hK K
  try simp only [Act.put, List.setIfInBounds_toArray, List.set_cons_zero, List.set_cons_succ]
  refine wpAnyG_pure (i := 24) (oi := { dst := some 26, op := _, type := _, pos := _, after := _, guard := none }) (v := ?_) rfl (by kernel_rfl) (by kernel_rfl) (by kernel_rfl) (by decide) (fun _ _ _ h => h) (Or.inl ⟨by rfl, ?_⟩) (fun h => by simp at h) ?_
  rotate_left 1
  focus (intro w hSw; go_simp; try (with_reducible rfl))
  simp only [Act.put, List.setIfInBounds_toArray, List.set_cons_zero, List.set_cons_succ]
  refine wpAnyG_one (i := 25) (o := { dst := none, op := _, type := _, pos := _, after := _, guard := none }) (by kernel_rfl) rfl (fun K hK => ?_)
  rw [EV2.out]
  go_simp
  refine hK.out _ _ (fun h => by simp at h) ?_
  clear hK K
  try simp only [Act.put, List.setIfInBounds_toArray, List.set_cons_zero, List.set_cons_succ]
  refine wpAnyG_pure (i := 26) (oi := { dst := some 27, op := _, type := _, pos := _, after := _, guard := none }) (v := ?_) rfl (by kernel_rfl) (by kernel_rfl) (by kernel_rfl) (by decide) (fun _ _ _ h => h) (Or.inl ⟨by rfl, ?_⟩) (fun h => by simp at h) ?_
  rotate_left 1
  focus (intro w hSw; go_simp; try (with_reducible rfl))
  simp only [Act.put, List.setIfInBounds_toArray, List.set_cons_zero, List.set_cons_succ]
  refine wpAnyG_one (i := 27) (o := { dst := none, op := _, type := _, pos := _, after := _, guard := none }) (by kernel_rfl) rfl (fun K hK => ?_)
  rw [EV3.out]
  go_simp
  refine hK.out _ _ (fun h => by simp at h) ?_
  clear hK K
  try simp only [Act.put, List.setIfInBounds_toArray, List.set_cons_zero, List.set_cons_succ]
  refine wpAnyG_pure (i := 28) (oi := { dst := some 28, op := _, type := _, pos := _, after := _, guard := none }) (v := ?_) rfl (by kernel_rfl) (by kernel_rfl) (by kernel_rfl) (by decide) (fun _ _ _ h => h) (Or.inl ⟨by rfl, ?_⟩) (fun h => by simp at h) ?_
  rotate_left 1
  focus (intro w hSw; go_simp; try (with_reducible rfl))
  simp only [Act.put, List.setIfInBounds_toArray, List.set_cons_zero, List.set_cons_succ]
  refine wpAnyG_one (i := 29) (o := { dst := none, op := _, type := _, pos := _, after := _, guard := none }) (by kernel_rfl) rfl (fun K hK => ?_)
  rw [EV4.out]
  go_simp
  refine hK.out _ _ (fun h => by simp at h) ?_
  clear hK K
  try simp only [Act.put, List.setIfInBounds_toArray, List.set_cons_zero, List.set_cons_succ]
  refine wpAnyG_done (by kernel_rfl) ?_ _
  rw [← EV0.out, ← EV1.out, ← EV2.out, ← EV3.out, ← EV4.out]
  refine Pl.cutE (fun V => Below w.heap.size w V ∧ Bx V w.heap.size (machL M ⟨x0, x1, x2, x3, x4⟩) ∧ Bx V (w.heap.size + 1) (machL zeroM nilS) ∧ OwnS (w.heap.size + 2) ⟨x0, x1, x2, x3, x4⟩ M V) ⟨Bl.puts (o := 30) HO5.out.low (Nat.le_refl _) [x0, x1, x2, x3, x4], own_cells M S x0 x1 x2 x3 x4 ▸ HO5.out.m.puts 30 [x0, x1, x2, x3, x4] (by rw [machL_len]; simp), HO5.out.r.fars (by omega) 30 [x0, x1, x2, x3, x4], ?_⟩ ?_
  · have z0 := HYZ.out
    have z1 := HB0.out.size
    have z2 := HB1.out.size
    have z3 := HB2.out.size
    have z4 := HB3.out.size
    have z5 := HB4.out.size
    have hy : Y.drew.heap.size = Y.heap.size := rfl
    exact OwnS.mk5 (f0 := Y.heap.size) (f1 := W1.heap.size) (f2 := W2.heap.size) (f3 := W3.heap.size) (f4 := W4.heap.size) (f5 := W5.heap.size)
      (((((HX0.out.kept HB1.out).kept HB2.out).kept HB3.out).kept HB4.out).offs (by omega) [x0, x1, x2, x3, x4] 30 |>.mono z0) ((((HX1.out.kept HB2.out).kept HB3.out).kept HB4.out).offs (by omega) [x0, x1, x2, x3, x4] 30 |>.mono (by omega)) (((HX2.out.kept HB3.out).kept HB4.out).offs (by omega) [x0, x1, x2, x3, x4] 30 |>.mono (by omega)) ((HX3.out.kept HB4.out).offs (by omega) [x0, x1, x2, x3, x4] 30 |>.mono (by omega)) (HX4.out.offs (by omega) [x0, x1, x2, x3, x4] 30 |>.mono (by omega))
      HX0.out.lt HX1.out.lt HX2.out.lt HX3.out.lt HX4.out.lt (by omega)
  rintro V ⟨hV1, hV2, hV3, hV4⟩
  have HV1 := hid hV1
  have HV2 := hid hV2
  have HV3 := hid hV3
  have HV4 := hid hV4
  clear hV1 hV2 hV3 hV4
  go_wp2_with (first
    | (refine wpList_load_mid rfl 41 _ rfl w.heap.size 0 rfl (machL M ⟨x0, x1, x2, x3, x4⟩) _ HV2.out.c Try.underlying41 rfl info_mach ?_)
    | (refine wpList_store_mid rfl 41 _ _ rfl (w.heap.size + 1) 0 (machL M ⟨x0, x1, x2, x3, x4⟩).toArray rfl rfl (HV3.out.there 0 75 (by rw [machL_len]; omega)) info_mach (machL_one _ _ HV4.out.slAt.isSl2) ?_
       refine Pl.cutL (fun X => Below w.heap.size w X ∧ Bx X (w.heap.size + 1) (machL M ⟨x0, x1, x2, x3, x4⟩) ∧ OwnS (w.heap.size + 2) ⟨x0, x1, x2, x3, x4⟩ M X) ⟨Bl.puts HV1.out (by omega) _, own_res HV3.out, HV4.out.offs (by omega) _ _⟩ ?_
       rintro X ⟨hX1, hX2, hX3⟩
       have HX1 := hid hX1
       have HX2 := hid hX2
       have HX3 := hid hX3
       clear hX1 hX2 hX3))
  exact bodyPost_ret (v := .agg (machL M ⟨x0, x1, x2, x3, x4⟩).toArray) (by simp only [results, Try.results15]; simp; exact Pl.res (load_mach _ _ HX2.out.c)) rfl ⟨_, rfl, HX3.out, HX1.out⟩
section
variable {F : Gx} {W : World} {M : Mach} {tk : Tk} {mb hb lb gb : Nat}
theorem Gm.putN0 (h : Gd F W M tk) (a n : Int) (h1 : 0 ≤ a) (h2 : a < 32768) : Calls Try.prog 38 #[.int .u16 a, .int .u8 n, pt mb 0, pt hb 0, pt lb 0, pt gb 0] W fun e w' => e = .returned (.tuple #[]) ∧ Gd F w' M tk ∧ Gt F W w' := by
  have H := hid h
  clear h
  go_enter Try.func38, Try.ntmps38
  go_wp2_with (go_at_call 32; refine (Gm.reg0 a _ h1 h2).mono ?_; rintro e w1 ⟨rfl, rfl⟩)
  go_end0
  exact ⟨rfl, H.out, Gt.refl _ _⟩
theorem Gm.putN4 (h : Gd F W M tk) (a n : Int) (h1 : 57344 ≤ a) (h2 : a ≤ 65535) : Calls Try.prog 38 #[.int .u16 a, .int .u8 n, pt mb 0, pt hb 0, pt lb 0, pt gb 0] W fun e w' => e = .returned (.tuple #[]) ∧ Gd F w' M tk ∧ Gt F W w' := by
  have H := hid h
  clear h
  go_enter Try.func38, Try.ntmps38
  go_wp2_with (go_at_call 32; refine (Gm.reg4 a _ h1 h2).mono ?_; rintro e w1 ⟨rfl, rfl⟩)
  go_end0
  exact ⟨rfl, H.out, Gt.refl _ _⟩
theorem Gm.putN1 (h : Gd F W M tk) (hm : Pb F W mb) (a n : Int) (h1 : 32768 ≤ a) (h2 : a < 49152) (hn : 0 ≤ n ∧ n ≤ 255) : Calls Try.prog 38 #[.int .u16 a, .int .u8 n, pt mb 0, pt hb 0, pt lb 0, pt gb 0] W fun e w' => e = .returned (.tuple #[]) ∧ Gd F w' { M with ram := bput M.ram ((a - 32768) % 128) n } tk ∧ Gt F W w' := by
  obtain ⟨y1, e1, _⟩ := hm
  obtain ⟨cap, e, _, _⟩ := h.ramV
  have c32 : W.cell? ⟨F.g, 32, none⟩ = some (.slice (some ⟨F.ra, 0, none⟩) 128 cap) := (h.at 32 F.S.ra rfl).trans (by rw [e])
  obtain ⟨ec, ez, ef⟩ := h.ramAt ((a - 32768) % 128) (by omega) (by omega)
  have hmd : Int.tmod (a - 32768) 128 = (a - 32768) % 128 := Int.tmod_eq_emod_of_nonneg (by omega)
  have hg := h.bx.z
  have H := hid h
  clear h e
  go_enter Try.func38, Try.ntmps38
  go_wp2_with (go_at_call 32; refine (Gm.reg1 a _ h1 h2).mono ?_; rintro e w1 ⟨rfl, rfl⟩)
  go_end0
  exact ⟨rfl, H.out.putRam _ n (by omega) (by omega) hn, (Gt.refl _ _).setR H.out.nd _ _⟩
theorem Gm.putN2 (h : Gd F W M tk) (hm : Pb F W mb) (a n : Int) (h1 : 49152 ≤ a) (h2 : a < 53248) (hn : 0 ≤ n ∧ n ≤ 255) : Calls Try.prog 38 #[.int .u16 a, .int .u8 n, pt mb 0, pt hb 0, pt lb 0, pt gb 0] W fun e w' => e = .returned (.tuple #[]) ∧ Gd F w' { M with video := bput M.video ((a - 49152) % 256) n } tk ∧ Gt F W w' := by
  obtain ⟨y1, e1, _⟩ := hm
  obtain ⟨cap, e, _, _⟩ := h.viV
  have c34 : W.cell? ⟨F.g, 34, none⟩ = some (.slice (some ⟨F.vi, 0, none⟩) 256 cap) := (h.at 34 F.S.vi rfl).trans (by rw [e])
  obtain ⟨ec, ez, ef⟩ := h.viAt ((a - 49152) % 256) (by omega) (by omega)
  have hmd : Int.tmod a 256 = (a - 49152) % 256 := by rw [Int.tmod_eq_emod_of_nonneg (by omega)]; omega
  have hg := h.bx.z
  have H := hid h
  clear h e
  go_enter Try.func38, Try.ntmps38
  go_wp2_with (go_at_call 32; refine (Gm.reg2 a _ h1 h2).mono ?_; rintro e w1 ⟨rfl, rfl⟩)
  go_end0
  exact ⟨rfl, H.out.putVideo _ n (by omega) (by omega) hn, (Gt.refl _ _).setV H.out.nd _ _⟩
theorem Gm.putP8 (h : Gd F W M tk) (hm : Pu F W mb hb lb gb) (a n : Int) (h1 : 53248 ≤ a) (h2 : a ≤ 57343) (hn : 0 ≤ n ∧ n ≤ 255) (hk : Int.tmod a 32 = 8) : Calls Try.prog 38 #[.int .u16 a, .int .u8 n, pt mb 0, pt hb 0, pt lb 0, pt gb 0] W fun e w' => e = .returned (.tuple #[]) ∧ Gd F w' (M.putM 8 n) tk ∧ Gt F W w' := by
  obtain ⟨y1, e1, _⟩ := hm.m
  have c1 := h.at 63 (.bool M.b.g) rfl
  have f1 := h.bx.f 63
  have hg := h.bx.z
  have H := hid h
  clear h hm
  go_enter Try.func38, Try.ntmps38
  go_wp2_with (go_at_call 32; refine (Gm.reg3 a _ h1 h2).mono ?_; rintro e w1 ⟨rfl, rfl⟩)
  go_end0
  exact ⟨rfl, H.out.put (M' := M.putM 8 n) 63 _ (by omega) rfl ⟨rfl, rfl, rfl, rfl, rfl⟩ (show Mach.fit { M with b := { M.b with g := false } } from { H.out.fit with main := H.out.fit.main }), (Gt.refl _ _).set H.out.nd _ _⟩
theorem Gm.putP17 (h : Gd F W M tk) (hm : Pu F W mb hb lb gb) (a n : Int) (h1 : 53248 ≤ a) (h2 : a ≤ 57343) (hn : 0 ≤ n ∧ n ≤ 255) (hk : Int.tmod a 32 = 17) : Calls Try.prog 38 #[.int .u16 a, .int .u8 n, pt mb 0, pt hb 0, pt lb 0, pt gb 0] W fun e w' => e = .returned (.tuple #[]) ∧ Gd F w' (M.putM 17 n) tk ∧ Gt F W w' := by
  obtain ⟨y1, e1, x1⟩ := hm.m
  have c1 := h.at 69 (.int .u8 M.m0) rfl
  have c2 := h.at 71 (.bool M.rung) rfl
  have f1 := h.bx.f
  have hg := h.bx.z
  have hne : mb ≠ F.g := hm.m.ne
  have H := hid h
  clear h hm
  go_enter Try.func38, Try.ntmps38
  go_wp2_with (go_at_call 32; refine (Gm.reg3 a _ h1 h2).mono ?_; rintro e w1 ⟨rfl, rfl⟩)
  go_end0
  have hq : Mach.fit { M with m0 := n } := Mach.fit.of H.out.fit ⟨H.out.fit.main, H.out.fit.aux, H.out.fit.p0, H.out.fit.p1, H.out.fit.tr, H.out.fit.tc, H.out.fit.s, H.out.fit.fr, H.out.fit.to, hn, H.out.fit.m1⟩ ⟨rfl, rfl, rfl, rfl, rfl⟩ rfl ⟨rfl, rfl, rfl⟩ ⟨rfl, rfl⟩ (Or.inl rfl)
  exact ⟨rfl, (H.out.put (M' := { M with m0 := n }) (tk' := tk) 69 _ (by omega) rfl ⟨rfl, rfl, rfl, rfl, rfl⟩ hq).put 71 _ (by omega) rfl ⟨rfl, rfl, rfl, rfl, rfl⟩ (show Mach.fit { M with m0 := n, rung := true } from { hq with main := hq.main }), ((Gt.refl _ _).set H.out.nd _ _).set H.out.nd _ _⟩
theorem Gm.putPd (h : Gd F W M tk) (hm : Pu F W mb hb lb gb) (a n : Int) (h1 : 53248 ≤ a) (h2 : a ≤ 57343) (hn : 0 ≤ n ∧ n ≤ 255) (k : Int) (hk : Int.tmod a 32 = k) (k0 : 0 ≤ k) (k1 : k ≤ 31) (n0 : (k == 0) = false) (n2 : (k == 2) = false) (n3 : (k == 3) = false) (n4 : (k == 4) = false) (n8 : (k == 8) = false) (n10 : (k == 10) = false) (n11 : (k == 11) = false) (n12 : (k == 12) = false) (n13 : (k == 13) = false) (n14 : (k == 14) = false) (n16 : (k == 16) = false) (n17 : (k == 17) = false) : Calls Try.prog 38 #[.int .u16 a, .int .u8 n, pt mb 0, pt hb 0, pt lb 0, pt gb 0] W fun e w' => e = .returned (.tuple #[]) ∧ Gd F w' M tk ∧ Gt F W w' := by
  have H := hid h
  clear h hm
  go_enter Try.func38, Try.ntmps38
  go_wp2_with (go_at_call 32; refine (Gm.reg3 a _ h1 h2).mono ?_; rintro e w1 ⟨rfl, rfl⟩)
  go_end0
  exact ⟨rfl, H.out, Gt.refl _ _⟩
end
section
variable {F : Gx} {W : World} {M : Mach} {tk : Tk} {mb hb lb gb : Nat}
set_option maxHeartbeats 3200000 in
theorem Gm.putP0 (h : Gd F W M tk) (hm : Pu F W mb hb lb gb) (a n : Int) (h1 : 53248 ≤ a) (h2 : a ≤ 57343) (hn : 0 ≤ n ∧ n ≤ 255) (hk : Int.tmod a 32 = 0) : Calls Try.prog 38 #[.int .u16 a, .int .u8 n, pt mb 0, pt hb 0, pt lb 0, pt gb 0] W fun e w' => e = .returned (.tuple #[]) ∧ Gd F w' (M.putM 0 n) tk ∧ Gt F W w' := by
  obtain ⟨y1, e1, x1⟩ := hm.m
  have c0 := h.at 35 (.int .u8 M.p0.d) rfl
  have c1 := h.at 36 (.bool M.p0.l) rfl
  have c2 := h.at 37 (.int .u8 M.p0.s) rfl
  have c3 := h.at 38 (.int .u8 M.p1.d) rfl
  have c4 := h.at 39 (.bool M.p1.l) rfl
  have c5 := h.at 40 (.int .u8 M.p1.s) rfl
  have hg := h.bx.z
  have HNE : Hid (mb ≠ F.g) := hid hm.m.ne
  have H := hid h
  clear h hm
  go_enter Try.func38, Try.ntmps38
  go_wp2_with (go_at_call 32; refine (Gm.reg3 a _ h1 h2).mono ?_; rintro e w1 ⟨rfl, rfl⟩)
  refine wp_region_held_drew (S := fun w' => w'.cell? ⟨mb, 0, none⟩ = some (pt F.g 0)) (by kernel_rfl) (e1) ?_
  intro hS
  refine wpAnyH_take (i := 0) (oi := { dst := some 42, op := _, type := _, pos := _, after := _, guard := none }) (v := ?_) rfl (by kernel_rfl) (by kernel_rfl) (by kernel_rfl) (fun _ _ _ h => h) (Or.inl ⟨by rfl, ?_⟩) hS ?_
  rotate_left 1
  focus (intro w hSw; (try dsimp only at hSw); go_simp; try (with_reducible rfl))
  simp only [Act.put, List.setIfInBounds_toArray, List.set_cons_zero, List.set_cons_succ]
  refine wpAnyH_take (i := 1) (oi := { dst := some 43, op := _, type := _, pos := _, after := _, guard := none }) (v := ?_) rfl (by kernel_rfl) (by kernel_rfl) (by kernel_rfl) (fun _ _ _ h => h) (Or.inl ⟨by rfl, ?_⟩) hS ?_
  rotate_left 1
  focus (intro w hSw; (try dsimp only at hSw); go_simp; try (with_reducible rfl))
  simp only [Act.put, List.setIfInBounds_toArray, List.set_cons_zero, List.set_cons_succ]
  refine wpAnyH_take (i := 2) (oi := { dst := some 44, op := _, type := _, pos := _, after := _, guard := none }) (v := ?_) rfl (by kernel_rfl) (by kernel_rfl) (by kernel_rfl) (fun _ _ _ h => h) (Or.inl ⟨by rfl, ?_⟩) hS ?_
  rotate_left 1
  focus (intro w hSw; (try dsimp only at hSw); go_simp; try (with_reducible rfl))
  simp only [Act.put, List.setIfInBounds_toArray, List.set_cons_zero, List.set_cons_succ]
  refine wpAnyH_take (i := 3) (oi := { dst := some 45, op := _, type := _, pos := _, after := _, guard := none }) (v := ?_) rfl (by kernel_rfl) (by kernel_rfl) (by kernel_rfl) (fun _ _ _ h => h) (Or.inl ⟨by rfl, ?_⟩) hS ?_
  rotate_left 1
  focus (intro w hSw; (try dsimp only at hSw); go_simp; try (with_reducible rfl))
  simp only [Act.put, List.setIfInBounds_toArray, List.set_cons_zero, List.set_cons_succ]
  refine wpAnyH_take (i := 4) (oi := { dst := some 46, op := _, type := _, pos := _, after := _, guard := none }) (v := ?_) rfl (by kernel_rfl) (by kernel_rfl) (by kernel_rfl) (fun _ _ _ h => h) (Or.inl ⟨by rfl, ?_⟩) hS ?_
  rotate_left 1
  focus (intro w hSw; (try dsimp only at hSw); go_simp; try (with_reducible rfl))
  simp only [Act.put, List.setIfInBounds_toArray, List.set_cons_zero, List.set_cons_succ]
  refine wpAnyH_take (i := 5) (oi := { dst := some 47, op := _, type := _, pos := _, after := _, guard := none }) (v := ?_) rfl (by kernel_rfl) (by kernel_rfl) (by kernel_rfl) (fun _ _ _ h => h) (Or.inl ⟨by rfl, ?_⟩) hS ?_
  rotate_left 1
  focus (intro w hSw; (try dsimp only at hSw); go_simp; try (with_reducible rfl))
  simp only [Act.put, List.setIfInBounds_toArray, List.set_cons_zero, List.set_cons_succ]
  refine wpAnyH_take (i := 7) (oi := { dst := some 49, op := _, type := _, pos := _, after := _, guard := none }) (v := ?_) rfl (by kernel_rfl) (by kernel_rfl) (by kernel_rfl) (fun _ _ _ h => h) (Or.inl ⟨by rfl, ?_⟩) hS ?_
  rotate_left 1
  focus (intro w hSw; (try dsimp only at hSw); go_simp; try (with_reducible rfl))
  simp only [Act.put, List.setIfInBounds_toArray, List.set_cons_zero, List.set_cons_succ]
  refine wpAnyH_take (i := 9) (oi := { dst := some 51, op := _, type := _, pos := _, after := _, guard := none }) (v := ?_) rfl (by kernel_rfl) (by kernel_rfl) (by kernel_rfl) (fun _ _ _ h => h) (Or.inl ⟨by rfl, ?_⟩) hS ?_
  rotate_left 1
  focus (intro w hSw; (try dsimp only at hSw); go_simp; try (with_reducible rfl))
  simp only [Act.put, List.setIfInBounds_toArray, List.set_cons_zero, List.set_cons_succ]
  refine wpAnyH_take (i := 10) (oi := { dst := some 52, op := _, type := _, pos := _, after := _, guard := none }) (v := ?_) rfl (by kernel_rfl) (by kernel_rfl) (by kernel_rfl) (fun _ _ _ h => h) (Or.inl ⟨by rfl, ?_⟩) hS ?_
  rotate_left 1
  focus (intro w hSw; (try dsimp only at hSw); go_simp; try (with_reducible rfl))
  simp only [Act.put, List.setIfInBounds_toArray, List.set_cons_zero, List.set_cons_succ]
  refine wpAnyH_take (i := 11) (oi := { dst := some 53, op := _, type := _, pos := _, after := _, guard := none }) (v := ?_) rfl (by kernel_rfl) (by kernel_rfl) (by kernel_rfl) (fun _ _ _ h => h) (Or.inl ⟨by rfl, ?_⟩) hS ?_
  rotate_left 1
  focus (intro w hSw; (try dsimp only at hSw); go_simp; try (with_reducible rfl))
  simp only [Act.put, List.setIfInBounds_toArray, List.set_cons_zero, List.set_cons_succ]
  refine wpAnyH_take (i := 12) (oi := { dst := some 54, op := _, type := _, pos := _, after := _, guard := none }) (v := ?_) rfl (by kernel_rfl) (by kernel_rfl) (by kernel_rfl) (fun _ _ _ h => h) (Or.inl ⟨by rfl, ?_⟩) hS ?_
  rotate_left 1
  focus (intro w hSw; (try dsimp only at hSw); go_simp; try (with_reducible rfl))
  simp only [Act.put, List.setIfInBounds_toArray, List.set_cons_zero, List.set_cons_succ]
  refine wpAnyH_take (i := 14) (oi := { dst := some 56, op := _, type := _, pos := _, after := _, guard := none }) (v := ?_) rfl (by kernel_rfl) (by kernel_rfl) (by kernel_rfl) (fun _ _ _ h => h) (Or.inl ⟨by rfl, ?_⟩) hS ?_
  rotate_left 1
  focus (intro w hSw; (try dsimp only at hSw); go_simp; try (with_reducible rfl))
  simp only [Act.put, List.setIfInBounds_toArray, List.set_cons_zero, List.set_cons_succ]
  refine wpAnyH_take (i := 16) (oi := { dst := some 58, op := _, type := _, pos := _, after := _, guard := none }) (v := ?_) rfl (by kernel_rfl) (by kernel_rfl) (by kernel_rfl) (fun _ _ _ h => h) (Or.inl ⟨by rfl, ?_⟩) hS ?_
  rotate_left 1
  focus (intro w hSw; (try dsimp only at hSw); go_simp; try (with_reducible rfl))
  simp only [Act.put, List.setIfInBounds_toArray, List.set_cons_zero, List.set_cons_succ]
  refine wpAnyH_take (i := 17) (oi := { dst := some 59, op := _, type := _, pos := _, after := _, guard := none }) (v := ?_) rfl (by kernel_rfl) (by kernel_rfl) (by kernel_rfl) (fun _ _ _ h => h) (Or.inl ⟨by rfl, ?_⟩) hS ?_
  rotate_left 1
  focus (intro w hSw; (try dsimp only at hSw); go_simp; try (with_reducible rfl))
  simp only [Act.put, List.setIfInBounds_toArray, List.set_cons_zero, List.set_cons_succ]
  refine wpAnyH_take (i := 20) (oi := { dst := some 61, op := _, type := _, pos := _, after := _, guard := none }) (v := ?_) rfl (by kernel_rfl) (by kernel_rfl) (by kernel_rfl) (fun _ _ _ h => h) (Or.inl ⟨by rfl, ?_⟩) hS ?_
  rotate_left 1
  focus (intro w hSw; (try dsimp only at hSw); go_simp; try (with_reducible rfl))
  simp only [Act.put, List.setIfInBounds_toArray, List.set_cons_zero, List.set_cons_succ]
  refine wpAnyH_take (i := 21) (oi := { dst := some 62, op := _, type := _, pos := _, after := _, guard := none }) (v := ?_) rfl (by kernel_rfl) (by kernel_rfl) (by kernel_rfl) (fun _ _ _ h => h) (Or.inl ⟨by rfl, ?_⟩) hS ?_
  rotate_left 1
  focus (intro w hSw; (try dsimp only at hSw); go_simp; try (with_reducible rfl))
  simp only [Act.put, List.setIfInBounds_toArray, List.set_cons_zero, List.set_cons_succ]
  refine wpAnyH_ready (rs := [6, 13]) (by kernel_rfl) (by simp) ?_
  refine AllReadyH.cons (o := { dst := some 48, op := _, type := _, pos := _, after := _, guard := none }) rfl (fun K hK => ?_) (AllReadyH.cons (o := { dst := some 55, op := _, type := _, pos := _, after := _, guard := none }) rfl (fun K hK => ?_) AllReadyH.nil)
  · go_simp
    refine hK.out _ _ hS (fun _ => ?_)
    clear hK K
    try simp only [Act.put, List.setIfInBounds_toArray, List.set_cons_zero, List.set_cons_succ]
    refine wpAnyH_ready (rs := [8, 13]) (by kernel_rfl) (by simp) ?_
    refine AllReadyH.cons (o := { dst := some 50, op := _, type := _, pos := _, after := _, guard := none }) rfl (fun K hK => ?_) (AllReadyH.cons (o := { dst := some 55, op := _, type := _, pos := _, after := _, guard := none }) rfl (fun K hK => ?_) AllReadyH.nil)
    · go_simp
      go_at_call 39
      refine (pr_write _ _ _ _ _ hn).mono ?_
      rintro e w2 ⟨rfl, hb2⟩
      have HG2 := hid (H.out.drew.kept hb2)
      have K1 : Hid (w2.cell? ⟨F.g, 38, none⟩ = some (.int .u8 M.p1.d) ∧ w2.cell? ⟨F.g, 39, none⟩ = some (.bool M.p1.l) ∧ w2.cell? ⟨F.g, 40, none⟩ = some (.int .u8 M.p1.s)) := hid ⟨HG2.out.at 38 _ rfl, HG2.out.at 39 _ rfl, HG2.out.at 40 _ rfl⟩
      have HB2 := hid (stp (st0 W).drew hb2)
      have hg2 := HG2.out.bx.z
      try go_wp2_with fail
      have hS2 := (hb2.cell (p := ⟨mb, 0, none⟩) y1).trans hS
      refine hK.out _ _ (hS2) (fun _ => ?_)
      clear hK K
      try simp only [Act.put, List.setIfInBounds_toArray, List.set_cons_zero, List.set_cons_succ]
      clear hS
      have hS := hS2
      clear hS2
      refine wpAnyH_ready (rs := [13]) (by kernel_rfl) (by simp) ?_
      refine AllReadyH.cons (o := { dst := some 55, op := _, type := _, pos := _, after := _, guard := none }) rfl (fun K hK => ?_) AllReadyH.nil
      obtain ⟨c3, c4, c5⟩ := K1.out
      go_simp
      refine hK.out _ _ (hS) (fun _ => ?_)
      clear hK K
      try simp only [Act.put, List.setIfInBounds_toArray, List.set_cons_zero, List.set_cons_succ]
      refine wpAnyH_ready (rs := [15]) (by kernel_rfl) (by simp) ?_
      refine AllReadyH.cons (o := { dst := some 57, op := _, type := _, pos := _, after := _, guard := none }) rfl (fun K hK => ?_) AllReadyH.nil
      go_simp
      go_at_call 39
      refine (pr_write _ _ _ _ _ hn).mono ?_
      rintro e w3 ⟨rfl, hb3⟩
      have HG3 := hid (HG2.out.kept hb3)
      have HB3 := hid (stp HB2.out hb3)
      try go_wp2_with fail
      have hS3 := (hb3.cell (p := ⟨mb, 0, none⟩) (Nat.lt_of_lt_of_le y1 HB2.out.size)).trans hS
      refine hK.out _ _ (hS3) (fun _ => ?_)
      clear hK K
      try simp only [Act.put, List.setIfInBounds_toArray, List.set_cons_zero, List.set_cons_succ]
      clear hS
      have hS := hS3
      clear hS3
      have g35 := HG3.out.at 35 _ rfl
      have g36 := HG3.out.at 36 _ rfl
      have g37 := HG3.out.at 37 _ rfl
      have g38 := HG3.out.at 38 _ rfl
      have g39 := HG3.out.at 39 _ rfl
      have g40 := HG3.out.at 40 _ rfl
      have gf := HG3.out.bx.f
      have gz := HG3.out.bx.z
      refine wpAnyH_take (i := 18) (oi := { dst := some 60, op := _, type := _, pos := _, after := _, guard := none }) (v := ?_) rfl (by kernel_rfl) (by kernel_rfl) (by kernel_rfl) (fun _ _ _ h => h) (Or.inl ⟨by rfl, ?_⟩) hS ?_
      rotate_left 1
      focus (intro w hSw; (try dsimp only at hSw); go_simp; try (with_reducible rfl))
      simp only [Act.put, List.setIfInBounds_toArray, List.set_cons_zero, List.set_cons_succ]
      refine wpAnyH_ready (rs := [19]) (by kernel_rfl) (by simp) ?_
      refine AllReadyH.cons (o := { dst := none, op := _, type := _, pos := _, after := _, guard := none }) rfl (fun K hK => ?_) AllReadyH.nil
      go_simp
      refine hK.out _ _ ((World.cell?_of_block (w := w3) (heap_sets_far HNE.out [.int .u8 M.p0.d, .bool (odd n), .int .u8 (sel (odd n) M.p0.d M.p0.s)] 35 w3)).trans hS) (fun _ => ?_)
      clear hK K
      try simp only [Act.put, List.setIfInBounds_toArray, List.set_cons_zero, List.set_cons_succ]
      have hS4 : (w3.setCells F.g 35 [.int .u8 M.p0.d, .bool (odd n), .int .u8 (sel (odd n) M.p0.d M.p0.s)]).cell? ⟨mb, 0, none⟩ = some (pt F.g 0) := (World.cell?_of_block (w := w3) (heap_sets_far HNE.out [.int .u8 M.p0.d, .bool (odd n), .int .u8 (sel (odd n) M.p0.d M.p0.s)] 35 w3)).trans hS
      refine wpAnyH_take (i := 22) (oi := { dst := some 63, op := _, type := _, pos := _, after := _, guard := none }) (v := ?_) rfl (by kernel_rfl) (by kernel_rfl) (by kernel_rfl) (fun _ _ _ h => h) (Or.inl ⟨by rfl, ?_⟩) hS4 ?_
      rotate_left 1
      focus (intro w hSw; (try dsimp only at hSw); go_simp; try (with_reducible rfl))
      simp only [Act.put, List.setIfInBounds_toArray, List.set_cons_zero, List.set_cons_succ]
      refine wpAnyH_ready (rs := [23]) (by kernel_rfl) (by simp) ?_
      refine AllReadyH.cons (o := { dst := none, op := _, type := _, pos := _, after := _, guard := none }) rfl (fun K hK => ?_) AllReadyH.nil
      go_simp
      refine hK.out _ _ ((World.cell?_of_block (w := w3.setCells F.g 35 [.int .u8 M.p0.d, .bool (odd n), .int .u8 (sel (odd n) M.p0.d M.p0.s)]) (heap_sets_far HNE.out [.int .u8 M.p1.d, .bool (odd n), .int .u8 (sel (odd n) M.p1.d M.p1.s)] 38 _)).trans hS4) (fun _ => ?_)
      clear hK K
      try simp only [Act.put, List.setIfInBounds_toArray, List.set_cons_zero, List.set_cons_succ]
      refine wpAnyH_done (by kernel_rfl) ?_ _
      go_simp
      go_wp2
      go_end0
      have hp0 := HG3.out.puts (M' := { M with p0 := M.p0.wr n }) (tk' := tk) 35 [.int .u8 M.p0.d, .bool (odd n), .int .u8 (sel (odd n) M.p0.d M.p0.s)] (by simp) rfl ⟨rfl, rfl, rfl, rfl, rfl⟩ { HG3.out.fit with main := HG3.out.fit.main, p0 := Pd.wr_ok HG3.out.fit.p0 n }
      exact ⟨rfl, hp0.puts (M' := M.putM 0 n) (tk' := tk) 38 [.int .u8 M.p1.d, .bool (odd n), .int .u8 (sel (odd n) M.p1.d M.p1.s)] (by simp) rfl ⟨rfl, rfl, rfl, rfl, rfl⟩ (show Mach.fit { M with p0 := M.p0.wr n, p1 := M.p1.wr n } from { hp0.fit with main := hp0.fit.main, p1 := Pd.wr_ok HG3.out.fit.p1 n }), Gt.sets H.out.nd [.int .u8 M.p1.d, .bool (odd n), .int .u8 (sel (odd n) M.p1.d M.p1.s)] 38 _ (Gt.sets H.out.nd [.int .u8 M.p0.d, .bool (odd n), .int .u8 (sel (odd n) M.p0.d M.p0.s)] 35 _ (Gt.under H.out HB3.out))⟩
    · go_simp
      refine hK.out _ _ hS (fun _ => ?_)
      clear hK K
      try simp only [Act.put, List.setIfInBounds_toArray, List.set_cons_zero, List.set_cons_succ]
      refine wpAnyH_ready (rs := [8]) (by kernel_rfl) (by simp) ?_
      refine AllReadyH.cons (o := { dst := some 50, op := _, type := _, pos := _, after := _, guard := none }) rfl (fun K hK => ?_) AllReadyH.nil
      go_simp
      go_at_call 39
      refine (pr_write _ _ _ _ _ hn).mono ?_
      rintro e w2 ⟨rfl, hb2⟩
      have HG2 := hid (H.out.drew.kept hb2)
      have K1 : Hid (w2.cell? ⟨F.g, 38, none⟩ = some (.int .u8 M.p1.d) ∧ w2.cell? ⟨F.g, 39, none⟩ = some (.bool M.p1.l) ∧ w2.cell? ⟨F.g, 40, none⟩ = some (.int .u8 M.p1.s)) := hid ⟨HG2.out.at 38 _ rfl, HG2.out.at 39 _ rfl, HG2.out.at 40 _ rfl⟩
      have HB2 := hid (stp (st0 W).drew hb2)
      have hg2 := HG2.out.bx.z
      try go_wp2_with fail
      have hS2 := (hb2.cell (p := ⟨mb, 0, none⟩) y1).trans hS
      refine hK.out _ _ (hS2) (fun _ => ?_)
      clear hK K
      try simp only [Act.put, List.setIfInBounds_toArray, List.set_cons_zero, List.set_cons_succ]
      clear hS
      have hS := hS2
      clear hS2
      refine wpAnyH_ready (rs := [15]) (by kernel_rfl) (by simp) ?_
      refine AllReadyH.cons (o := { dst := some 57, op := _, type := _, pos := _, after := _, guard := none }) rfl (fun K hK => ?_) AllReadyH.nil
      go_simp
      go_at_call 39
      refine (pr_write _ _ _ _ _ hn).mono ?_
      rintro e w3 ⟨rfl, hb3⟩
      have HG3 := hid (HG2.out.kept hb3)
      have HB3 := hid (stp HB2.out hb3)
      try go_wp2_with fail
      have hS3 := (hb3.cell (p := ⟨mb, 0, none⟩) (Nat.lt_of_lt_of_le y1 HB2.out.size)).trans hS
      refine hK.out _ _ (hS3) (fun _ => ?_)
      clear hK K
      try simp only [Act.put, List.setIfInBounds_toArray, List.set_cons_zero, List.set_cons_succ]
      clear hS
      have hS := hS3
      clear hS3
      have g35 := HG3.out.at 35 _ rfl
      have g36 := HG3.out.at 36 _ rfl
      have g37 := HG3.out.at 37 _ rfl
      have g38 := HG3.out.at 38 _ rfl
      have g39 := HG3.out.at 39 _ rfl
      have g40 := HG3.out.at 40 _ rfl
      have gf := HG3.out.bx.f
      have gz := HG3.out.bx.z
      refine wpAnyH_take (i := 18) (oi := { dst := some 60, op := _, type := _, pos := _, after := _, guard := none }) (v := ?_) rfl (by kernel_rfl) (by kernel_rfl) (by kernel_rfl) (fun _ _ _ h => h) (Or.inl ⟨by rfl, ?_⟩) hS ?_
      rotate_left 1
      focus (intro w hSw; (try dsimp only at hSw); go_simp; try (with_reducible rfl))
      simp only [Act.put, List.setIfInBounds_toArray, List.set_cons_zero, List.set_cons_succ]
      refine wpAnyH_ready (rs := [19]) (by kernel_rfl) (by simp) ?_
      refine AllReadyH.cons (o := { dst := none, op := _, type := _, pos := _, after := _, guard := none }) rfl (fun K hK => ?_) AllReadyH.nil
      go_simp
      refine hK.out _ _ ((World.cell?_of_block (w := w3) (heap_sets_far HNE.out [.int .u8 M.p0.d, .bool (odd n), .int .u8 (sel (odd n) M.p0.d M.p0.s)] 35 w3)).trans hS) (fun _ => ?_)
      clear hK K
      try simp only [Act.put, List.setIfInBounds_toArray, List.set_cons_zero, List.set_cons_succ]
      have hS4 : (w3.setCells F.g 35 [.int .u8 M.p0.d, .bool (odd n), .int .u8 (sel (odd n) M.p0.d M.p0.s)]).cell? ⟨mb, 0, none⟩ = some (pt F.g 0) := (World.cell?_of_block (w := w3) (heap_sets_far HNE.out [.int .u8 M.p0.d, .bool (odd n), .int .u8 (sel (odd n) M.p0.d M.p0.s)] 35 w3)).trans hS
      refine wpAnyH_take (i := 22) (oi := { dst := some 63, op := _, type := _, pos := _, after := _, guard := none }) (v := ?_) rfl (by kernel_rfl) (by kernel_rfl) (by kernel_rfl) (fun _ _ _ h => h) (Or.inl ⟨by rfl, ?_⟩) hS4 ?_
      rotate_left 1
      focus (intro w hSw; (try dsimp only at hSw); go_simp; try (with_reducible rfl))
      simp only [Act.put, List.setIfInBounds_toArray, List.set_cons_zero, List.set_cons_succ]
      refine wpAnyH_ready (rs := [23]) (by kernel_rfl) (by simp) ?_
      refine AllReadyH.cons (o := { dst := none, op := _, type := _, pos := _, after := _, guard := none }) rfl (fun K hK => ?_) AllReadyH.nil
      go_simp
      refine hK.out _ _ ((World.cell?_of_block (w := w3.setCells F.g 35 [.int .u8 M.p0.d, .bool (odd n), .int .u8 (sel (odd n) M.p0.d M.p0.s)]) (heap_sets_far HNE.out [.int .u8 M.p1.d, .bool (odd n), .int .u8 (sel (odd n) M.p1.d M.p1.s)] 38 _)).trans hS4) (fun _ => ?_)
      clear hK K
      try simp only [Act.put, List.setIfInBounds_toArray, List.set_cons_zero, List.set_cons_succ]
      refine wpAnyH_done (by kernel_rfl) ?_ _
      go_simp
      go_wp2
      go_end0
      have hp0 := HG3.out.puts (M' := { M with p0 := M.p0.wr n }) (tk' := tk) 35 [.int .u8 M.p0.d, .bool (odd n), .int .u8 (sel (odd n) M.p0.d M.p0.s)] (by simp) rfl ⟨rfl, rfl, rfl, rfl, rfl⟩ { HG3.out.fit with main := HG3.out.fit.main, p0 := Pd.wr_ok HG3.out.fit.p0 n }
      exact ⟨rfl, hp0.puts (M' := M.putM 0 n) (tk' := tk) 38 [.int .u8 M.p1.d, .bool (odd n), .int .u8 (sel (odd n) M.p1.d M.p1.s)] (by simp) rfl ⟨rfl, rfl, rfl, rfl, rfl⟩ (show Mach.fit { M with p0 := M.p0.wr n, p1 := M.p1.wr n } from { hp0.fit with main := hp0.fit.main, p1 := Pd.wr_ok HG3.out.fit.p1 n }), Gt.sets H.out.nd [.int .u8 M.p1.d, .bool (odd n), .int .u8 (sel (odd n) M.p1.d M.p1.s)] 38 _ (Gt.sets H.out.nd [.int .u8 M.p0.d, .bool (odd n), .int .u8 (sel (odd n) M.p0.d M.p0.s)] 35 _ (Gt.under H.out HB3.out))⟩
  · go_simp
    refine hK.out _ _ hS (fun _ => ?_)
    clear hK K
    try simp only [Act.put, List.setIfInBounds_toArray, List.set_cons_zero, List.set_cons_succ]
    refine wpAnyH_ready (rs := [6]) (by kernel_rfl) (by simp) ?_
    refine AllReadyH.cons (o := { dst := some 48, op := _, type := _, pos := _, after := _, guard := none }) rfl (fun K hK => ?_) AllReadyH.nil
    go_simp
    refine hK.out _ _ (hS) (fun _ => ?_)
    clear hK K
    try simp only [Act.put, List.setIfInBounds_toArray, List.set_cons_zero, List.set_cons_succ]
    refine wpAnyH_ready (rs := [8]) (by kernel_rfl) (by simp) ?_
    refine AllReadyH.cons (o := { dst := some 50, op := _, type := _, pos := _, after := _, guard := none }) rfl (fun K hK => ?_) AllReadyH.nil
    go_simp
    go_at_call 39
    refine (pr_write _ _ _ _ _ hn).mono ?_
    rintro e w2 ⟨rfl, hb2⟩
    have HG2 := hid (H.out.drew.kept hb2)
    have K1 : Hid (w2.cell? ⟨F.g, 38, none⟩ = some (.int .u8 M.p1.d) ∧ w2.cell? ⟨F.g, 39, none⟩ = some (.bool M.p1.l) ∧ w2.cell? ⟨F.g, 40, none⟩ = some (.int .u8 M.p1.s)) := hid ⟨HG2.out.at 38 _ rfl, HG2.out.at 39 _ rfl, HG2.out.at 40 _ rfl⟩
    have HB2 := hid (stp (st0 W).drew hb2)
    have hg2 := HG2.out.bx.z
    try go_wp2_with fail
    have hS2 := (hb2.cell (p := ⟨mb, 0, none⟩) y1).trans hS
    refine hK.out _ _ (hS2) (fun _ => ?_)
    clear hK K
    try simp only [Act.put, List.setIfInBounds_toArray, List.set_cons_zero, List.set_cons_succ]
    clear hS
    have hS := hS2
    clear hS2
    refine wpAnyH_ready (rs := [15]) (by kernel_rfl) (by simp) ?_
    refine AllReadyH.cons (o := { dst := some 57, op := _, type := _, pos := _, after := _, guard := none }) rfl (fun K hK => ?_) AllReadyH.nil
    go_simp
    go_at_call 39
    refine (pr_write _ _ _ _ _ hn).mono ?_
    rintro e w3 ⟨rfl, hb3⟩
    have HG3 := hid (HG2.out.kept hb3)
    have HB3 := hid (stp HB2.out hb3)
    try go_wp2_with fail
    have hS3 := (hb3.cell (p := ⟨mb, 0, none⟩) (Nat.lt_of_lt_of_le y1 HB2.out.size)).trans hS
    refine hK.out _ _ (hS3) (fun _ => ?_)
    clear hK K
    try simp only [Act.put, List.setIfInBounds_toArray, List.set_cons_zero, List.set_cons_succ]
    clear hS
    have hS := hS3
    clear hS3
    have g35 := HG3.out.at 35 _ rfl
    have g36 := HG3.out.at 36 _ rfl
    have g37 := HG3.out.at 37 _ rfl
    have g38 := HG3.out.at 38 _ rfl
    have g39 := HG3.out.at 39 _ rfl
    have g40 := HG3.out.at 40 _ rfl
    have gf := HG3.out.bx.f
    have gz := HG3.out.bx.z
    refine wpAnyH_take (i := 18) (oi := { dst := some 60, op := _, type := _, pos := _, after := _, guard := none }) (v := ?_) rfl (by kernel_rfl) (by kernel_rfl) (by kernel_rfl) (fun _ _ _ h => h) (Or.inl ⟨by rfl, ?_⟩) hS ?_
    rotate_left 1
    focus (intro w hSw; (try dsimp only at hSw); go_simp; try (with_reducible rfl))
    simp only [Act.put, List.setIfInBounds_toArray, List.set_cons_zero, List.set_cons_succ]
    refine wpAnyH_ready (rs := [19]) (by kernel_rfl) (by simp) ?_
    refine AllReadyH.cons (o := { dst := none, op := _, type := _, pos := _, after := _, guard := none }) rfl (fun K hK => ?_) AllReadyH.nil
    go_simp
    refine hK.out _ _ ((World.cell?_of_block (w := w3) (heap_sets_far HNE.out [.int .u8 M.p0.d, .bool (odd n), .int .u8 (sel (odd n) M.p0.d M.p0.s)] 35 w3)).trans hS) (fun _ => ?_)
    clear hK K
    try simp only [Act.put, List.setIfInBounds_toArray, List.set_cons_zero, List.set_cons_succ]
    have hS4 : (w3.setCells F.g 35 [.int .u8 M.p0.d, .bool (odd n), .int .u8 (sel (odd n) M.p0.d M.p0.s)]).cell? ⟨mb, 0, none⟩ = some (pt F.g 0) := (World.cell?_of_block (w := w3) (heap_sets_far HNE.out [.int .u8 M.p0.d, .bool (odd n), .int .u8 (sel (odd n) M.p0.d M.p0.s)] 35 w3)).trans hS
    refine wpAnyH_take (i := 22) (oi := { dst := some 63, op := _, type := _, pos := _, after := _, guard := none }) (v := ?_) rfl (by kernel_rfl) (by kernel_rfl) (by kernel_rfl) (fun _ _ _ h => h) (Or.inl ⟨by rfl, ?_⟩) hS4 ?_
    rotate_left 1
    focus (intro w hSw; (try dsimp only at hSw); go_simp; try (with_reducible rfl))
    simp only [Act.put, List.setIfInBounds_toArray, List.set_cons_zero, List.set_cons_succ]
    refine wpAnyH_ready (rs := [23]) (by kernel_rfl) (by simp) ?_
    refine AllReadyH.cons (o := { dst := none, op := _, type := _, pos := _, after := _, guard := none }) rfl (fun K hK => ?_) AllReadyH.nil
    go_simp
    refine hK.out _ _ ((World.cell?_of_block (w := w3.setCells F.g 35 [.int .u8 M.p0.d, .bool (odd n), .int .u8 (sel (odd n) M.p0.d M.p0.s)]) (heap_sets_far HNE.out [.int .u8 M.p1.d, .bool (odd n), .int .u8 (sel (odd n) M.p1.d M.p1.s)] 38 _)).trans hS4) (fun _ => ?_)
    clear hK K
    try simp only [Act.put, List.setIfInBounds_toArray, List.set_cons_zero, List.set_cons_succ]
    refine wpAnyH_done (by kernel_rfl) ?_ _
    go_simp
    go_wp2
    go_end0
    have hp0 := HG3.out.puts (M' := { M with p0 := M.p0.wr n }) (tk' := tk) 35 [.int .u8 M.p0.d, .bool (odd n), .int .u8 (sel (odd n) M.p0.d M.p0.s)] (by simp) rfl ⟨rfl, rfl, rfl, rfl, rfl⟩ { HG3.out.fit with main := HG3.out.fit.main, p0 := Pd.wr_ok HG3.out.fit.p0 n }
    exact ⟨rfl, hp0.puts (M' := M.putM 0 n) (tk' := tk) 38 [.int .u8 M.p1.d, .bool (odd n), .int .u8 (sel (odd n) M.p1.d M.p1.s)] (by simp) rfl ⟨rfl, rfl, rfl, rfl, rfl⟩ (show Mach.fit { M with p0 := M.p0.wr n, p1 := M.p1.wr n } from { hp0.fit with main := hp0.fit.main, p1 := Pd.wr_ok HG3.out.fit.p1 n }), Gt.sets H.out.nd [.int .u8 M.p1.d, .bool (odd n), .int .u8 (sel (odd n) M.p1.d M.p1.s)] 38 _ (Gt.sets H.out.nd [.int .u8 M.p0.d, .bool (odd n), .int .u8 (sel (odd n) M.p0.d M.p0.s)] 35 _ (Gt.under H.out HB3.out))⟩
end
section
variable {F : Gx} {W : World} {M : Mach} {tk : Tk} {mb hb lb gb : Nat}
theorem gputM_fit {k : Nat} {n : Int} (h : M.fit) (hn : 0 ≤ n ∧ n ≤ 255) (hk : k = 2 ∨ k = 3 ∨ k = 10 ∨ k = 11 ∨ k = 12 ∨ k = 13) : (M.putM k n).fit := by
  rcases hk with rfl | rfl | rfl | rfl | rfl | rfl
  · exact (show Mach.fit { M with t := { M.t with r := hiB M.t.r n } } from { h with tr := hiB_bd h.tr hn, tc := h.tc, main := h.main })
  · exact (show Mach.fit { M with t := { M.t with r := loB M.t.r n } } from { h with tr := loB_bd h.tr hn, tc := h.tc, main := h.main })
  · exact (show Mach.fit { M with fr := hiB M.fr n } from { h with fr := hiB_bd h.fr hn, main := h.main })
  · exact (show Mach.fit { M with fr := loB M.fr n } from { h with fr := loB_bd h.fr hn, main := h.main })
  · exact Mach.fit.of h ⟨h.main, h.aux, h.p0, h.p1, h.tr, h.tc, h.s, h.fr, hiB_bd h.to hn, h.m0, h.m1⟩ ⟨rfl, rfl, rfl, rfl, rfl⟩ rfl ⟨rfl, rfl, rfl⟩ ⟨rfl, rfl⟩ (Or.inl rfl)
  · exact Mach.fit.of h ⟨h.main, h.aux, h.p0, h.p1, h.tr, h.tc, h.s, h.fr, loB_bd h.to hn, h.m0, h.m1⟩ ⟨rfl, rfl, rfl, rfl, rfl⟩ rfl ⟨rfl, rfl, rfl⟩ ⟨rfl, rfl⟩ (Or.inl rfl)
set_option maxHeartbeats 1600000 in
theorem Gm.putP2 (h : Gd F W M tk) (hm : Pu F W mb hb lb gb) (a n : Int) (h1 : 53248 ≤ a) (h2 : a ≤ 57343) (hn : 0 ≤ n ∧ n ≤ 255) (hk : Int.tmod a 32 = 2) : Calls Try.prog 38 #[.int .u16 a, .int .u8 n, pt mb 0, pt hb 0, pt lb 0, pt gb 0] W fun e w' => e = .returned (.tuple #[]) ∧ Gd F w' (M.putM 2 n) tk ∧ Gt F W w' := by
  obtain ⟨y1, e1, x1⟩ := hm.m
  obtain ⟨y2, e2, x2⟩ := hm.h
  have c0 := h.at 41 (.int .u16 M.t.r) rfl
  have f0 := h.bx.f 41
  have hb16 : bd16 M.t.r := h.fit.tr
  have hg := h.bx.z
  have HNE : Hid (mb ≠ F.g ∧ hb ≠ F.g) := hid ⟨hm.m.ne, fun e => x2 (Or.inl e)⟩
  have HF : Hid ((M.putM 2 n).fit) := hid (gputM_fit h.fit hn (by omega))
  have H := hid h
  clear h hm
  go_enter Try.func38, Try.ntmps38
  go_wp2_with (go_at_call 32; refine (Gm.reg3 a _ h1 h2).mono ?_; rintro e w1 ⟨rfl, rfl⟩)
  refine wp_region_held_drew (S := fun w' => w'.cell? ⟨mb, 0, none⟩ = some (pt F.g 0) ∧ w'.cell? ⟨hb, 0, none⟩ = some (fval 36 #[])) (by kernel_rfl) (⟨e1, e2⟩) ?_
  intro hS
  refine wpAnyH_take (i := 0) (oi := { dst := some 66, op := _, type := _, pos := _, after := _, guard := none }) (v := ?_) rfl (by kernel_rfl) (by kernel_rfl) (by kernel_rfl) (fun _ _ _ h => h) (Or.inl ⟨by rfl, ?_⟩) hS ?_
  rotate_left 1
  focus (intro w hSw; (try dsimp only at hSw); go_simp; try (with_reducible rfl))
  simp only [Act.put, List.setIfInBounds_toArray, List.set_cons_zero, List.set_cons_succ]
  refine wpAnyH_take (i := 1) (oi := { dst := some 67, op := _, type := _, pos := _, after := _, guard := none }) (v := ?_) rfl (by kernel_rfl) (by kernel_rfl) (by kernel_rfl) (fun _ _ _ h => h) (Or.inl ⟨by rfl, ?_⟩) hS ?_
  rotate_left 1
  focus (intro w hSw; (try dsimp only at hSw); go_simp; try (with_reducible rfl))
  simp only [Act.put, List.setIfInBounds_toArray, List.set_cons_zero, List.set_cons_succ]
  refine wpAnyH_take (i := 2) (oi := { dst := some 68, op := _, type := _, pos := _, after := _, guard := none }) (v := ?_) rfl (by kernel_rfl) (by kernel_rfl) (by kernel_rfl) (fun _ _ _ h => h) (Or.inl ⟨by rfl, ?_⟩) hS ?_
  rotate_left 1
  focus (intro w hSw; (try dsimp only at hSw); go_simp; try (with_reducible rfl))
  simp only [Act.put, List.setIfInBounds_toArray, List.set_cons_zero, List.set_cons_succ]
  refine wpAnyH_take (i := 3) (oi := { dst := some 69, op := _, type := _, pos := _, after := _, guard := none }) (v := ?_) rfl (by kernel_rfl) (by kernel_rfl) (by kernel_rfl) (fun _ _ _ h => h) (Or.inl ⟨by rfl, ?_⟩) hS ?_
  rotate_left 1
  focus (intro w hSw; (try dsimp only at hSw); go_simp; try (with_reducible rfl))
  simp only [Act.put, List.setIfInBounds_toArray, List.set_cons_zero, List.set_cons_succ]
  refine wpAnyH_take (i := 4) (oi := { dst := some 70, op := _, type := _, pos := _, after := _, guard := none }) (v := ?_) rfl (by kernel_rfl) (by kernel_rfl) (by kernel_rfl) (fun _ _ _ h => h) (Or.inl ⟨by rfl, ?_⟩) hS ?_
  rotate_left 1
  focus (intro w hSw; (try dsimp only at hSw); go_simp; try (with_reducible rfl))
  simp only [Act.put, List.setIfInBounds_toArray, List.set_cons_zero, List.set_cons_succ]
  refine wpAnyH_take (i := 5) (oi := { dst := some 71, op := _, type := _, pos := _, after := _, guard := none }) (v := ?_) rfl (by kernel_rfl) (by kernel_rfl) (by kernel_rfl) (fun _ _ _ h => h) (Or.inl ⟨by rfl, ?_⟩) hS ?_
  rotate_left 1
  focus (intro w hSw; (try dsimp only at hSw); go_simp; try (with_reducible rfl))
  simp only [Act.put, List.setIfInBounds_toArray, List.set_cons_zero, List.set_cons_succ]
  refine wpAnyH_take (i := 7) (oi := { dst := some 73, op := _, type := _, pos := _, after := _, guard := none }) (v := ?_) rfl (by kernel_rfl) (by kernel_rfl) (by kernel_rfl) (fun _ _ _ h => h) (Or.inl ⟨by rfl, ?_⟩) hS ?_
  rotate_left 1
  focus (intro w hSw; (try dsimp only at hSw); go_simp; try (with_reducible rfl))
  simp only [Act.put, List.setIfInBounds_toArray, List.set_cons_zero, List.set_cons_succ]
  refine wpAnyH_ready (rs := [6]) (by kernel_rfl) (by simp) ?_
  refine AllReadyH.cons (o := { dst := some 72, op := _, type := _, pos := _, after := _, guard := none }) rfl (fun K hK => ?_) AllReadyH.nil
  go_simp
  refine hK.out _ _ (hS) (fun _ => ?_)
  clear hK K
  try simp only [Act.put, List.setIfInBounds_toArray, List.set_cons_zero, List.set_cons_succ]
  refine wpAnyH_ready (rs := [8]) (by kernel_rfl) (by simp) ?_
  refine AllReadyH.cons (o := { dst := some 74, op := _, type := _, pos := _, after := _, guard := none }) rfl (fun K hK => ?_) AllReadyH.nil
  go_simp
  go_at_call 36
  refine (Gm.high _ n _ hb16 hn).mono ?_
  rintro e w2 ⟨rfl, rfl⟩
  try go_wp2_with fail
  refine hK.out _ _ (hS) (fun _ => ?_)
  clear hK K
  try simp only [Act.put, List.setIfInBounds_toArray, List.set_cons_zero, List.set_cons_succ]
  refine wpAnyH_take (i := 9) (oi := { dst := some 75, op := _, type := _, pos := _, after := _, guard := none }) (v := ?_) rfl (by kernel_rfl) (by kernel_rfl) (by kernel_rfl) (fun _ _ _ h => h) (Or.inl ⟨by rfl, ?_⟩) hS ?_
  rotate_left 1
  focus (intro w hSw; (try dsimp only at hSw); go_simp; try (with_reducible rfl))
  simp only [Act.put, List.setIfInBounds_toArray, List.set_cons_zero, List.set_cons_succ]
  refine wpAnyH_take (i := 10) (oi := { dst := some 76, op := _, type := _, pos := _, after := _, guard := none }) (v := ?_) rfl (by kernel_rfl) (by kernel_rfl) (by kernel_rfl) (fun _ _ _ h => h) (Or.inl ⟨by rfl, ?_⟩) hS ?_
  rotate_left 1
  focus (intro w hSw; (try dsimp only at hSw); go_simp; try (with_reducible rfl))
  simp only [Act.put, List.setIfInBounds_toArray, List.set_cons_zero, List.set_cons_succ]
  refine wpAnyH_take (i := 11) (oi := { dst := some 77, op := _, type := _, pos := _, after := _, guard := none }) (v := ?_) rfl (by kernel_rfl) (by kernel_rfl) (by kernel_rfl) (fun _ _ _ h => h) (Or.inl ⟨by rfl, ?_⟩) hS ?_
  rotate_left 1
  focus (intro w hSw; (try dsimp only at hSw); go_simp; try (with_reducible rfl))
  simp only [Act.put, List.setIfInBounds_toArray, List.set_cons_zero, List.set_cons_succ]
  refine wpAnyH_ready (rs := [12]) (by kernel_rfl) (by simp) ?_
  refine AllReadyH.cons (o := { dst := none, op := _, type := _, pos := _, after := _, guard := none }) rfl (fun K hK => ?_) AllReadyH.nil
  go_simp
  refine hK.out _ _ (⟨(World.cell?_of_block (heap_set_far HNE.out.1)).trans hS.1, (World.cell?_of_block (heap_set_far HNE.out.2)).trans hS.2⟩) (fun _ => ?_)
  clear hK K
  try simp only [Act.put, List.setIfInBounds_toArray, List.set_cons_zero, List.set_cons_succ]
  refine wpAnyH_done (by kernel_rfl) ?_ _
  go_simp
  go_wp2
  go_end0
  exact ⟨rfl, H.out.drew.put (M' := M.putM 2 n) (tk' := tk) 41 _ (by omega) rfl ⟨rfl, rfl, rfl, rfl, rfl⟩ HF.out, Gt.set H.out.nd (Mv.drew (Gt.refl F W)) _ _⟩
set_option maxHeartbeats 1600000 in
theorem Gm.putP3 (h : Gd F W M tk) (hm : Pu F W mb hb lb gb) (a n : Int) (h1 : 53248 ≤ a) (h2 : a ≤ 57343) (hn : 0 ≤ n ∧ n ≤ 255) (hk : Int.tmod a 32 = 3) : Calls Try.prog 38 #[.int .u16 a, .int .u8 n, pt mb 0, pt hb 0, pt lb 0, pt gb 0] W fun e w' => e = .returned (.tuple #[]) ∧ Gd F w' (M.putM 3 n) tk ∧ Gt F W w' := by
  obtain ⟨y1, e1, x1⟩ := hm.m
  obtain ⟨y2, e2, x2⟩ := hm.l
  have c0 := h.at 41 (.int .u16 M.t.r) rfl
  have f0 := h.bx.f 41
  have hb16 : bd16 M.t.r := h.fit.tr
  have hg := h.bx.z
  have HNE : Hid (mb ≠ F.g ∧ lb ≠ F.g) := hid ⟨hm.m.ne, fun e => x2 (Or.inl e)⟩
  have HF : Hid ((M.putM 3 n).fit) := hid (gputM_fit h.fit hn (by omega))
  have H := hid h
  clear h hm
  go_enter Try.func38, Try.ntmps38
  go_wp2_with (go_at_call 32; refine (Gm.reg3 a _ h1 h2).mono ?_; rintro e w1 ⟨rfl, rfl⟩)
  refine wp_region_held_drew (S := fun w' => w'.cell? ⟨mb, 0, none⟩ = some (pt F.g 0) ∧ w'.cell? ⟨lb, 0, none⟩ = some (fval 37 #[])) (by kernel_rfl) (⟨e1, e2⟩) ?_
  intro hS
  refine wpAnyH_take (i := 0) (oi := { dst := some 80, op := _, type := _, pos := _, after := _, guard := none }) (v := ?_) rfl (by kernel_rfl) (by kernel_rfl) (by kernel_rfl) (fun _ _ _ h => h) (Or.inl ⟨by rfl, ?_⟩) hS ?_
  rotate_left 1
  focus (intro w hSw; (try dsimp only at hSw); go_simp; try (with_reducible rfl))
  simp only [Act.put, List.setIfInBounds_toArray, List.set_cons_zero, List.set_cons_succ]
  refine wpAnyH_take (i := 1) (oi := { dst := some 81, op := _, type := _, pos := _, after := _, guard := none }) (v := ?_) rfl (by kernel_rfl) (by kernel_rfl) (by kernel_rfl) (fun _ _ _ h => h) (Or.inl ⟨by rfl, ?_⟩) hS ?_
  rotate_left 1
  focus (intro w hSw; (try dsimp only at hSw); go_simp; try (with_reducible rfl))
  simp only [Act.put, List.setIfInBounds_toArray, List.set_cons_zero, List.set_cons_succ]
  refine wpAnyH_take (i := 2) (oi := { dst := some 82, op := _, type := _, pos := _, after := _, guard := none }) (v := ?_) rfl (by kernel_rfl) (by kernel_rfl) (by kernel_rfl) (fun _ _ _ h => h) (Or.inl ⟨by rfl, ?_⟩) hS ?_
  rotate_left 1
  focus (intro w hSw; (try dsimp only at hSw); go_simp; try (with_reducible rfl))
  simp only [Act.put, List.setIfInBounds_toArray, List.set_cons_zero, List.set_cons_succ]
  refine wpAnyH_take (i := 3) (oi := { dst := some 83, op := _, type := _, pos := _, after := _, guard := none }) (v := ?_) rfl (by kernel_rfl) (by kernel_rfl) (by kernel_rfl) (fun _ _ _ h => h) (Or.inl ⟨by rfl, ?_⟩) hS ?_
  rotate_left 1
  focus (intro w hSw; (try dsimp only at hSw); go_simp; try (with_reducible rfl))
  simp only [Act.put, List.setIfInBounds_toArray, List.set_cons_zero, List.set_cons_succ]
  refine wpAnyH_take (i := 4) (oi := { dst := some 84, op := _, type := _, pos := _, after := _, guard := none }) (v := ?_) rfl (by kernel_rfl) (by kernel_rfl) (by kernel_rfl) (fun _ _ _ h => h) (Or.inl ⟨by rfl, ?_⟩) hS ?_
  rotate_left 1
  focus (intro w hSw; (try dsimp only at hSw); go_simp; try (with_reducible rfl))
  simp only [Act.put, List.setIfInBounds_toArray, List.set_cons_zero, List.set_cons_succ]
  refine wpAnyH_take (i := 5) (oi := { dst := some 85, op := _, type := _, pos := _, after := _, guard := none }) (v := ?_) rfl (by kernel_rfl) (by kernel_rfl) (by kernel_rfl) (fun _ _ _ h => h) (Or.inl ⟨by rfl, ?_⟩) hS ?_
  rotate_left 1
  focus (intro w hSw; (try dsimp only at hSw); go_simp; try (with_reducible rfl))
  simp only [Act.put, List.setIfInBounds_toArray, List.set_cons_zero, List.set_cons_succ]
  refine wpAnyH_take (i := 7) (oi := { dst := some 87, op := _, type := _, pos := _, after := _, guard := none }) (v := ?_) rfl (by kernel_rfl) (by kernel_rfl) (by kernel_rfl) (fun _ _ _ h => h) (Or.inl ⟨by rfl, ?_⟩) hS ?_
  rotate_left 1
  focus (intro w hSw; (try dsimp only at hSw); go_simp; try (with_reducible rfl))
  simp only [Act.put, List.setIfInBounds_toArray, List.set_cons_zero, List.set_cons_succ]
  refine wpAnyH_ready (rs := [6]) (by kernel_rfl) (by simp) ?_
  refine AllReadyH.cons (o := { dst := some 86, op := _, type := _, pos := _, after := _, guard := none }) rfl (fun K hK => ?_) AllReadyH.nil
  go_simp
  refine hK.out _ _ (hS) (fun _ => ?_)
  clear hK K
  try simp only [Act.put, List.setIfInBounds_toArray, List.set_cons_zero, List.set_cons_succ]
  refine wpAnyH_ready (rs := [8]) (by kernel_rfl) (by simp) ?_
  refine AllReadyH.cons (o := { dst := some 88, op := _, type := _, pos := _, after := _, guard := none }) rfl (fun K hK => ?_) AllReadyH.nil
  go_simp
  go_at_call 37
  refine (Gm.low _ n _ hb16 hn).mono ?_
  rintro e w2 ⟨rfl, rfl⟩
  try go_wp2_with fail
  refine hK.out _ _ (hS) (fun _ => ?_)
  clear hK K
  try simp only [Act.put, List.setIfInBounds_toArray, List.set_cons_zero, List.set_cons_succ]
  refine wpAnyH_take (i := 9) (oi := { dst := some 89, op := _, type := _, pos := _, after := _, guard := none }) (v := ?_) rfl (by kernel_rfl) (by kernel_rfl) (by kernel_rfl) (fun _ _ _ h => h) (Or.inl ⟨by rfl, ?_⟩) hS ?_
  rotate_left 1
  focus (intro w hSw; (try dsimp only at hSw); go_simp; try (with_reducible rfl))
  simp only [Act.put, List.setIfInBounds_toArray, List.set_cons_zero, List.set_cons_succ]
  refine wpAnyH_take (i := 10) (oi := { dst := some 90, op := _, type := _, pos := _, after := _, guard := none }) (v := ?_) rfl (by kernel_rfl) (by kernel_rfl) (by kernel_rfl) (fun _ _ _ h => h) (Or.inl ⟨by rfl, ?_⟩) hS ?_
  rotate_left 1
  focus (intro w hSw; (try dsimp only at hSw); go_simp; try (with_reducible rfl))
  simp only [Act.put, List.setIfInBounds_toArray, List.set_cons_zero, List.set_cons_succ]
  refine wpAnyH_take (i := 11) (oi := { dst := some 91, op := _, type := _, pos := _, after := _, guard := none }) (v := ?_) rfl (by kernel_rfl) (by kernel_rfl) (by kernel_rfl) (fun _ _ _ h => h) (Or.inl ⟨by rfl, ?_⟩) hS ?_
  rotate_left 1
  focus (intro w hSw; (try dsimp only at hSw); go_simp; try (with_reducible rfl))
  simp only [Act.put, List.setIfInBounds_toArray, List.set_cons_zero, List.set_cons_succ]
  refine wpAnyH_ready (rs := [12]) (by kernel_rfl) (by simp) ?_
  refine AllReadyH.cons (o := { dst := none, op := _, type := _, pos := _, after := _, guard := none }) rfl (fun K hK => ?_) AllReadyH.nil
  go_simp
  refine hK.out _ _ (⟨(World.cell?_of_block (heap_set_far HNE.out.1)).trans hS.1, (World.cell?_of_block (heap_set_far HNE.out.2)).trans hS.2⟩) (fun _ => ?_)
  clear hK K
  try simp only [Act.put, List.setIfInBounds_toArray, List.set_cons_zero, List.set_cons_succ]
  refine wpAnyH_done (by kernel_rfl) ?_ _
  go_simp
  go_wp2
  go_end0
  exact ⟨rfl, H.out.drew.put (M' := M.putM 3 n) (tk' := tk) 41 _ (by omega) rfl ⟨rfl, rfl, rfl, rfl, rfl⟩ HF.out, Gt.set H.out.nd (Mv.drew (Gt.refl F W)) _ _⟩
set_option maxHeartbeats 1600000 in
theorem Gm.putP10 (h : Gd F W M tk) (hm : Pu F W mb hb lb gb) (a n : Int) (h1 : 53248 ≤ a) (h2 : a ≤ 57343) (hn : 0 ≤ n ∧ n ≤ 255) (hk : Int.tmod a 32 = 10) : Calls Try.prog 38 #[.int .u16 a, .int .u8 n, pt mb 0, pt hb 0, pt lb 0, pt gb 0] W fun e w' => e = .returned (.tuple #[]) ∧ Gd F w' (M.putM 10 n) tk ∧ Gt F W w' := by
  obtain ⟨y1, e1, x1⟩ := hm.m
  obtain ⟨y2, e2, x2⟩ := hm.h
  have c0 := h.at 65 (.int .u16 M.fr) rfl
  have f0 := h.bx.f 65
  have hb16 : bd16 M.fr := h.fit.fr
  have hg := h.bx.z
  have HNE : Hid (mb ≠ F.g ∧ hb ≠ F.g) := hid ⟨hm.m.ne, fun e => x2 (Or.inl e)⟩
  have HF : Hid ((M.putM 10 n).fit) := hid (gputM_fit h.fit hn (by omega))
  have H := hid h
  clear h hm
  go_enter Try.func38, Try.ntmps38
  go_wp2_with (go_at_call 32; refine (Gm.reg3 a _ h1 h2).mono ?_; rintro e w1 ⟨rfl, rfl⟩)
  refine wp_region_held_drew (S := fun w' => w'.cell? ⟨mb, 0, none⟩ = some (pt F.g 0) ∧ w'.cell? ⟨hb, 0, none⟩ = some (fval 36 #[])) (by kernel_rfl) (⟨e1, e2⟩) ?_
  intro hS
  refine wpAnyH_take (i := 0) (oi := { dst := some 131, op := _, type := _, pos := _, after := _, guard := none }) (v := ?_) rfl (by kernel_rfl) (by kernel_rfl) (by kernel_rfl) (fun _ _ _ h => h) (Or.inl ⟨by rfl, ?_⟩) hS ?_
  rotate_left 1
  focus (intro w hSw; (try dsimp only at hSw); go_simp; try (with_reducible rfl))
  simp only [Act.put, List.setIfInBounds_toArray, List.set_cons_zero, List.set_cons_succ]
  refine wpAnyH_take (i := 1) (oi := { dst := some 132, op := _, type := _, pos := _, after := _, guard := none }) (v := ?_) rfl (by kernel_rfl) (by kernel_rfl) (by kernel_rfl) (fun _ _ _ h => h) (Or.inl ⟨by rfl, ?_⟩) hS ?_
  rotate_left 1
  focus (intro w hSw; (try dsimp only at hSw); go_simp; try (with_reducible rfl))
  simp only [Act.put, List.setIfInBounds_toArray, List.set_cons_zero, List.set_cons_succ]
  refine wpAnyH_take (i := 2) (oi := { dst := some 133, op := _, type := _, pos := _, after := _, guard := none }) (v := ?_) rfl (by kernel_rfl) (by kernel_rfl) (by kernel_rfl) (fun _ _ _ h => h) (Or.inl ⟨by rfl, ?_⟩) hS ?_
  rotate_left 1
  focus (intro w hSw; (try dsimp only at hSw); go_simp; try (with_reducible rfl))
  simp only [Act.put, List.setIfInBounds_toArray, List.set_cons_zero, List.set_cons_succ]
  refine wpAnyH_take (i := 3) (oi := { dst := some 134, op := _, type := _, pos := _, after := _, guard := none }) (v := ?_) rfl (by kernel_rfl) (by kernel_rfl) (by kernel_rfl) (fun _ _ _ h => h) (Or.inl ⟨by rfl, ?_⟩) hS ?_
  rotate_left 1
  focus (intro w hSw; (try dsimp only at hSw); go_simp; try (with_reducible rfl))
  simp only [Act.put, List.setIfInBounds_toArray, List.set_cons_zero, List.set_cons_succ]
  refine wpAnyH_take (i := 4) (oi := { dst := some 135, op := _, type := _, pos := _, after := _, guard := none }) (v := ?_) rfl (by kernel_rfl) (by kernel_rfl) (by kernel_rfl) (fun _ _ _ h => h) (Or.inl ⟨by rfl, ?_⟩) hS ?_
  rotate_left 1
  focus (intro w hSw; (try dsimp only at hSw); go_simp; try (with_reducible rfl))
  simp only [Act.put, List.setIfInBounds_toArray, List.set_cons_zero, List.set_cons_succ]
  refine wpAnyH_take (i := 6) (oi := { dst := some 137, op := _, type := _, pos := _, after := _, guard := none }) (v := ?_) rfl (by kernel_rfl) (by kernel_rfl) (by kernel_rfl) (fun _ _ _ h => h) (Or.inl ⟨by rfl, ?_⟩) hS ?_
  rotate_left 1
  focus (intro w hSw; (try dsimp only at hSw); go_simp; try (with_reducible rfl))
  simp only [Act.put, List.setIfInBounds_toArray, List.set_cons_zero, List.set_cons_succ]
  refine wpAnyH_ready (rs := [5]) (by kernel_rfl) (by simp) ?_
  refine AllReadyH.cons (o := { dst := some 136, op := _, type := _, pos := _, after := _, guard := none }) rfl (fun K hK => ?_) AllReadyH.nil
  go_simp
  refine hK.out _ _ (hS) (fun _ => ?_)
  clear hK K
  try simp only [Act.put, List.setIfInBounds_toArray, List.set_cons_zero, List.set_cons_succ]
  refine wpAnyH_ready (rs := [7]) (by kernel_rfl) (by simp) ?_
  refine AllReadyH.cons (o := { dst := some 138, op := _, type := _, pos := _, after := _, guard := none }) rfl (fun K hK => ?_) AllReadyH.nil
  go_simp
  go_at_call 36
  refine (Gm.high _ n _ hb16 hn).mono ?_
  rintro e w2 ⟨rfl, rfl⟩
  try go_wp2_with fail
  refine hK.out _ _ (hS) (fun _ => ?_)
  clear hK K
  try simp only [Act.put, List.setIfInBounds_toArray, List.set_cons_zero, List.set_cons_succ]
  refine wpAnyH_take (i := 8) (oi := { dst := some 139, op := _, type := _, pos := _, after := _, guard := none }) (v := ?_) rfl (by kernel_rfl) (by kernel_rfl) (by kernel_rfl) (fun _ _ _ h => h) (Or.inl ⟨by rfl, ?_⟩) hS ?_
  rotate_left 1
  focus (intro w hSw; (try dsimp only at hSw); go_simp; try (with_reducible rfl))
  simp only [Act.put, List.setIfInBounds_toArray, List.set_cons_zero, List.set_cons_succ]
  refine wpAnyH_take (i := 9) (oi := { dst := some 140, op := _, type := _, pos := _, after := _, guard := none }) (v := ?_) rfl (by kernel_rfl) (by kernel_rfl) (by kernel_rfl) (fun _ _ _ h => h) (Or.inl ⟨by rfl, ?_⟩) hS ?_
  rotate_left 1
  focus (intro w hSw; (try dsimp only at hSw); go_simp; try (with_reducible rfl))
  simp only [Act.put, List.setIfInBounds_toArray, List.set_cons_zero, List.set_cons_succ]
  refine wpAnyH_ready (rs := [10]) (by kernel_rfl) (by simp) ?_
  refine AllReadyH.cons (o := { dst := none, op := _, type := _, pos := _, after := _, guard := none }) rfl (fun K hK => ?_) AllReadyH.nil
  go_simp
  refine hK.out _ _ (⟨(World.cell?_of_block (heap_set_far HNE.out.1)).trans hS.1, (World.cell?_of_block (heap_set_far HNE.out.2)).trans hS.2⟩) (fun _ => ?_)
  clear hK K
  try simp only [Act.put, List.setIfInBounds_toArray, List.set_cons_zero, List.set_cons_succ]
  refine wpAnyH_done (by kernel_rfl) ?_ _
  go_simp
  go_wp2
  go_end0
  exact ⟨rfl, H.out.drew.put (M' := M.putM 10 n) (tk' := tk) 65 _ (by omega) rfl ⟨rfl, rfl, rfl, rfl, rfl⟩ HF.out, Gt.set H.out.nd (Mv.drew (Gt.refl F W)) _ _⟩
set_option maxHeartbeats 1600000 in
theorem Gm.putP11 (h : Gd F W M tk) (hm : Pu F W mb hb lb gb) (a n : Int) (h1 : 53248 ≤ a) (h2 : a ≤ 57343) (hn : 0 ≤ n ∧ n ≤ 255) (hk : Int.tmod a 32 = 11) : Calls Try.prog 38 #[.int .u16 a, .int .u8 n, pt mb 0, pt hb 0, pt lb 0, pt gb 0] W fun e w' => e = .returned (.tuple #[]) ∧ Gd F w' (M.putM 11 n) tk ∧ Gt F W w' := by
  obtain ⟨y1, e1, x1⟩ := hm.m
  obtain ⟨y2, e2, x2⟩ := hm.l
  have c0 := h.at 65 (.int .u16 M.fr) rfl
  have f0 := h.bx.f 65
  have hb16 : bd16 M.fr := h.fit.fr
  have hg := h.bx.z
  have HNE : Hid (mb ≠ F.g ∧ lb ≠ F.g) := hid ⟨hm.m.ne, fun e => x2 (Or.inl e)⟩
  have HF : Hid ((M.putM 11 n).fit) := hid (gputM_fit h.fit hn (by omega))
  have H := hid h
  clear h hm
  go_enter Try.func38, Try.ntmps38
  go_wp2_with (go_at_call 32; refine (Gm.reg3 a _ h1 h2).mono ?_; rintro e w1 ⟨rfl, rfl⟩)
  refine wp_region_held_drew (S := fun w' => w'.cell? ⟨mb, 0, none⟩ = some (pt F.g 0) ∧ w'.cell? ⟨lb, 0, none⟩ = some (fval 37 #[])) (by kernel_rfl) (⟨e1, e2⟩) ?_
  intro hS
  refine wpAnyH_take (i := 0) (oi := { dst := some 143, op := _, type := _, pos := _, after := _, guard := none }) (v := ?_) rfl (by kernel_rfl) (by kernel_rfl) (by kernel_rfl) (fun _ _ _ h => h) (Or.inl ⟨by rfl, ?_⟩) hS ?_
  rotate_left 1
  focus (intro w hSw; (try dsimp only at hSw); go_simp; try (with_reducible rfl))
  simp only [Act.put, List.setIfInBounds_toArray, List.set_cons_zero, List.set_cons_succ]
  refine wpAnyH_take (i := 1) (oi := { dst := some 144, op := _, type := _, pos := _, after := _, guard := none }) (v := ?_) rfl (by kernel_rfl) (by kernel_rfl) (by kernel_rfl) (fun _ _ _ h => h) (Or.inl ⟨by rfl, ?_⟩) hS ?_
  rotate_left 1
  focus (intro w hSw; (try dsimp only at hSw); go_simp; try (with_reducible rfl))
  simp only [Act.put, List.setIfInBounds_toArray, List.set_cons_zero, List.set_cons_succ]
  refine wpAnyH_take (i := 2) (oi := { dst := some 145, op := _, type := _, pos := _, after := _, guard := none }) (v := ?_) rfl (by kernel_rfl) (by kernel_rfl) (by kernel_rfl) (fun _ _ _ h => h) (Or.inl ⟨by rfl, ?_⟩) hS ?_
  rotate_left 1
  focus (intro w hSw; (try dsimp only at hSw); go_simp; try (with_reducible rfl))
  simp only [Act.put, List.setIfInBounds_toArray, List.set_cons_zero, List.set_cons_succ]
  refine wpAnyH_take (i := 3) (oi := { dst := some 146, op := _, type := _, pos := _, after := _, guard := none }) (v := ?_) rfl (by kernel_rfl) (by kernel_rfl) (by kernel_rfl) (fun _ _ _ h => h) (Or.inl ⟨by rfl, ?_⟩) hS ?_
  rotate_left 1
  focus (intro w hSw; (try dsimp only at hSw); go_simp; try (with_reducible rfl))
  simp only [Act.put, List.setIfInBounds_toArray, List.set_cons_zero, List.set_cons_succ]
  refine wpAnyH_take (i := 4) (oi := { dst := some 147, op := _, type := _, pos := _, after := _, guard := none }) (v := ?_) rfl (by kernel_rfl) (by kernel_rfl) (by kernel_rfl) (fun _ _ _ h => h) (Or.inl ⟨by rfl, ?_⟩) hS ?_
  rotate_left 1
  focus (intro w hSw; (try dsimp only at hSw); go_simp; try (with_reducible rfl))
  simp only [Act.put, List.setIfInBounds_toArray, List.set_cons_zero, List.set_cons_succ]
  refine wpAnyH_take (i := 6) (oi := { dst := some 149, op := _, type := _, pos := _, after := _, guard := none }) (v := ?_) rfl (by kernel_rfl) (by kernel_rfl) (by kernel_rfl) (fun _ _ _ h => h) (Or.inl ⟨by rfl, ?_⟩) hS ?_
  rotate_left 1
  focus (intro w hSw; (try dsimp only at hSw); go_simp; try (with_reducible rfl))
  simp only [Act.put, List.setIfInBounds_toArray, List.set_cons_zero, List.set_cons_succ]
  refine wpAnyH_ready (rs := [5]) (by kernel_rfl) (by simp) ?_
  refine AllReadyH.cons (o := { dst := some 148, op := _, type := _, pos := _, after := _, guard := none }) rfl (fun K hK => ?_) AllReadyH.nil
  go_simp
  refine hK.out _ _ (hS) (fun _ => ?_)
  clear hK K
  try simp only [Act.put, List.setIfInBounds_toArray, List.set_cons_zero, List.set_cons_succ]
  refine wpAnyH_ready (rs := [7]) (by kernel_rfl) (by simp) ?_
  refine AllReadyH.cons (o := { dst := some 150, op := _, type := _, pos := _, after := _, guard := none }) rfl (fun K hK => ?_) AllReadyH.nil
  go_simp
  go_at_call 37
  refine (Gm.low _ n _ hb16 hn).mono ?_
  rintro e w2 ⟨rfl, rfl⟩
  try go_wp2_with fail
  refine hK.out _ _ (hS) (fun _ => ?_)
  clear hK K
  try simp only [Act.put, List.setIfInBounds_toArray, List.set_cons_zero, List.set_cons_succ]
  refine wpAnyH_take (i := 8) (oi := { dst := some 151, op := _, type := _, pos := _, after := _, guard := none }) (v := ?_) rfl (by kernel_rfl) (by kernel_rfl) (by kernel_rfl) (fun _ _ _ h => h) (Or.inl ⟨by rfl, ?_⟩) hS ?_
  rotate_left 1
  focus (intro w hSw; (try dsimp only at hSw); go_simp; try (with_reducible rfl))
  simp only [Act.put, List.setIfInBounds_toArray, List.set_cons_zero, List.set_cons_succ]
  refine wpAnyH_take (i := 9) (oi := { dst := some 152, op := _, type := _, pos := _, after := _, guard := none }) (v := ?_) rfl (by kernel_rfl) (by kernel_rfl) (by kernel_rfl) (fun _ _ _ h => h) (Or.inl ⟨by rfl, ?_⟩) hS ?_
  rotate_left 1
  focus (intro w hSw; (try dsimp only at hSw); go_simp; try (with_reducible rfl))
  simp only [Act.put, List.setIfInBounds_toArray, List.set_cons_zero, List.set_cons_succ]
  refine wpAnyH_ready (rs := [10]) (by kernel_rfl) (by simp) ?_
  refine AllReadyH.cons (o := { dst := none, op := _, type := _, pos := _, after := _, guard := none }) rfl (fun K hK => ?_) AllReadyH.nil
  go_simp
  refine hK.out _ _ (⟨(World.cell?_of_block (heap_set_far HNE.out.1)).trans hS.1, (World.cell?_of_block (heap_set_far HNE.out.2)).trans hS.2⟩) (fun _ => ?_)
  clear hK K
  try simp only [Act.put, List.setIfInBounds_toArray, List.set_cons_zero, List.set_cons_succ]
  refine wpAnyH_done (by kernel_rfl) ?_ _
  go_simp
  go_wp2
  go_end0
  exact ⟨rfl, H.out.drew.put (M' := M.putM 11 n) (tk' := tk) 65 _ (by omega) rfl ⟨rfl, rfl, rfl, rfl, rfl⟩ HF.out, Gt.set H.out.nd (Mv.drew (Gt.refl F W)) _ _⟩
set_option maxHeartbeats 1600000 in
theorem Gm.putP12 (h : Gd F W M tk) (hm : Pu F W mb hb lb gb) (a n : Int) (h1 : 53248 ≤ a) (h2 : a ≤ 57343) (hn : 0 ≤ n ∧ n ≤ 255) (hk : Int.tmod a 32 = 12) : Calls Try.prog 38 #[.int .u16 a, .int .u8 n, pt mb 0, pt hb 0, pt lb 0, pt gb 0] W fun e w' => e = .returned (.tuple #[]) ∧ Gd F w' (M.putM 12 n) tk ∧ Gt F W w' := by
  obtain ⟨y1, e1, x1⟩ := hm.m
  obtain ⟨y2, e2, x2⟩ := hm.h
  have c0 := h.at 66 (.int .u16 M.to) rfl
  have f0 := h.bx.f 66
  have hb16 : bd16 M.to := h.fit.to
  have hg := h.bx.z
  have HNE : Hid (mb ≠ F.g ∧ hb ≠ F.g) := hid ⟨hm.m.ne, fun e => x2 (Or.inl e)⟩
  have HF : Hid ((M.putM 12 n).fit) := hid (gputM_fit h.fit hn (by omega))
  have H := hid h
  clear h hm
  go_enter Try.func38, Try.ntmps38
  go_wp2_with (go_at_call 32; refine (Gm.reg3 a _ h1 h2).mono ?_; rintro e w1 ⟨rfl, rfl⟩)
  refine wp_region_held_drew (S := fun w' => w'.cell? ⟨mb, 0, none⟩ = some (pt F.g 0) ∧ w'.cell? ⟨hb, 0, none⟩ = some (fval 36 #[])) (by kernel_rfl) (⟨e1, e2⟩) ?_
  intro hS
  refine wpAnyH_take (i := 0) (oi := { dst := some 155, op := _, type := _, pos := _, after := _, guard := none }) (v := ?_) rfl (by kernel_rfl) (by kernel_rfl) (by kernel_rfl) (fun _ _ _ h => h) (Or.inl ⟨by rfl, ?_⟩) hS ?_
  rotate_left 1
  focus (intro w hSw; (try dsimp only at hSw); go_simp; try (with_reducible rfl))
  simp only [Act.put, List.setIfInBounds_toArray, List.set_cons_zero, List.set_cons_succ]
  refine wpAnyH_take (i := 1) (oi := { dst := some 156, op := _, type := _, pos := _, after := _, guard := none }) (v := ?_) rfl (by kernel_rfl) (by kernel_rfl) (by kernel_rfl) (fun _ _ _ h => h) (Or.inl ⟨by rfl, ?_⟩) hS ?_
  rotate_left 1
  focus (intro w hSw; (try dsimp only at hSw); go_simp; try (with_reducible rfl))
  simp only [Act.put, List.setIfInBounds_toArray, List.set_cons_zero, List.set_cons_succ]
  refine wpAnyH_take (i := 2) (oi := { dst := some 157, op := _, type := _, pos := _, after := _, guard := none }) (v := ?_) rfl (by kernel_rfl) (by kernel_rfl) (by kernel_rfl) (fun _ _ _ h => h) (Or.inl ⟨by rfl, ?_⟩) hS ?_
  rotate_left 1
  focus (intro w hSw; (try dsimp only at hSw); go_simp; try (with_reducible rfl))
  simp only [Act.put, List.setIfInBounds_toArray, List.set_cons_zero, List.set_cons_succ]
  refine wpAnyH_take (i := 3) (oi := { dst := some 158, op := _, type := _, pos := _, after := _, guard := none }) (v := ?_) rfl (by kernel_rfl) (by kernel_rfl) (by kernel_rfl) (fun _ _ _ h => h) (Or.inl ⟨by rfl, ?_⟩) hS ?_
  rotate_left 1
  focus (intro w hSw; (try dsimp only at hSw); go_simp; try (with_reducible rfl))
  simp only [Act.put, List.setIfInBounds_toArray, List.set_cons_zero, List.set_cons_succ]
  refine wpAnyH_take (i := 4) (oi := { dst := some 159, op := _, type := _, pos := _, after := _, guard := none }) (v := ?_) rfl (by kernel_rfl) (by kernel_rfl) (by kernel_rfl) (fun _ _ _ h => h) (Or.inl ⟨by rfl, ?_⟩) hS ?_
  rotate_left 1
  focus (intro w hSw; (try dsimp only at hSw); go_simp; try (with_reducible rfl))
  simp only [Act.put, List.setIfInBounds_toArray, List.set_cons_zero, List.set_cons_succ]
  refine wpAnyH_take (i := 6) (oi := { dst := some 161, op := _, type := _, pos := _, after := _, guard := none }) (v := ?_) rfl (by kernel_rfl) (by kernel_rfl) (by kernel_rfl) (fun _ _ _ h => h) (Or.inl ⟨by rfl, ?_⟩) hS ?_
  rotate_left 1
  focus (intro w hSw; (try dsimp only at hSw); go_simp; try (with_reducible rfl))
  simp only [Act.put, List.setIfInBounds_toArray, List.set_cons_zero, List.set_cons_succ]
  refine wpAnyH_ready (rs := [5]) (by kernel_rfl) (by simp) ?_
  refine AllReadyH.cons (o := { dst := some 160, op := _, type := _, pos := _, after := _, guard := none }) rfl (fun K hK => ?_) AllReadyH.nil
  go_simp
  refine hK.out _ _ (hS) (fun _ => ?_)
  clear hK K
  try simp only [Act.put, List.setIfInBounds_toArray, List.set_cons_zero, List.set_cons_succ]
  refine wpAnyH_ready (rs := [7]) (by kernel_rfl) (by simp) ?_
  refine AllReadyH.cons (o := { dst := some 162, op := _, type := _, pos := _, after := _, guard := none }) rfl (fun K hK => ?_) AllReadyH.nil
  go_simp
  go_at_call 36
  refine (Gm.high _ n _ hb16 hn).mono ?_
  rintro e w2 ⟨rfl, rfl⟩
  try go_wp2_with fail
  refine hK.out _ _ (hS) (fun _ => ?_)
  clear hK K
  try simp only [Act.put, List.setIfInBounds_toArray, List.set_cons_zero, List.set_cons_succ]
  refine wpAnyH_take (i := 8) (oi := { dst := some 163, op := _, type := _, pos := _, after := _, guard := none }) (v := ?_) rfl (by kernel_rfl) (by kernel_rfl) (by kernel_rfl) (fun _ _ _ h => h) (Or.inl ⟨by rfl, ?_⟩) hS ?_
  rotate_left 1
  focus (intro w hSw; (try dsimp only at hSw); go_simp; try (with_reducible rfl))
  simp only [Act.put, List.setIfInBounds_toArray, List.set_cons_zero, List.set_cons_succ]
  refine wpAnyH_take (i := 9) (oi := { dst := some 164, op := _, type := _, pos := _, after := _, guard := none }) (v := ?_) rfl (by kernel_rfl) (by kernel_rfl) (by kernel_rfl) (fun _ _ _ h => h) (Or.inl ⟨by rfl, ?_⟩) hS ?_
  rotate_left 1
  focus (intro w hSw; (try dsimp only at hSw); go_simp; try (with_reducible rfl))
  simp only [Act.put, List.setIfInBounds_toArray, List.set_cons_zero, List.set_cons_succ]
  refine wpAnyH_ready (rs := [10]) (by kernel_rfl) (by simp) ?_
  refine AllReadyH.cons (o := { dst := none, op := _, type := _, pos := _, after := _, guard := none }) rfl (fun K hK => ?_) AllReadyH.nil
  go_simp
  refine hK.out _ _ (⟨(World.cell?_of_block (heap_set_far HNE.out.1)).trans hS.1, (World.cell?_of_block (heap_set_far HNE.out.2)).trans hS.2⟩) (fun _ => ?_)
  clear hK K
  try simp only [Act.put, List.setIfInBounds_toArray, List.set_cons_zero, List.set_cons_succ]
  refine wpAnyH_done (by kernel_rfl) ?_ _
  go_simp
  go_wp2
  go_end0
  exact ⟨rfl, H.out.drew.put (M' := M.putM 12 n) (tk' := tk) 66 _ (by omega) rfl ⟨rfl, rfl, rfl, rfl, rfl⟩ HF.out, Gt.set H.out.nd (Mv.drew (Gt.refl F W)) _ _⟩
set_option maxHeartbeats 1600000 in
theorem Gm.putP13 (h : Gd F W M tk) (hm : Pu F W mb hb lb gb) (a n : Int) (h1 : 53248 ≤ a) (h2 : a ≤ 57343) (hn : 0 ≤ n ∧ n ≤ 255) (hk : Int.tmod a 32 = 13) : Calls Try.prog 38 #[.int .u16 a, .int .u8 n, pt mb 0, pt hb 0, pt lb 0, pt gb 0] W fun e w' => e = .returned (.tuple #[]) ∧ Gd F w' (M.putM 13 n) tk ∧ Gt F W w' := by
  obtain ⟨y1, e1, x1⟩ := hm.m
  obtain ⟨y2, e2, x2⟩ := hm.l
  have c0 := h.at 66 (.int .u16 M.to) rfl
  have f0 := h.bx.f 66
  have hb16 : bd16 M.to := h.fit.to
  have hg := h.bx.z
  have HNE : Hid (mb ≠ F.g ∧ lb ≠ F.g) := hid ⟨hm.m.ne, fun e => x2 (Or.inl e)⟩
  have HF : Hid ((M.putM 13 n).fit) := hid (gputM_fit h.fit hn (by omega))
  have H := hid h
  clear h hm
  go_enter Try.func38, Try.ntmps38
  go_wp2_with (go_at_call 32; refine (Gm.reg3 a _ h1 h2).mono ?_; rintro e w1 ⟨rfl, rfl⟩)
  refine wp_region_held_drew (S := fun w' => w'.cell? ⟨mb, 0, none⟩ = some (pt F.g 0) ∧ w'.cell? ⟨lb, 0, none⟩ = some (fval 37 #[])) (by kernel_rfl) (⟨e1, e2⟩) ?_
  intro hS
  refine wpAnyH_take (i := 0) (oi := { dst := some 167, op := _, type := _, pos := _, after := _, guard := none }) (v := ?_) rfl (by kernel_rfl) (by kernel_rfl) (by kernel_rfl) (fun _ _ _ h => h) (Or.inl ⟨by rfl, ?_⟩) hS ?_
  rotate_left 1
  focus (intro w hSw; (try dsimp only at hSw); go_simp; try (with_reducible rfl))
  simp only [Act.put, List.setIfInBounds_toArray, List.set_cons_zero, List.set_cons_succ]
  refine wpAnyH_take (i := 1) (oi := { dst := some 168, op := _, type := _, pos := _, after := _, guard := none }) (v := ?_) rfl (by kernel_rfl) (by kernel_rfl) (by kernel_rfl) (fun _ _ _ h => h) (Or.inl ⟨by rfl, ?_⟩) hS ?_
  rotate_left 1
  focus (intro w hSw; (try dsimp only at hSw); go_simp; try (with_reducible rfl))
  simp only [Act.put, List.setIfInBounds_toArray, List.set_cons_zero, List.set_cons_succ]
  refine wpAnyH_take (i := 2) (oi := { dst := some 169, op := _, type := _, pos := _, after := _, guard := none }) (v := ?_) rfl (by kernel_rfl) (by kernel_rfl) (by kernel_rfl) (fun _ _ _ h => h) (Or.inl ⟨by rfl, ?_⟩) hS ?_
  rotate_left 1
  focus (intro w hSw; (try dsimp only at hSw); go_simp; try (with_reducible rfl))
  simp only [Act.put, List.setIfInBounds_toArray, List.set_cons_zero, List.set_cons_succ]
  refine wpAnyH_take (i := 3) (oi := { dst := some 170, op := _, type := _, pos := _, after := _, guard := none }) (v := ?_) rfl (by kernel_rfl) (by kernel_rfl) (by kernel_rfl) (fun _ _ _ h => h) (Or.inl ⟨by rfl, ?_⟩) hS ?_
  rotate_left 1
  focus (intro w hSw; (try dsimp only at hSw); go_simp; try (with_reducible rfl))
  simp only [Act.put, List.setIfInBounds_toArray, List.set_cons_zero, List.set_cons_succ]
  refine wpAnyH_take (i := 4) (oi := { dst := some 171, op := _, type := _, pos := _, after := _, guard := none }) (v := ?_) rfl (by kernel_rfl) (by kernel_rfl) (by kernel_rfl) (fun _ _ _ h => h) (Or.inl ⟨by rfl, ?_⟩) hS ?_
  rotate_left 1
  focus (intro w hSw; (try dsimp only at hSw); go_simp; try (with_reducible rfl))
  simp only [Act.put, List.setIfInBounds_toArray, List.set_cons_zero, List.set_cons_succ]
  refine wpAnyH_take (i := 6) (oi := { dst := some 173, op := _, type := _, pos := _, after := _, guard := none }) (v := ?_) rfl (by kernel_rfl) (by kernel_rfl) (by kernel_rfl) (fun _ _ _ h => h) (Or.inl ⟨by rfl, ?_⟩) hS ?_
  rotate_left 1
  focus (intro w hSw; (try dsimp only at hSw); go_simp; try (with_reducible rfl))
  simp only [Act.put, List.setIfInBounds_toArray, List.set_cons_zero, List.set_cons_succ]
  refine wpAnyH_ready (rs := [5]) (by kernel_rfl) (by simp) ?_
  refine AllReadyH.cons (o := { dst := some 172, op := _, type := _, pos := _, after := _, guard := none }) rfl (fun K hK => ?_) AllReadyH.nil
  go_simp
  refine hK.out _ _ (hS) (fun _ => ?_)
  clear hK K
  try simp only [Act.put, List.setIfInBounds_toArray, List.set_cons_zero, List.set_cons_succ]
  refine wpAnyH_ready (rs := [7]) (by kernel_rfl) (by simp) ?_
  refine AllReadyH.cons (o := { dst := some 174, op := _, type := _, pos := _, after := _, guard := none }) rfl (fun K hK => ?_) AllReadyH.nil
  go_simp
  go_at_call 37
  refine (Gm.low _ n _ hb16 hn).mono ?_
  rintro e w2 ⟨rfl, rfl⟩
  try go_wp2_with fail
  refine hK.out _ _ (hS) (fun _ => ?_)
  clear hK K
  try simp only [Act.put, List.setIfInBounds_toArray, List.set_cons_zero, List.set_cons_succ]
  refine wpAnyH_take (i := 8) (oi := { dst := some 175, op := _, type := _, pos := _, after := _, guard := none }) (v := ?_) rfl (by kernel_rfl) (by kernel_rfl) (by kernel_rfl) (fun _ _ _ h => h) (Or.inl ⟨by rfl, ?_⟩) hS ?_
  rotate_left 1
  focus (intro w hSw; (try dsimp only at hSw); go_simp; try (with_reducible rfl))
  simp only [Act.put, List.setIfInBounds_toArray, List.set_cons_zero, List.set_cons_succ]
  refine wpAnyH_take (i := 9) (oi := { dst := some 176, op := _, type := _, pos := _, after := _, guard := none }) (v := ?_) rfl (by kernel_rfl) (by kernel_rfl) (by kernel_rfl) (fun _ _ _ h => h) (Or.inl ⟨by rfl, ?_⟩) hS ?_
  rotate_left 1
  focus (intro w hSw; (try dsimp only at hSw); go_simp; try (with_reducible rfl))
  simp only [Act.put, List.setIfInBounds_toArray, List.set_cons_zero, List.set_cons_succ]
  refine wpAnyH_ready (rs := [10]) (by kernel_rfl) (by simp) ?_
  refine AllReadyH.cons (o := { dst := none, op := _, type := _, pos := _, after := _, guard := none }) rfl (fun K hK => ?_) AllReadyH.nil
  go_simp
  refine hK.out _ _ (⟨(World.cell?_of_block (heap_set_far HNE.out.1)).trans hS.1, (World.cell?_of_block (heap_set_far HNE.out.2)).trans hS.2⟩) (fun _ => ?_)
  clear hK K
  try simp only [Act.put, List.setIfInBounds_toArray, List.set_cons_zero, List.set_cons_succ]
  refine wpAnyH_done (by kernel_rfl) ?_ _
  go_simp
  go_wp2
  go_end0
  exact ⟨rfl, H.out.drew.put (M' := M.putM 13 n) (tk' := tk) 66 _ (by omega) rfl ⟨rfl, rfl, rfl, rfl, rfl⟩ HF.out, Gt.set H.out.nd (Mv.drew (Gt.refl F W)) _ _⟩
end
section
variable {F : Gx} {W : World} {M : Mach} {tk : Tk} {mb hb lb gb : Nat}
set_option maxHeartbeats 1600000 in
theorem Gm.putP400 (h : Gd F W M tk) (hm : Pu F W mb hb lb gb) (a n : Int) (h1 : 53248 ≤ a) (h2 : a ≤ 57343) (hn : 0 ≤ n ∧ n ≤ 255) (hk : Int.tmod a 32 = 4) (o1 : odd n = false) (o2 : odd (n / 2) = false) : Calls Try.prog 38 #[.int .u16 a, .int .u8 n, pt mb 0, pt hb 0, pt lb 0, pt gb 0] W fun e w' => e = .returned (.tuple #[]) ∧ Gd F w' (M.putM 4 n) tk ∧ Gt F W w' := by
  obtain ⟨y1, e1, x1⟩ := hm.m
  have hne : mb ≠ F.g := hm.m.ne
  have HNE : Hid (mb ≠ F.g) := hid hm.m.ne
  have c41 := h.at 41 (.int .u16 M.t.r) rfl
  have c42 := h.at 42 (.int .u16 M.t.c) rfl
  have c43 := h.at 43 (.bool M.t.on) rfl
  have c44 := h.at 44 (.bool M.t.g) rfl
  have ff := h.bx.f
  have hg := h.bx.z
  have q1 : Int.tmod n 2 = 0 := by rw [Int.tmod_eq_emod_of_nonneg hn.1]; unfold odd at o1; simp at o1; omega
  obtain ⟨m, hmq, hm0, hm1⟩ : ∃ m, Int.tdiv n 2 = m ∧ 0 ≤ m ∧ m ≤ 127 := ⟨_, rfl, by rw [Int.tdiv_eq_ediv_of_nonneg hn.1]; omega⟩
  have q2 : Int.tmod m 2 = 0 := by rw [← hmq, Int.tdiv_eq_ediv_of_nonneg hn.1, Int.tmod_eq_emod_of_nonneg (by omega)]; unfold odd at o2; simp at o2; omega
  have e0 : M.putM 4 n = { M with t := ⟨M.t.r, M.t.c, false, M.t.g⟩ } := by
    show { M with t := M.t.put n } = _
    unfold TM.put
    rw [o1, o2]
    rfl
  have E0 := hid e0
  have H := hid h
  clear h hm e0 o1 o2
  go_enter Try.func38, Try.ntmps38
  go_wp2_with (go_at_call 32; refine (Gm.reg3 a _ h1 h2).mono ?_; rintro e w1 ⟨rfl, rfl⟩)
  go_end0
  rw [E0.out]
  exact ⟨rfl, H.out.put (tk' := tk) 43 _ (by omega) rfl ⟨rfl, rfl, rfl, rfl, rfl⟩ { H.out.fit with main := H.out.fit.main }, Gt.set H.out.nd (Gt.refl F W) _ _⟩
set_option maxHeartbeats 1600000 in
theorem Gm.putP401 (h : Gd F W M tk) (hm : Pu F W mb hb lb gb) (a n : Int) (h1 : 53248 ≤ a) (h2 : a ≤ 57343) (hn : 0 ≤ n ∧ n ≤ 255) (hk : Int.tmod a 32 = 4) (o1 : odd n = false) (o2 : odd (n / 2) = true) : Calls Try.prog 38 #[.int .u16 a, .int .u8 n, pt mb 0, pt hb 0, pt lb 0, pt gb 0] W fun e w' => e = .returned (.tuple #[]) ∧ Gd F w' (M.putM 4 n) tk ∧ Gt F W w' := by
  obtain ⟨y1, e1, x1⟩ := hm.m
  have hne : mb ≠ F.g := hm.m.ne
  have HNE : Hid (mb ≠ F.g) := hid hm.m.ne
  have c41 := h.at 41 (.int .u16 M.t.r) rfl
  have c42 := h.at 42 (.int .u16 M.t.c) rfl
  have c43 := h.at 43 (.bool M.t.on) rfl
  have c44 := h.at 44 (.bool M.t.g) rfl
  have ff := h.bx.f
  have hg := h.bx.z
  have q1 : Int.tmod n 2 = 0 := by rw [Int.tmod_eq_emod_of_nonneg hn.1]; unfold odd at o1; simp at o1; omega
  obtain ⟨m, hmq, hm0, hm1⟩ : ∃ m, Int.tdiv n 2 = m ∧ 0 ≤ m ∧ m ≤ 127 := ⟨_, rfl, by rw [Int.tdiv_eq_ediv_of_nonneg hn.1]; omega⟩
  have q2 : Int.tmod m 2 = 1 := by rw [← hmq, Int.tdiv_eq_ediv_of_nonneg hn.1, Int.tmod_eq_emod_of_nonneg (by omega)]; unfold odd at o2; simp at o2; omega
  have e0 : M.putM 4 n = { M with t := ⟨M.t.r, M.t.c, false, false⟩ } := by
    show { M with t := M.t.put n } = _
    unfold TM.put
    rw [o1, o2]
    rfl
  have E0 := hid e0
  have H := hid h
  clear h hm e0 o1 o2
  go_enter Try.func38, Try.ntmps38
  go_wp2_with (go_at_call 32; refine (Gm.reg3 a _ h1 h2).mono ?_; rintro e w1 ⟨rfl, rfl⟩)
  go_end0
  rw [E0.out]
  exact ⟨rfl, (H.out.put (M' := { M with t := { M.t with on := false } }) (tk' := tk) 43 _ (by omega) rfl ⟨rfl, rfl, rfl, rfl, rfl⟩ { H.out.fit with main := H.out.fit.main }).put (tk' := tk) 44 _ (by omega) rfl ⟨rfl, rfl, rfl, rfl, rfl⟩ { H.out.fit with main := H.out.fit.main }, Gt.set H.out.nd (Gt.set H.out.nd (Gt.refl F W) _ _) _ _⟩
set_option maxHeartbeats 1600000 in
theorem Gm.putP410 (h : Gd F W M tk) (hm : Pu F W mb hb lb gb) (a n : Int) (h1 : 53248 ≤ a) (h2 : a ≤ 57343) (hn : 0 ≤ n ∧ n ≤ 255) (hk : Int.tmod a 32 = 4) (o1 : odd n = true) (o2 : odd (n / 2) = false) : Calls Try.prog 38 #[.int .u16 a, .int .u8 n, pt mb 0, pt hb 0, pt lb 0, pt gb 0] W fun e w' => e = .returned (.tuple #[]) ∧ Gd F w' (M.putM 4 n) tk ∧ Gt F W w' := by
  obtain ⟨y1, e1, x1⟩ := hm.m
  have hne : mb ≠ F.g := hm.m.ne
  have HNE : Hid (mb ≠ F.g) := hid hm.m.ne
  have c41 := h.at 41 (.int .u16 M.t.r) rfl
  have c42 := h.at 42 (.int .u16 M.t.c) rfl
  have c43 := h.at 43 (.bool M.t.on) rfl
  have c44 := h.at 44 (.bool M.t.g) rfl
  have ff := h.bx.f
  have hg := h.bx.z
  have q1 : Int.tmod n 2 = 1 := by rw [Int.tmod_eq_emod_of_nonneg hn.1]; unfold odd at o1; simp at o1; omega
  obtain ⟨m, hmq, hm0, hm1⟩ : ∃ m, Int.tdiv n 2 = m ∧ 0 ≤ m ∧ m ≤ 127 := ⟨_, rfl, by rw [Int.tdiv_eq_ediv_of_nonneg hn.1]; omega⟩
  have q2 : Int.tmod m 2 = 0 := by rw [← hmq, Int.tdiv_eq_ediv_of_nonneg hn.1, Int.tmod_eq_emod_of_nonneg (by omega)]; unfold odd at o2; simp at o2; omega
  have e0 : M.putM 4 n = { M with t := ⟨M.t.r, M.t.r, true, M.t.g⟩ } := by
    show { M with t := M.t.put n } = _
    unfold TM.put
    rw [o1, o2]
    rfl
  have E0 := hid e0
  have H := hid h
  clear h hm e0 o1 o2
  go_enter Try.func38, Try.ntmps38
  go_wp2_with (go_at_call 32; refine (Gm.reg3 a _ h1 h2).mono ?_; rintro e w1 ⟨rfl, rfl⟩)
  have HX : Hid (Gd F (W.setCell ⟨F.g, 43, none⟩ (.bool true)) { M with t := { M.t with on := true } } tk) := hid (H.out.put (M' := { M with t := { M.t with on := true } }) (tk' := tk) 43 _ (by omega) rfl ⟨rfl, rfl, rfl, rfl, rfl⟩ { H.out.fit with main := H.out.fit.main })
  have eX : (W.setCell ⟨F.g, 43, none⟩ (.bool true)).cell? ⟨mb, 0, none⟩ = some (pt F.g 0) := (World.cell?_of_block (heap_set_far HNE.out)).trans e1
  have HT : Hid (Gt F W (W.setCell ⟨F.g, 43, none⟩ (.bool true))) := hid (Gt.set H.out.nd (Gt.refl F W) 43 (.bool true))
  have d41 := HX.out.at 41 (.int .u16 M.t.r) rfl
  have d42 := HX.out.at 42 (.int .u16 M.t.c) rfl
  have gX := HX.out.bx.z
  have fX := HX.out.bx.f
  generalize W.setCell ⟨F.g, 43, none⟩ (.bool true) = Y at *
  refine wp_region_held_drew (S := fun w' => w'.cell? ⟨mb, 0, none⟩ = some (pt F.g 0)) (by kernel_rfl) (eX) ?_
  intro hS
  refine wpAnyH_take (i := 0) (oi := { dst := some 106, op := _, type := _, pos := _, after := _, guard := none }) (v := ?_) rfl (by kernel_rfl) (by kernel_rfl) (by kernel_rfl) (fun _ _ _ h => h) (Or.inl ⟨by rfl, ?_⟩) hS ?_
  rotate_left 1
  focus (intro w hSw; (try dsimp only at hSw); go_simp; try (with_reducible rfl))
  simp only [Act.put, List.setIfInBounds_toArray, List.set_cons_zero, List.set_cons_succ]
  refine wpAnyH_take (i := 1) (oi := { dst := some 107, op := _, type := _, pos := _, after := _, guard := none }) (v := ?_) rfl (by kernel_rfl) (by kernel_rfl) (by kernel_rfl) (fun _ _ _ h => h) (Or.inl ⟨by rfl, ?_⟩) hS ?_
  rotate_left 1
  focus (intro w hSw; (try dsimp only at hSw); go_simp; try (with_reducible rfl))
  simp only [Act.put, List.setIfInBounds_toArray, List.set_cons_zero, List.set_cons_succ]
  refine wpAnyH_take (i := 2) (oi := { dst := some 108, op := _, type := _, pos := _, after := _, guard := none }) (v := ?_) rfl (by kernel_rfl) (by kernel_rfl) (by kernel_rfl) (fun _ _ _ h => h) (Or.inl ⟨by rfl, ?_⟩) hS ?_
  rotate_left 1
  focus (intro w hSw; (try dsimp only at hSw); go_simp; try (with_reducible rfl))
  simp only [Act.put, List.setIfInBounds_toArray, List.set_cons_zero, List.set_cons_succ]
  refine wpAnyH_take (i := 3) (oi := { dst := some 109, op := _, type := _, pos := _, after := _, guard := none }) (v := ?_) rfl (by kernel_rfl) (by kernel_rfl) (by kernel_rfl) (fun _ _ _ h => h) (Or.inl ⟨by rfl, ?_⟩) hS ?_
  rotate_left 1
  focus (intro w hSw; (try dsimp only at hSw); go_simp; try (with_reducible rfl))
  simp only [Act.put, List.setIfInBounds_toArray, List.set_cons_zero, List.set_cons_succ]
  refine wpAnyH_take (i := 4) (oi := { dst := some 110, op := _, type := _, pos := _, after := _, guard := none }) (v := ?_) rfl (by kernel_rfl) (by kernel_rfl) (by kernel_rfl) (fun _ _ _ h => h) (Or.inl ⟨by rfl, ?_⟩) hS ?_
  rotate_left 1
  focus (intro w hSw; (try dsimp only at hSw); go_simp; try (with_reducible rfl))
  simp only [Act.put, List.setIfInBounds_toArray, List.set_cons_zero, List.set_cons_succ]
  refine wpAnyH_ready (rs := [5]) (by kernel_rfl) (by simp) ?_
  refine AllReadyH.cons (o := { dst := some 111, op := _, type := _, pos := _, after := _, guard := none }) rfl (fun K hK => ?_) AllReadyH.nil
  go_simp
  refine hK.out _ _ (hS) (fun _ => ?_)
  clear hK K
  try simp only [Act.put, List.setIfInBounds_toArray, List.set_cons_zero, List.set_cons_succ]
  refine wpAnyH_take (i := 6) (oi := { dst := some 112, op := _, type := _, pos := _, after := _, guard := none }) (v := ?_) rfl (by kernel_rfl) (by kernel_rfl) (by kernel_rfl) (fun _ _ _ h => h) (Or.inl ⟨by rfl, ?_⟩) hS ?_
  rotate_left 1
  focus (intro w hSw; (try dsimp only at hSw); go_simp; try (with_reducible rfl))
  simp only [Act.put, List.setIfInBounds_toArray, List.set_cons_zero, List.set_cons_succ]
  refine wpAnyH_take (i := 7) (oi := { dst := some 113, op := _, type := _, pos := _, after := _, guard := none }) (v := ?_) rfl (by kernel_rfl) (by kernel_rfl) (by kernel_rfl) (fun _ _ _ h => h) (Or.inl ⟨by rfl, ?_⟩) hS ?_
  rotate_left 1
  focus (intro w hSw; (try dsimp only at hSw); go_simp; try (with_reducible rfl))
  simp only [Act.put, List.setIfInBounds_toArray, List.set_cons_zero, List.set_cons_succ]
  refine wpAnyH_take (i := 8) (oi := { dst := some 114, op := _, type := _, pos := _, after := _, guard := none }) (v := ?_) rfl (by kernel_rfl) (by kernel_rfl) (by kernel_rfl) (fun _ _ _ h => h) (Or.inl ⟨by rfl, ?_⟩) hS ?_
  rotate_left 1
  focus (intro w hSw; (try dsimp only at hSw); go_simp; try (with_reducible rfl))
  simp only [Act.put, List.setIfInBounds_toArray, List.set_cons_zero, List.set_cons_succ]
  refine wpAnyH_ready (rs := [9]) (by kernel_rfl) (by simp) ?_
  refine AllReadyH.cons (o := { dst := none, op := _, type := _, pos := _, after := _, guard := none }) rfl (fun K hK => ?_) AllReadyH.nil
  go_simp
  refine hK.out _ _ ((World.cell?_of_block (heap_set_far HNE.out)).trans hS) (fun _ => ?_)
  clear hK K
  try simp only [Act.put, List.setIfInBounds_toArray, List.set_cons_zero, List.set_cons_succ]
  refine wpAnyH_done (by kernel_rfl) ?_ _
  have HZ : Hid (Gd F (Y.drew.setCell ⟨F.g, 42, none⟩ (.int .u16 M.t.r)) { M with t := ⟨M.t.r, M.t.r, true, M.t.g⟩ } tk) := hid (HX.out.drew.put (M' := { M with t := ⟨M.t.r, M.t.r, true, M.t.g⟩ }) (tk' := tk) 42 _ (by omega) rfl ⟨rfl, rfl, rfl, rfl, rfl⟩ { HX.out.fit with main := HX.out.fit.main, tr := H.out.fit.tr, tc := H.out.fit.tr })
  have HTZ : Hid (Gt F W (Y.drew.setCell ⟨F.g, 42, none⟩ (.int .u16 M.t.r))) := hid (Gt.set H.out.nd (Mv.drew HT.out) 42 (.int .u16 M.t.r))
  refine Pl.cutE (fun V => Gd F V { M with t := ⟨M.t.r, M.t.r, true, M.t.g⟩ } tk ∧ Gt F W V ∧ V.cell? ⟨mb, 0, none⟩ = some (pt F.g 0)) ⟨HZ.out, HTZ.out, (World.cell?_of_block (heap_set_far HNE.out)).trans hS⟩ ?_
  rintro V ⟨hV1, hV2, eV⟩
  have HV1 := hid hV1
  have HV2 := hid hV2
  have v44 := hV1.at 44 (.bool M.t.g) rfl
  have vf := hV1.bx.f
  have vg := hV1.bx.z
  clear hV1 hV2 HX HT HZ HTZ d41 d42 gX fX eX hS
  go_wp2
  go_end0
  rw [E0.out]
  exact ⟨rfl, HV1.out, HV2.out⟩
set_option maxHeartbeats 1600000 in
theorem Gm.putP411 (h : Gd F W M tk) (hm : Pu F W mb hb lb gb) (a n : Int) (h1 : 53248 ≤ a) (h2 : a ≤ 57343) (hn : 0 ≤ n ∧ n ≤ 255) (hk : Int.tmod a 32 = 4) (o1 : odd n = true) (o2 : odd (n / 2) = true) : Calls Try.prog 38 #[.int .u16 a, .int .u8 n, pt mb 0, pt hb 0, pt lb 0, pt gb 0] W fun e w' => e = .returned (.tuple #[]) ∧ Gd F w' (M.putM 4 n) tk ∧ Gt F W w' := by
  obtain ⟨y1, e1, x1⟩ := hm.m
  have hne : mb ≠ F.g := hm.m.ne
  have HNE : Hid (mb ≠ F.g) := hid hm.m.ne
  have c41 := h.at 41 (.int .u16 M.t.r) rfl
  have c42 := h.at 42 (.int .u16 M.t.c) rfl
  have c43 := h.at 43 (.bool M.t.on) rfl
  have c44 := h.at 44 (.bool M.t.g) rfl
  have ff := h.bx.f
  have hg := h.bx.z
  have q1 : Int.tmod n 2 = 1 := by rw [Int.tmod_eq_emod_of_nonneg hn.1]; unfold odd at o1; simp at o1; omega
  obtain ⟨m, hmq, hm0, hm1⟩ : ∃ m, Int.tdiv n 2 = m ∧ 0 ≤ m ∧ m ≤ 127 := ⟨_, rfl, by rw [Int.tdiv_eq_ediv_of_nonneg hn.1]; omega⟩
  have q2 : Int.tmod m 2 = 1 := by rw [← hmq, Int.tdiv_eq_ediv_of_nonneg hn.1, Int.tmod_eq_emod_of_nonneg (by omega)]; unfold odd at o2; simp at o2; omega
  have e0 : M.putM 4 n = { M with t := ⟨M.t.r, M.t.r, true, false⟩ } := by
    show { M with t := M.t.put n } = _
    unfold TM.put
    rw [o1, o2]
    rfl
  have E0 := hid e0
  have H := hid h
  clear h hm e0 o1 o2
  go_enter Try.func38, Try.ntmps38
  go_wp2_with (go_at_call 32; refine (Gm.reg3 a _ h1 h2).mono ?_; rintro e w1 ⟨rfl, rfl⟩)
  have HX : Hid (Gd F (W.setCell ⟨F.g, 43, none⟩ (.bool true)) { M with t := { M.t with on := true } } tk) := hid (H.out.put (M' := { M with t := { M.t with on := true } }) (tk' := tk) 43 _ (by omega) rfl ⟨rfl, rfl, rfl, rfl, rfl⟩ { H.out.fit with main := H.out.fit.main })
  have eX : (W.setCell ⟨F.g, 43, none⟩ (.bool true)).cell? ⟨mb, 0, none⟩ = some (pt F.g 0) := (World.cell?_of_block (heap_set_far HNE.out)).trans e1
  have HT : Hid (Gt F W (W.setCell ⟨F.g, 43, none⟩ (.bool true))) := hid (Gt.set H.out.nd (Gt.refl F W) 43 (.bool true))
  have d41 := HX.out.at 41 (.int .u16 M.t.r) rfl
  have d42 := HX.out.at 42 (.int .u16 M.t.c) rfl
  have gX := HX.out.bx.z
  have fX := HX.out.bx.f
  generalize W.setCell ⟨F.g, 43, none⟩ (.bool true) = Y at *
  refine wp_region_held_drew (S := fun w' => w'.cell? ⟨mb, 0, none⟩ = some (pt F.g 0)) (by kernel_rfl) (eX) ?_
  intro hS
  refine wpAnyH_take (i := 0) (oi := { dst := some 106, op := _, type := _, pos := _, after := _, guard := none }) (v := ?_) rfl (by kernel_rfl) (by kernel_rfl) (by kernel_rfl) (fun _ _ _ h => h) (Or.inl ⟨by rfl, ?_⟩) hS ?_
  rotate_left 1
  focus (intro w hSw; (try dsimp only at hSw); go_simp; try (with_reducible rfl))
  simp only [Act.put, List.setIfInBounds_toArray, List.set_cons_zero, List.set_cons_succ]
  refine wpAnyH_take (i := 1) (oi := { dst := some 107, op := _, type := _, pos := _, after := _, guard := none }) (v := ?_) rfl (by kernel_rfl) (by kernel_rfl) (by kernel_rfl) (fun _ _ _ h => h) (Or.inl ⟨by rfl, ?_⟩) hS ?_
  rotate_left 1
  focus (intro w hSw; (try dsimp only at hSw); go_simp; try (with_reducible rfl))
  simp only [Act.put, List.setIfInBounds_toArray, List.set_cons_zero, List.set_cons_succ]
  refine wpAnyH_take (i := 2) (oi := { dst := some 108, op := _, type := _, pos := _, after := _, guard := none }) (v := ?_) rfl (by kernel_rfl) (by kernel_rfl) (by kernel_rfl) (fun _ _ _ h => h) (Or.inl ⟨by rfl, ?_⟩) hS ?_
  rotate_left 1
  focus (intro w hSw; (try dsimp only at hSw); go_simp; try (with_reducible rfl))
  simp only [Act.put, List.setIfInBounds_toArray, List.set_cons_zero, List.set_cons_succ]
  refine wpAnyH_take (i := 3) (oi := { dst := some 109, op := _, type := _, pos := _, after := _, guard := none }) (v := ?_) rfl (by kernel_rfl) (by kernel_rfl) (by kernel_rfl) (fun _ _ _ h => h) (Or.inl ⟨by rfl, ?_⟩) hS ?_
  rotate_left 1
  focus (intro w hSw; (try dsimp only at hSw); go_simp; try (with_reducible rfl))
  simp only [Act.put, List.setIfInBounds_toArray, List.set_cons_zero, List.set_cons_succ]
  refine wpAnyH_take (i := 4) (oi := { dst := some 110, op := _, type := _, pos := _, after := _, guard := none }) (v := ?_) rfl (by kernel_rfl) (by kernel_rfl) (by kernel_rfl) (fun _ _ _ h => h) (Or.inl ⟨by rfl, ?_⟩) hS ?_
  rotate_left 1
  focus (intro w hSw; (try dsimp only at hSw); go_simp; try (with_reducible rfl))
  simp only [Act.put, List.setIfInBounds_toArray, List.set_cons_zero, List.set_cons_succ]
  refine wpAnyH_ready (rs := [5]) (by kernel_rfl) (by simp) ?_
  refine AllReadyH.cons (o := { dst := some 111, op := _, type := _, pos := _, after := _, guard := none }) rfl (fun K hK => ?_) AllReadyH.nil
  go_simp
  refine hK.out _ _ (hS) (fun _ => ?_)
  clear hK K
  try simp only [Act.put, List.setIfInBounds_toArray, List.set_cons_zero, List.set_cons_succ]
  refine wpAnyH_take (i := 6) (oi := { dst := some 112, op := _, type := _, pos := _, after := _, guard := none }) (v := ?_) rfl (by kernel_rfl) (by kernel_rfl) (by kernel_rfl) (fun _ _ _ h => h) (Or.inl ⟨by rfl, ?_⟩) hS ?_
  rotate_left 1
  focus (intro w hSw; (try dsimp only at hSw); go_simp; try (with_reducible rfl))
  simp only [Act.put, List.setIfInBounds_toArray, List.set_cons_zero, List.set_cons_succ]
  refine wpAnyH_take (i := 7) (oi := { dst := some 113, op := _, type := _, pos := _, after := _, guard := none }) (v := ?_) rfl (by kernel_rfl) (by kernel_rfl) (by kernel_rfl) (fun _ _ _ h => h) (Or.inl ⟨by rfl, ?_⟩) hS ?_
  rotate_left 1
  focus (intro w hSw; (try dsimp only at hSw); go_simp; try (with_reducible rfl))
  simp only [Act.put, List.setIfInBounds_toArray, List.set_cons_zero, List.set_cons_succ]
  refine wpAnyH_take (i := 8) (oi := { dst := some 114, op := _, type := _, pos := _, after := _, guard := none }) (v := ?_) rfl (by kernel_rfl) (by kernel_rfl) (by kernel_rfl) (fun _ _ _ h => h) (Or.inl ⟨by rfl, ?_⟩) hS ?_
  rotate_left 1
  focus (intro w hSw; (try dsimp only at hSw); go_simp; try (with_reducible rfl))
  simp only [Act.put, List.setIfInBounds_toArray, List.set_cons_zero, List.set_cons_succ]
  refine wpAnyH_ready (rs := [9]) (by kernel_rfl) (by simp) ?_
  refine AllReadyH.cons (o := { dst := none, op := _, type := _, pos := _, after := _, guard := none }) rfl (fun K hK => ?_) AllReadyH.nil
  go_simp
  refine hK.out _ _ ((World.cell?_of_block (heap_set_far HNE.out)).trans hS) (fun _ => ?_)
  clear hK K
  try simp only [Act.put, List.setIfInBounds_toArray, List.set_cons_zero, List.set_cons_succ]
  refine wpAnyH_done (by kernel_rfl) ?_ _
  have HZ : Hid (Gd F (Y.drew.setCell ⟨F.g, 42, none⟩ (.int .u16 M.t.r)) { M with t := ⟨M.t.r, M.t.r, true, M.t.g⟩ } tk) := hid (HX.out.drew.put (M' := { M with t := ⟨M.t.r, M.t.r, true, M.t.g⟩ }) (tk' := tk) 42 _ (by omega) rfl ⟨rfl, rfl, rfl, rfl, rfl⟩ { HX.out.fit with main := HX.out.fit.main, tr := H.out.fit.tr, tc := H.out.fit.tr })
  have HTZ : Hid (Gt F W (Y.drew.setCell ⟨F.g, 42, none⟩ (.int .u16 M.t.r))) := hid (Gt.set H.out.nd (Mv.drew HT.out) 42 (.int .u16 M.t.r))
  refine Pl.cutE (fun V => Gd F V { M with t := ⟨M.t.r, M.t.r, true, M.t.g⟩ } tk ∧ Gt F W V ∧ V.cell? ⟨mb, 0, none⟩ = some (pt F.g 0)) ⟨HZ.out, HTZ.out, (World.cell?_of_block (heap_set_far HNE.out)).trans hS⟩ ?_
  rintro V ⟨hV1, hV2, eV⟩
  have HV1 := hid hV1
  have HV2 := hid hV2
  have v44 := hV1.at 44 (.bool M.t.g) rfl
  have vf := hV1.bx.f
  have vg := hV1.bx.z
  clear hV1 hV2 HX HT HZ HTZ d41 d42 gX fX eX hS
  go_wp2
  go_end0
  rw [E0.out]
  exact ⟨rfl, HV1.out.put (tk' := tk) 44 _ (by omega) rfl ⟨rfl, rfl, rfl, rfl, rfl⟩ { HV1.out.fit with main := HV1.out.fit.main }, Gt.set H.out.nd HV2.out _ _⟩
theorem Gm.putP4 (h : Gd F W M tk) (hm : Pu F W mb hb lb gb) (a n : Int) (h1 : 53248 ≤ a) (h2 : a ≤ 57343) (hn : 0 ≤ n ∧ n ≤ 255) (hk : Int.tmod a 32 = 4) : Calls Try.prog 38 #[.int .u16 a, .int .u8 n, pt mb 0, pt hb 0, pt lb 0, pt gb 0] W fun e w' => e = .returned (.tuple #[]) ∧ Gd F w' (M.putM 4 n) tk ∧ Gt F W w' := by
  cases o1 : odd n <;> cases o2 : odd (n / 2)
  · exact Gm.putP400 h hm a n h1 h2 hn hk o1 o2
  · exact Gm.putP401 h hm a n h1 h2 hn hk o1 o2
  · exact Gm.putP410 h hm a n h1 h2 hn hk o1 o2
  · exact Gm.putP411 h hm a n h1 h2 hn hk o1 o2
end
section
variable {F : Gx} {W : World} {M : Mach} {tk : Tk} {mb hb lb gb : Nat}
theorem bare_look (M : Mach) (c : Int) : (if isPort c then 255 else M.lookM c) = M.lookM c := by
  by_cases hp : isPort c = true
  · rw [if_pos hp]
    have hr : 53248 ≤ c ∧ c ≤ 57343 := by unfold isPort at hp; simpa using hp
    unfold Mach.lookM
    rw [if_neg (by omega), if_neg (by omega), if_neg (by omega)]
  · rw [if_neg hp]
set_option maxHeartbeats 3200000 in
theorem Gm.putP14 (h : Gd F W M tk) (hm : Pu F W mb hb lb gb) (a n : Int) (h1 : 53248 ≤ a) (h2 : a ≤ 57343) (hn : 0 ≤ n ∧ n ≤ 255) (hk : Int.tmod a 32 = 14) (htk : 0 ≤ tk.n ∧ tk.n ≤ 1000000000000) : Calls Try.prog 38 #[.int .u16 a, .int .u8 n, pt mb 0, pt hb 0, pt lb 0, pt gb 0] W fun e w' => e = .returned (.tuple #[]) ∧ Gd F w' (M.putM 14 n) (tk.add (2 * n)) ∧ Gt F W w' := by
  obtain ⟨cap, hcap, _, _⟩ := h.viV
  have HC := hid hcap
  obtain ⟨N, rfl⟩ := Int.eq_ofNat_of_zero_le hn.1
  have hN : N ≤ 255 := by omega
  have H := hid h
  have HM := hid hm
  have hfr := h.fit.fr
  have hto := h.fit.to
  have HNV : Hid (mb ≠ F.vi ∧ F.g ≠ F.vi) := hid ⟨fun e => hm.m.2.2 (Or.inr (Or.inr (Or.inr e))), h.nd.d.2.2.1⟩
  clear h hcap hm
  go_enter Try.func38, Try.ntmps38
  go_wp2_with (go_at_call 32; refine (Gm.reg3 a _ h1 h2).mono ?_; rintro e w1 ⟨rfl, rfl⟩)
  go_loopw [8] (fun i wr => ∃ k : Nat, k ≤ N ∧ i = .int .i64 k ∧ Gd F wr (M.xfer k) tk ∧ Gt F W wr) (fun i _ => N - (intOf i).toNat)
  case atStart => exact ⟨0, by omega, rfl, H.out, Gt.refl _ _⟩
  case round =>
    obtain ⟨k, hk2, rfl, hB, hT⟩ := hrel
    have HMB := hid (HM.out.moved hT)
    have eM := HMB.out.m.2.1
    have yM := HMB.out.m.1
    have eG := HMB.out.g.2.1
    have yG := HMB.out.g.1
    by_cases hlt : k < N
    · obtain ⟨r1, r2, _, _, r5, _⟩ := xfer_rest M k
      have HB := hid hB
      have HT := hid hT
      have c65 := hB.at 65 (.int .u16 (M.xfer k).fr) rfl
      have c66 := hB.at 66 (.int .u16 (M.xfer k).to) rfl
      have c34 : wr.cell? ⟨F.g, 34, none⟩ = some (.slice (some ⟨F.vi, 0, none⟩) 256 cap) := (hB.at 34 F.S.vi rfl).trans (by rw [HC.out])
      rw [r1] at c65
      rw [r2] at c66
      have hg := hB.bx.z
      have HV := hid (hB.viAt ((M.to + k) % 65536 % 256) (by omega) (by omega))
      have hlt2 : (k : Int) < N := by omega
      have HBC := hid (Gm.bare_any HB.out.drew ((M.fr + k) % 65536) (by omega))
      rw [bare_look] at HBC
      have hput := hid (HB.out.drew.drew.putVideo ((M.to + k) % 65536 % 256) ((M.xfer k).lookM ((M.fr + k) % 65536)) (by omega) (by omega) (lookM_bd _ _))
      have hmv := hid (Gt.setV HB.out.nd (Mv.drew (Mv.drew HT.out)) ((M.to + k) % 65536 % 256).toNat (.int .u8 ((M.xfer k).lookM ((M.fr + k) % 65536))))
      have hx0 := lookM_bd (M.xfer k) ((M.fr + k) % 65536)
      have hw1 : IntKind.u16.wrap (k : Int) = k := by simp [IntKind.wrap, IntKind.bits, IntKind.signed] <;> omega
      have hw2 : IntKind.u16.wrap (M.fr + k) = (M.fr + k) % 65536 := by simp [IntKind.wrap, IntKind.bits, IntKind.signed] <;> omega
      have hw3 : IntKind.i64.wrap (M.to + k) = M.to + k := by rw [IntKind.wrap_i64]; have := hto.1; have := hto.2; omega
      have hw4 : Int.tmod (M.to + k) 256 = (M.to + k) % 65536 % 256 := by rw [Int.tmod_eq_emod_of_nonneg (by have := hto.1; omega)]; omega
      have hw5 : IntKind.i64.wrap ((M.to + k) % 65536 % 256) = (M.to + k) % 65536 % 256 := by rw [IntKind.wrap_i64]; omega
      have hw6 : IntKind.i64.wrap M.to = M.to := by rw [IntKind.wrap_i64]; have := hto.1; have := hto.2; omega
      generalize hx : (M.xfer k).lookM ((M.fr + k) % 65536) = x at *
      have HXX := hid hx
      have hj0 : 0 ≤ (M.to + k) % 65536 % 256 := by omega
      have hj1 : (M.to + k) % 65536 % 256 < 256 := by omega
      generalize hj : (M.to + k) % 65536 % 256 = j at *
      have HJ := hid hj
      clear hx hB hT hj
      go_wp2
      refine wp_region_held_drew (S := fun w' => w'.cell? ⟨mb, 0, none⟩ = some (pt F.g 0) ∧ w'.cell? ⟨gb, 0, none⟩ = some (pt F.g 0) ∧ w'.cell? ⟨F.g, 65, none⟩ = some (.int .u16 M.fr)) (by kernel_rfl) (⟨eM, eG, c65⟩) ?_
      intro hS
      refine wpAnyH_take (i := 0) (oi := { dst := some 185, op := _, type := _, pos := _, after := _, guard := none }) (v := ?_) rfl (by kernel_rfl) (by kernel_rfl) (by kernel_rfl) (fun _ _ _ h => h) (Or.inl ⟨by rfl, ?_⟩) hS ?_
      rotate_left 1
      focus (intro w hSw; (try dsimp only at hSw); go_simp; try (with_reducible rfl))
      simp only [Act.put, List.setIfInBounds_toArray, List.set_cons_zero, List.set_cons_succ]
      refine wpAnyH_take (i := 1) (oi := { dst := some 186, op := _, type := _, pos := _, after := _, guard := none }) (v := ?_) rfl (by kernel_rfl) (by kernel_rfl) (by kernel_rfl) (fun _ _ _ h => h) (Or.inl ⟨by rfl, ?_⟩) hS ?_
      rotate_left 1
      focus (intro w hSw; (try dsimp only at hSw); go_simp; try (with_reducible rfl))
      simp only [Act.put, List.setIfInBounds_toArray, List.set_cons_zero, List.set_cons_succ]
      refine wpAnyH_take (i := 2) (oi := { dst := some 187, op := _, type := _, pos := _, after := _, guard := none }) (v := ?_) rfl (by kernel_rfl) (by kernel_rfl) (by kernel_rfl) (fun _ _ _ h => h) (Or.inl ⟨by rfl, ?_⟩) hS ?_
      rotate_left 1
      focus (intro w hSw; (try dsimp only at hSw); go_simp; try (with_reducible rfl))
      simp only [Act.put, List.setIfInBounds_toArray, List.set_cons_zero, List.set_cons_succ]
      refine wpAnyH_take (i := 3) (oi := { dst := some 188, op := _, type := _, pos := _, after := _, guard := none }) (v := ?_) rfl (by kernel_rfl) (by kernel_rfl) (by kernel_rfl) (fun _ _ _ h => h) (Or.inl ⟨by rfl, ?_⟩) hS ?_
      rotate_left 1
      focus (intro w hSw; (try dsimp only at hSw); go_simp; try (with_reducible rfl))
      simp only [Act.put, List.setIfInBounds_toArray, List.set_cons_zero, List.set_cons_succ]
      refine wpAnyH_take (i := 4) (oi := { dst := some 189, op := _, type := _, pos := _, after := _, guard := none }) (v := ?_) rfl (by kernel_rfl) (by kernel_rfl) (by kernel_rfl) (fun _ _ _ h => h) (Or.inl ⟨by rfl, ?_⟩) hS ?_
      rotate_left 1
      focus (intro w hSw; (try dsimp only at hSw); go_simp; try (with_reducible rfl))
      simp only [Act.put, List.setIfInBounds_toArray, List.set_cons_zero, List.set_cons_succ]
      refine wpAnyH_take (i := 5) (oi := { dst := some 190, op := _, type := _, pos := _, after := _, guard := none }) (v := ?_) rfl (by kernel_rfl) (by kernel_rfl) (by kernel_rfl) (fun _ _ _ h => h) (Or.inl ⟨by rfl, ?_⟩) hS ?_
      rotate_left 1
      focus (intro w hSw; (try dsimp only at hSw); go_simp; try (with_reducible rfl))
      simp only [Act.put, List.setIfInBounds_toArray, List.set_cons_zero, List.set_cons_succ]
      refine wpAnyH_take (i := 6) (oi := { dst := some 191, op := _, type := _, pos := _, after := _, guard := none }) (v := ?_) rfl (by kernel_rfl) (by kernel_rfl) (by kernel_rfl) (fun _ _ _ h => h) (Or.inl ⟨by rfl, ?_⟩) hS ?_
      rotate_left 1
      focus (intro w hSw; (try dsimp only at hSw); go_simp; try (with_reducible rfl))
      simp only [Act.put, List.setIfInBounds_toArray, List.set_cons_zero, List.set_cons_succ]
      refine wpAnyH_take (i := 7) (oi := { dst := some 192, op := _, type := _, pos := _, after := _, guard := none }) (v := ?_) rfl (by kernel_rfl) (by kernel_rfl) (by kernel_rfl) (fun _ _ _ h => h) (Or.inl ⟨by rfl, ?_⟩) hS ?_
      rotate_left 1
      focus (intro w hSw; (try dsimp only at hSw); go_simp; try (with_reducible rfl))
      simp only [Act.put, List.setIfInBounds_toArray, List.set_cons_zero, List.set_cons_succ]
      refine wpAnyH_ready (rs := [8]) (by kernel_rfl) (by simp) ?_
      refine AllReadyH.cons (o := { dst := some 193, op := _, type := _, pos := _, after := _, guard := none }) rfl (fun K hK => ?_) AllReadyH.nil
      go_simp
      go_at_call 33
      refine HBC.out.mono ?_
      rintro e w2 ⟨rfl, rfl⟩
      try go_wp2_with fail
      refine hK.out _ _ (hS) (fun _ => ?_)
      clear hK K
      try simp only [Act.put, List.setIfInBounds_toArray, List.set_cons_zero, List.set_cons_succ]
      refine wpAnyH_take (i := 9) (oi := { dst := some 9, op := _, type := _, pos := _, after := _, guard := none }) (v := ?_) rfl (by kernel_rfl) (by kernel_rfl) (by kernel_rfl) (fun _ _ _ h => h) (Or.inl ⟨by rfl, ?_⟩) hS ?_
      rotate_left 1
      focus (intro w hSw; (try dsimp only at hSw); go_simp; try (with_reducible rfl))
      simp only [Act.put, List.setIfInBounds_toArray, List.set_cons_zero, List.set_cons_succ]
      refine wpAnyH_done (by kernel_rfl) ?_ _
      go_simp
      have eM2 := eM
      obtain ⟨v1, v2, v3⟩ := HV.out
      go_wp2
      refine wp_region_held_drew (S := fun w' => w'.cell? ⟨mb, 0, none⟩ = some (pt F.g 0) ∧ w'.cell? ⟨F.g, 34, none⟩ = some (.slice (some ⟨F.vi, 0, none⟩) 256 cap) ∧ w'.cell? ⟨F.g, 66, none⟩ = some (.int .u16 M.to)) (by kernel_rfl) (⟨eM2, c34, c66⟩) ?_
      intro hS
      refine wpAnyH_take (i := 0) (oi := { dst := some 194, op := _, type := _, pos := _, after := _, guard := none }) (v := ?_) rfl (by kernel_rfl) (by kernel_rfl) (by kernel_rfl) (fun _ _ _ h => h) (Or.inl ⟨by rfl, ?_⟩) hS ?_
      rotate_left 1
      focus (intro w hSw; (try dsimp only at hSw); go_simp; try (with_reducible rfl))
      simp only [Act.put, List.setIfInBounds_toArray, List.set_cons_zero, List.set_cons_succ]
      refine wpAnyH_take (i := 1) (oi := { dst := some 195, op := _, type := _, pos := _, after := _, guard := none }) (v := ?_) rfl (by kernel_rfl) (by kernel_rfl) (by kernel_rfl) (fun _ _ _ h => h) (Or.inl ⟨by rfl, ?_⟩) hS ?_
      rotate_left 1
      focus (intro w hSw; (try dsimp only at hSw); go_simp; try (with_reducible rfl))
      simp only [Act.put, List.setIfInBounds_toArray, List.set_cons_zero, List.set_cons_succ]
      refine wpAnyH_take (i := 2) (oi := { dst := some 196, op := _, type := _, pos := _, after := _, guard := none }) (v := ?_) rfl (by kernel_rfl) (by kernel_rfl) (by kernel_rfl) (fun _ _ _ h => h) (Or.inl ⟨by rfl, ?_⟩) hS ?_
      rotate_left 1
      focus (intro w hSw; (try dsimp only at hSw); go_simp; try (with_reducible rfl))
      simp only [Act.put, List.setIfInBounds_toArray, List.set_cons_zero, List.set_cons_succ]
      refine wpAnyH_take (i := 3) (oi := { dst := some 197, op := _, type := _, pos := _, after := _, guard := none }) (v := ?_) rfl (by kernel_rfl) (by kernel_rfl) (by kernel_rfl) (fun _ _ _ h => h) (Or.inl ⟨by rfl, ?_⟩) hS ?_
      rotate_left 1
      focus (intro w hSw; (try dsimp only at hSw); go_simp; try (with_reducible rfl))
      simp only [Act.put, List.setIfInBounds_toArray, List.set_cons_zero, List.set_cons_succ]
      refine wpAnyH_take (i := 4) (oi := { dst := some 198, op := _, type := _, pos := _, after := _, guard := none }) (v := ?_) rfl (by kernel_rfl) (by kernel_rfl) (by kernel_rfl) (fun _ _ _ h => h) (Or.inl ⟨by rfl, ?_⟩) hS ?_
      rotate_left 1
      focus (intro w hSw; (try dsimp only at hSw); go_simp; try (with_reducible rfl))
      simp only [Act.put, List.setIfInBounds_toArray, List.set_cons_zero, List.set_cons_succ]
      refine wpAnyH_take (i := 5) (oi := { dst := some 199, op := _, type := _, pos := _, after := _, guard := none }) (v := ?_) rfl (by kernel_rfl) (by kernel_rfl) (by kernel_rfl) (fun _ _ _ h => h) (Or.inl ⟨by rfl, ?_⟩) hS ?_
      rotate_left 1
      focus (intro w hSw; (try dsimp only at hSw); go_simp; try (with_reducible rfl))
      simp only [Act.put, List.setIfInBounds_toArray, List.set_cons_zero, List.set_cons_succ]
      refine wpAnyH_take (i := 6) (oi := { dst := some 200, op := _, type := _, pos := _, after := _, guard := none }) (v := ?_) rfl (by kernel_rfl) (by kernel_rfl) (by kernel_rfl) (fun _ _ _ h => h) (Or.inl ⟨by rfl, ?_⟩) hS ?_
      rotate_left 1
      focus (intro w hSw; (try dsimp only at hSw); go_simp; try (with_reducible rfl))
      simp only [Act.put, List.setIfInBounds_toArray, List.set_cons_zero, List.set_cons_succ]
      refine wpAnyH_take (i := 7) (oi := { dst := some 201, op := _, type := _, pos := _, after := _, guard := none }) (v := ?_) rfl (by kernel_rfl) (by kernel_rfl) (by kernel_rfl) (fun _ _ _ h => h) (Or.inl ⟨by rfl, ?_⟩) hS ?_
      rotate_left 1
      focus (intro w hSw; (try dsimp only at hSw); go_simp; try (with_reducible rfl))
      simp only [Act.put, List.setIfInBounds_toArray, List.set_cons_zero, List.set_cons_succ]
      refine wpAnyH_take (i := 8) (oi := { dst := some 202, op := _, type := _, pos := _, after := _, guard := none }) (v := ?_) rfl (by kernel_rfl) (by kernel_rfl) (by kernel_rfl) (fun _ _ _ h => h) (Or.inl ⟨by rfl, ?_⟩) hS ?_
      rotate_left 1
      focus (intro w hSw; (try dsimp only at hSw); go_simp; try (with_reducible rfl))
      simp only [Act.put, List.setIfInBounds_toArray, List.set_cons_zero, List.set_cons_succ]
      refine wpAnyH_take (i := 9) (oi := { dst := some 203, op := _, type := _, pos := _, after := _, guard := none }) (v := ?_) rfl (by kernel_rfl) (by kernel_rfl) (by kernel_rfl) (fun _ _ _ h => h) (Or.inl ⟨by rfl, ?_⟩) hS ?_
      rotate_left 1
      focus (intro w hSw; (try dsimp only at hSw); go_simp; try (with_reducible rfl))
      simp only [Act.put, List.setIfInBounds_toArray, List.set_cons_zero, List.set_cons_succ]
      refine wpAnyH_take (i := 10) (oi := { dst := some 204, op := _, type := _, pos := _, after := _, guard := none }) (v := ?_) rfl (by kernel_rfl) (by kernel_rfl) (by kernel_rfl) (fun _ _ _ h => h) (Or.inl ⟨by rfl, ?_⟩) hS ?_
      rotate_left 1
      focus (intro w hSw; (try dsimp only at hSw); go_simp; try (with_reducible rfl))
      simp only [Act.put, List.setIfInBounds_toArray, List.set_cons_zero, List.set_cons_succ]
      refine wpAnyH_take (i := 11) (oi := { dst := some 205, op := _, type := _, pos := _, after := _, guard := none }) (v := ?_) rfl (by kernel_rfl) (by kernel_rfl) (by kernel_rfl) (fun _ _ _ h => h) (Or.inl ⟨by rfl, ?_⟩) hS ?_
      rotate_left 1
      focus (intro w hSw; (try dsimp only at hSw); go_simp; try (with_reducible rfl))
      simp only [Act.put, List.setIfInBounds_toArray, List.set_cons_zero, List.set_cons_succ]
      refine wpAnyH_take (i := 12) (oi := { dst := some 206, op := _, type := _, pos := _, after := _, guard := none }) (v := ?_) rfl (by kernel_rfl) (by kernel_rfl) (by kernel_rfl) (fun _ _ _ h => h) (Or.inl ⟨by rfl, ?_⟩) hS ?_
      rotate_left 1
      focus (intro w hSw; (try dsimp only at hSw); go_simp; try (with_reducible rfl))
      simp only [Act.put, List.setIfInBounds_toArray, List.set_cons_zero, List.set_cons_succ]
      refine wpAnyH_ready (rs := [13]) (by kernel_rfl) (by simp) ?_
      refine AllReadyH.cons (o := { dst := some 207, op := _, type := _, pos := _, after := _, guard := none }) rfl (fun K hK => ?_) AllReadyH.nil
      go_simp
      refine hK.out _ _ (hS) (fun _ => ?_)
      clear hK K
      try simp only [Act.put, List.setIfInBounds_toArray, List.set_cons_zero, List.set_cons_succ]
      refine wpAnyH_ready (rs := [14]) (by kernel_rfl) (by simp) ?_
      refine AllReadyH.cons (o := { dst := none, op := _, type := _, pos := _, after := _, guard := none }) rfl (fun K hK => ?_) AllReadyH.nil
      go_simp
      refine hK.out _ _ (⟨(World.cell?_of_block (heap_set_far HNV.out.1)).trans hS.1, (World.cell?_of_block (heap_set_far HNV.out.2)).trans hS.2.1, (World.cell?_of_block (heap_set_far HNV.out.2)).trans hS.2.2⟩) (fun _ => ?_)
      clear hK K
      try simp only [Act.put, List.setIfInBounds_toArray, List.set_cons_zero, List.set_cons_succ]
      refine wpAnyH_done (by kernel_rfl) ?_ _
      try go_simp
      go_wp2
      go_roundw
      case rel =>
        refine ⟨k + 1, by omega, by go_num, ?_, hmv.out⟩
        have hp := hput.out
        rw [← HXX.out, ← HJ.out] at hp
        rw [← HXX.out, ← HJ.out]
        exact hp
      case measure => simp [intOf]; omega
    · obtain rfl : k = N := by omega
      have c1 := hB.at 76 (.int .i64 tk.n) rfl
      have f1 := hB.bx.f 76
      have hg := hB.bx.z
      have HB := hid hB
      have HT := hid hT
      have e0 : M.putM 14 (k : Int) = M.xfer k := by show M.xfer (k : Int).toNat = _; rw [Int.toNat_natCast]
      have E0 := hid e0
      clear hB hT e0
      go_wp2
      go_end0
      rw [E0.out]
      exact ⟨rfl, HB.out.put 76 _ (by omega) rfl ⟨rfl, rfl, rfl, rfl, rfl⟩ HB.out.fit, Gt.set HB.out.nd HT.out 76 _⟩
end
section
variable {F : Gx} {W : World} {M M' : Mach} {tk : Tk} {mb hb lb gb : Nat}
theorem gendM {e : Ending} {w' : World} {t : Int} (h : e = .returned (.tuple #[]) ∧ Gd F w' M' tk ∧ Gt F W w') (ht : t = 0) : e = .returned (.tuple #[]) ∧ Gd F w' M' (tk.add t) ∧ Gt F W w' := by rw [ht, Tk.add_zero]; exact h
theorem Gm.putM (h : Gd F W M tk) (hm : Pu F W mb hb lb gb) (a n : Int) (ha : 0 ≤ a ∧ a ≤ 65535) (hn : 0 ≤ n ∧ n ≤ 255) (htk : 0 ≤ tk.n ∧ tk.n ≤ 1000000000000) :
    Calls Try.prog 38 #[.int .u16 a, .int .u8 n, pt mb 0, pt hb 0, pt lb 0, pt gb 0] W fun e w' => e = .returned (.tuple #[]) ∧ Gd F w' (M.wrM a n) (tk.add (tookM a n)) ∧ Gt F W w' := by
  unfold Mach.wrM tookM
  by_cases hp : isPort a = true
  · rw [if_pos hp, if_pos hp]
    have hr : 53248 ≤ a ∧ a ≤ 57343 := by unfold isPort at hp; simpa using hp
    have ht : Int.tmod a 32 = a % 32 := Int.tmod_eq_emod_of_nonneg (by omega)
    have hb32 : portNo a < 32 := by unfold portNo; omega
    have hk : Int.tmod a 32 = ((portNo a : Nat) : Int) := by rw [ht]; unfold portNo; omega
    generalize portNo a = k at *
    by_cases e14 : k = 14
    · subst e14; exact Gm.putP14 h hm a n hr.1 hr.2 hn hk htk
    have h0 : takes k n = 0 := by unfold takes; rw [if_neg e14]
    by_cases e0 : k = 0
    · subst e0; exact (Gm.putP0 h hm a n hr.1 hr.2 hn hk).mono (fun _ _ hx => gendM hx h0)
    by_cases e2 : k = 2
    · subst e2; exact (Gm.putP2 h hm a n hr.1 hr.2 hn hk).mono (fun _ _ hx => gendM hx h0)
    by_cases e3 : k = 3
    · subst e3; exact (Gm.putP3 h hm a n hr.1 hr.2 hn hk).mono (fun _ _ hx => gendM hx h0)
    by_cases e4 : k = 4
    · subst e4; exact (Gm.putP4 h hm a n hr.1 hr.2 hn hk).mono (fun _ _ hx => gendM hx h0)
    by_cases e8 : k = 8
    · subst e8; exact (Gm.putP8 h hm a n hr.1 hr.2 hn hk).mono (fun _ _ hx => gendM hx h0)
    by_cases e10 : k = 10
    · subst e10; exact (Gm.putP10 h hm a n hr.1 hr.2 hn hk).mono (fun _ _ hx => gendM hx h0)
    by_cases e11 : k = 11
    · subst e11; exact (Gm.putP11 h hm a n hr.1 hr.2 hn hk).mono (fun _ _ hx => gendM hx h0)
    by_cases e12 : k = 12
    · subst e12; exact (Gm.putP12 h hm a n hr.1 hr.2 hn hk).mono (fun _ _ hx => gendM hx h0)
    by_cases e13 : k = 13
    · subst e13; exact (Gm.putP13 h hm a n hr.1 hr.2 hn hk).mono (fun _ _ hx => gendM hx h0)
    by_cases e16 : k = 16
    · subst e16; exact (Gm.putP16 h hm a n hr.1 hr.2 hn hk).mono (fun _ _ hx => gendM hx h0)
    by_cases e17 : k = 17
    · subst e17; exact (Gm.putP17 h hm a n hr.1 hr.2 hn hk).mono (fun _ _ hx => gendM hx h0)
    have hd : M.putM k n = M := by
      unfold Mach.putM
      split <;> first | rfl | (exfalso; omega)
    rw [hd]
    exact (Gm.putPd h hm a n hr.1 hr.2 hn k hk (by omega) (by omega) (by simp; omega) (by simp; omega) (by simp; omega) (by simp; omega) (by simp; omega) (by simp; omega) (by simp; omega) (by simp; omega) (by simp; omega) (by simp; omega) (by simp; omega) (by simp; omega)).mono (fun _ _ hx => gendM hx h0)
  · rw [if_neg hp, if_neg hp]
    have hr : ¬ (53248 ≤ a ∧ a ≤ 57343) := by unfold isPort at hp; simpa using hp
    unfold Mach.memM
    by_cases h1 : a < 32768
    · rw [if_pos h1]
      exact (Gm.putN0 h a n ha.1 h1).mono (fun _ _ hx => gendM hx rfl)
    rw [if_neg h1]
    by_cases h2 : a < 49152
    · rw [if_pos h2]
      exact (Gm.putN1 h hm.m a n (by omega) h2 hn).mono (fun _ _ hx => gendM hx rfl)
    rw [if_neg h2]
    by_cases h3 : a < 53248
    · rw [if_pos h3]
      exact (Gm.putN2 h hm.m a n (by omega) h3 hn).mono (fun _ _ hx => gendM hx rfl)
    rw [if_neg h3]
    exact (Gm.putN4 h a n (by omega) ha.2).mono (fun _ _ hx => gendM hx rfl)
end
def GEndA (F : Gx) (W w' : World) (M : Mach) (tk : Tk) (l : List Wt) : Prop := (∃ v, Gd F w' M (tk.app l v)) ∧ Gw F W w' ∧ (tk.v.ownBlock = none → ∀ k, k < W.heap.size → ¬ F.T k → w'.heap[k]? = W.heap[k]?)
section
variable {F : Gx} {W : World} {M M' : Mach} {tk : Tk} {gb mb : Nat}
theorem gendB {w1 : World} {l : List Wt} (h : Gd F w1 M tk) (hl : l = []) (ht : Gt F W w1) : GEndA F W w1 M tk l := ⟨(gendA h hl ht).1, ht.w, fun _ k hk hT => ht.block k hk hT⟩
theorem Gm.auxN0 (h : Gd F W M tk) (a n : Int) (h1 : 0 ≤ a) (h2 : a < 32768) : Calls Try.prog 42 #[.int .u16 a, .int .u8 n, pt mb 0, pt gb 0] W fun e w' => e = .returned (.tuple #[]) ∧ GEndA F W w' M tk [] := by
  have H := hid h
  clear h
  go_enter Try.func42, Try.ntmps42
  go_wp2_with (go_at_call 32; refine (Gm.reg0 a _ h1 h2).mono ?_; rintro e w1 ⟨rfl, rfl⟩)
  go_end0
  exact ⟨rfl, gendB H.out rfl (Gt.refl _ _)⟩
theorem Gm.auxN4 (h : Gd F W M tk) (a n : Int) (h1 : 57344 ≤ a) (h2 : a ≤ 65535) : Calls Try.prog 42 #[.int .u16 a, .int .u8 n, pt mb 0, pt gb 0] W fun e w' => e = .returned (.tuple #[]) ∧ GEndA F W w' M tk [] := by
  have H := hid h
  clear h
  go_enter Try.func42, Try.ntmps42
  go_wp2_with (go_at_call 32; refine (Gm.reg4 a _ h1 h2).mono ?_; rintro e w1 ⟨rfl, rfl⟩)
  go_end0
  exact ⟨rfl, gendB H.out rfl (Gt.refl _ _)⟩
theorem Gm.auxN1 (h : Gd F W M tk) (hm : Pb F W mb) (a n : Int) (h1 : 32768 ≤ a) (h2 : a < 49152) (hn : 0 ≤ n ∧ n ≤ 255) : Calls Try.prog 42 #[.int .u16 a, .int .u8 n, pt mb 0, pt gb 0] W fun e w' => e = .returned (.tuple #[]) ∧ GEndA F W w' { M with own := bput M.own ((a - 32768) % 64) n } tk [] := by
  obtain ⟨y1, e1, _⟩ := hm
  obtain ⟨cap, e, _, _⟩ := h.ownV
  have c33 : W.cell? ⟨F.g, 33, none⟩ = some (.slice (some ⟨F.ow, 0, none⟩) 64 cap) := (h.at 33 F.S.ow rfl).trans (by rw [e])
  obtain ⟨ec, ez, ef⟩ := h.ownAt ((a - 32768) % 64) (by omega) (by omega)
  have hmd : Int.tmod (a - 32768) 64 = (a - 32768) % 64 := Int.tmod_eq_emod_of_nonneg (by omega)
  have hg := h.bx.z
  have H := hid h
  clear h e
  go_enter Try.func42, Try.ntmps42
  go_wp2_with (go_at_call 32; refine (Gm.reg1 a _ h1 h2).mono ?_; rintro e w1 ⟨rfl, rfl⟩)
  go_end0
  exact ⟨rfl, gendB (H.out.putOwn _ n (by omega) (by omega) hn) rfl ((Gt.refl _ _).setO H.out.nd _ _)⟩
theorem Gm.auxN2 (h : Gd F W M tk) (hm : Pb F W mb) (a n : Int) (h1 : 49152 ≤ a) (h2 : a < 53248) (hn : 0 ≤ n ∧ n ≤ 255) (hgr : M.granted = true) : Calls Try.prog 42 #[.int .u16 a, .int .u8 n, pt mb 0, pt gb 0] W fun e w' => e = .returned (.tuple #[]) ∧ GEndA F W w' { M with ram := bput M.ram ((a - 49152) % 128) n } tk [] := by
  obtain ⟨y1, e1, _⟩ := hm
  obtain ⟨cap, e, _, _⟩ := h.ramV
  have c32 : W.cell? ⟨F.g, 32, none⟩ = some (.slice (some ⟨F.ra, 0, none⟩) 128 cap) := (h.at 32 F.S.ra rfl).trans (by rw [e])
  obtain ⟨ec, ez, ef⟩ := h.ramAt ((a - 49152) % 128) (by omega) (by omega)
  have hmd : Int.tmod a 128 = (a - 49152) % 128 := by rw [Int.tmod_eq_emod_of_nonneg (by omega)]; omega
  have c67 := h.at 67 (.bool M.granted) rfl
  rw [hgr] at c67
  have hg := h.bx.z
  have H := hid h
  clear h e hgr
  go_enter Try.func42, Try.ntmps42
  go_wp2_with (go_at_call 32; refine (Gm.reg2 a _ h1 h2).mono ?_; rintro e w1 ⟨rfl, rfl⟩)
  go_end0
  exact ⟨rfl, gendB (H.out.putRam _ n (by omega) (by omega) hn) rfl ((Gt.refl _ _).setR H.out.nd _ _)⟩
theorem Gm.auxN3 (h : Gd F W M tk) (hm : Pb F W mb) (a n : Int) (h1 : 49152 ≤ a) (h2 : a < 53248) (hgr : M.granted = false) : Calls Try.prog 42 #[.int .u16 a, .int .u8 n, pt mb 0, pt gb 0] W fun e w' => e = .returned (.tuple #[]) ∧ GEndA F W w' M tk [] := by
  obtain ⟨y1, e1, _⟩ := hm
  have c67 := h.at 67 (.bool M.granted) rfl
  rw [hgr] at c67
  have hg := h.bx.z
  have H := hid h
  clear h hgr
  go_enter Try.func42, Try.ntmps42
  go_wp2_with (go_at_call 32; refine (Gm.reg2 a _ h1 h2).mono ?_; rintro e w1 ⟨rfl, rfl⟩)
  go_end0
  exact ⟨rfl, gendB H.out rfl (Gt.refl _ _)⟩
theorem Gm.auxP24 (h : Gd F W M tk) (hm : Pb F W mb) (a n : Int) (h1 : 53248 ≤ a) (h2 : a ≤ 57343) (hn : 0 ≤ n ∧ n ≤ 255) (hk : Int.tmod a 32 = 24) : Calls Try.prog 42 #[.int .u16 a, .int .u8 n, pt mb 0, pt gb 0] W fun e w' => e = .returned (.tuple #[]) ∧ GEndA F W w' { M with m1 := n } tk [] := by
  obtain ⟨y1, e1, _⟩ := hm
  have c1 := h.at 70 (.int .u8 M.m1) rfl
  have f1 := h.bx.f 70
  have hg := h.bx.z
  have H := hid h
  clear h
  go_enter Try.func42, Try.ntmps42
  go_wp2_with (go_at_call 32; refine (Gm.reg3 a _ h1 h2).mono ?_; rintro e w1 ⟨rfl, rfl⟩)
  go_end0
  exact ⟨rfl, gendB (H.out.put (M' := { M with m1 := n }) (tk' := tk) 70 _ (by omega) rfl ⟨rfl, rfl, rfl, rfl, rfl⟩ (Mach.fit.of H.out.fit ⟨H.out.fit.main, H.out.fit.aux, H.out.fit.p0, H.out.fit.p1, H.out.fit.tr, H.out.fit.tc, H.out.fit.s, H.out.fit.fr, H.out.fit.to, H.out.fit.m0, hn⟩ ⟨rfl, rfl, rfl, rfl, rfl⟩ rfl ⟨rfl, rfl, rfl⟩ ⟨rfl, rfl⟩ (Or.inl rfl))) rfl (Gt.set H.out.nd (Gt.refl _ _) _ _)⟩
theorem Gm.auxPd (h : Gd F W M tk) (a n : Int) (h1 : 53248 ≤ a) (h2 : a ≤ 57343) (k : Int) (hk : Int.tmod a 32 = k) (k0 : 24 ≤ k) (k1 : k ≤ 31) (n24 : (k == 24) = false) : Calls Try.prog 42 #[.int .u16 a, .int .u8 n, pt mb 0, pt gb 0] W fun e w' => e = .returned (.tuple #[]) ∧ GEndA F W w' M tk [] := by
  have H := hid h
  clear h
  go_enter Try.func42, Try.ntmps42
  go_wp2_with (go_at_call 32; refine (Gm.reg3 a _ h1 h2).mono ?_; rintro e w1 ⟨rfl, rfl⟩)
  go_end0
  exact ⟨rfl, gendB H.out rfl (Gt.refl _ _)⟩
theorem Gx.putSnd (F : Gx) (M : Mach) (tk : Tk) (s : Sd) : putL (F.cells M tk) 45 (sndL s) = F.cells { M with s := s } tk := by
  have e : ∀ M : Mach, F.cells M tk = (cpuL M.main ++ (cpuL M.aux ++ (slL F.S ++ rest1 M))) ++ (sndL M.s ++ (rest2 M ++ [tk.v, .int .i64 tk.n])) := by
    intro M
    unfold Gx.cells machL
    rw [restL_eq]
    simp only [List.append_assoc]
  rw [e M, e]
  exact putL_mid _ (sndL s) (sndL M.s) (cpuL M.main ++ (cpuL M.aux ++ (slL F.S ++ rest1 M))) rfl
theorem Gd.sndR (h : Gd F W M tk) : W.rangeAt F.g 45 (sndL M.s) := fun i v hi => by
  have hl := (List.getElem?_eq_some_iff.1 hi).1
  have hc : i = 0 ∨ i = 1 ∨ i = 2 ∨ i = 3 ∨ i = 4 ∨ i = 5 ∨ i = 6 ∨ i = 7 ∨ i = 8 ∨ i = 9 ∨ i = 10 ∨ i = 11 ∨ i = 12 ∨ i = 13 ∨ i = 14 ∨ i = 15 := by simp [sndL] at hl; omega
  refine h.at (45 + i) v ?_
  rcases hc with rfl | rfl | rfl | rfl | rfl | rfl | rfl | rfl | rfl | rfl | rfl | rfl | rfl | rfl | rfl | rfl <;> exact hi
theorem gputW (F : Gx) (M : Mach) (tk : Tk) (l : List Wt) (v : Value) : (F.cells M tk).set 75 v = F.cells M (tk.app l v) := rfl
theorem Gd.apart_new (h : Gd F W M tk) : F.apart M (fun j => j = W.heap.size) := ⟨fun hp k hk e => by have := h.mr.lt hp k hk; omega, fun hp k hk e => by have := h.ar.lt hp k hk; omega⟩
theorem Gd.wrote (h : Gd F W M tk) {w3 : World} {x : Wt} {gg cap : Nat} (hg : W.grownBy w3 tk.v.ownBlock) (hown : w3.ownsRow F.B 105 3 (.slice (some ⟨gg, 0, none⟩) (tk.l.length + 1) cap) (tk.l.length + 1) (wcs tk.l ++ [.int .i64 x.c, .int .i64 x.a, .int .u8 x.v])) (hat : tk.v.ownBlock = some gg ∨ gg = W.heap.size) :
    Gd F (w3.setCell ⟨F.g, 75, none⟩ (.slice (some ⟨gg, 0, none⟩) (tk.l.length + 1) cap)) M (tk.app [x] (.slice (some ⟨gg, 0, none⟩) (tk.l.length + 1) cap)) ∧ Gw F W (w3.setCell ⟨F.g, 75, none⟩ (.slice (some ⟨gg, 0, none⟩) (tk.l.length + 1) cap)) := by
  have hoff : ¬ F.T gg ∧ F.apart M (fun j => j = gg) := by
    rcases hat with e | e
    · exact h.wd gg e
    · rw [e]; exact ⟨h.fresh (Nat.le_refl _), h.apart_new⟩
  have hne : ∀ j, j < W.heap.size → F.T j → w3.heap[j]? = W.heap[j]? := fun j hj ht => hg.block j hj (fun e => (h.wd j e.symm).1 ht)
  have hz : W.heap.size ≤ w3.heap.size := hg.size
  have hz2 : W.heap.size ≤ (w3.setCell ⟨F.g, 75, none⟩ (.slice (some ⟨gg, 0, none⟩) (tk.l.length + 1) cap)).heap.size := by rw [size_set]; exact hz
  obtain ⟨d1, d2, d3, _⟩ := h.nd.d
  refine ⟨⟨gputW F M tk [x] _ ▸ (h.bx.same hz (hne _ h.bx.z (Or.inl rfl))).set 75 _ (by rw [F.len]; omega), ?_, ?_, ?_, ?_, ?_, h.nd, h.fit, Nat.le_trans h.big hz2, ?_, h.rd, ?_⟩, (Gw.grown h hg).trans (Gt.w (Gt.set h.nd (Gt.refl F w3) 75 _))⟩
  · exact (h.mr.same hz (fun hp j e hj => hg.block j hj (fun e2 => (h.wd j e2.symm).2.1 hp j e rfl))).same (by rw [size_set]; exact Nat.le_refl _) (fun hp j e _ => heap_set_far (fun e2 => h.rd.1 hp j e (Or.inl e2)))
  · exact (h.ar.same hz (fun hp j e hj => hg.block j hj (fun e2 => (h.wd j e2.symm).2.2 hp j e rfl))).same (by rw [size_set]; exact Nat.le_refl _) (fun hp j e _ => heap_set_far (fun e2 => h.rd.2 hp j e (Or.inl e2)))
  · exact (h.ra.same hz (fun hk => hne _ hk (Or.inr (Or.inl rfl)))).same (by rw [size_set]; exact Nat.le_refl _) (fun _ => heap_set_far (Ne.symm d1))
  · exact (h.ow.same hz (fun hk => hne _ hk (Or.inr (Or.inr (Or.inl rfl))))).same (by rw [size_set]; exact Nat.le_refl _) (fun _ => heap_set_far (Ne.symm d2))
  · exact (h.vi.same hz (fun hk => hne _ hk (Or.inr (Or.inr (Or.inr rfl))))).same (by rw [size_set]; exact Nat.le_refl _) (fun _ => heap_set_far (Ne.symm d3))
  · refine ows_of (w := w3) ?_ (fun j e => heap_set_far (fun e2 => ?_))
    · show w3.ownsRow F.B 105 3 _ (tk.l ++ [x]).length (wcs (tk.l ++ [x]))
      rw [List.length_append, wcs_app]
      exact hown
    · have ej : gg = j := by cases e; rfl
      exact hoff.1 (by rw [ej, e2]; exact Or.inl rfl)
  · intro j e
    have ej : gg = j := by cases e; rfl
    rw [← ej]; exact hoff
theorem gws_form (h : Gd F W M tk) : ∃ ua uc, tk.v = .slice ua tk.l.length uc := by
  rcases h.ws.2 with ⟨e, e2⟩ | ⟨g, cap, cur, e, _⟩
  · exact ⟨none, 0, by rw [e, e2]⟩
  · exact ⟨_, _, e⟩
set_option maxHeartbeats 3200000 in
theorem Gm.auxPs (h : Gd F W M tk) (hm : Pb F W mb) (hgb : Pb F W gb) (hwm : tk.v.ownBlock ≠ some mb) (hwg : tk.v.ownBlock ≠ some gb) (a n : Int) (h1 : 53248 ≤ a) (h2 : a ≤ 57343) (hn : 0 ≤ n ∧ n ≤ 255) (k : Nat) (hk : Int.tmod a 32 = k) (hk24 : k < 24) (hl : tk.l.length ≤ 1000000000) : Calls Try.prog 42 #[.int .u16 a, .int .u8 n, pt mb 0, pt gb 0] W fun e w' => e = .returned (.tuple #[]) ∧ GEndA F W w' { M with s := M.s.put k n } tk [⟨M.clock, k, n⟩] := by
  have HPB := hid (And.intro hm hgb)
  have HNE : Hid (mb ≠ F.g ∧ gb ≠ F.g) := hid ⟨hm.ne, hgb.ne⟩
  have HWB : Hid ((∀ e : tk.v.ownBlock = some mb, False) ∧ (∀ e : tk.v.ownBlock = some gb, False)) := hid ⟨fun e => hwm e, fun e => hwg e⟩
  obtain ⟨y1, e1, _⟩ := hm
  have hg := h.bx.z
  have hs := h.fit.s
  have hk2 : (k : Int) < 24 := by omega
  have H := hid h
  clear h hgb hwm hwg
  go_enter Try.func42, Try.ntmps42
  go_upto_region 9 with (go_at_call 32; refine (Gm.reg3 a _ h1 h2).mono ?_; rintro e w1 ⟨rfl, rfl⟩)
  go_cut [] (fun Y => Gd F Y { M with s := M.s.put k n } tk ∧ Gt F W Y)
  case first =>
    refine wp_region_held_drew (S := fun w' => w'.cell? ⟨mb, 0, none⟩ = some (pt F.g 0)) (by kernel_rfl) (e1) ?_
    intro hS
    refine wpAnyH_take (i := 0) (oi := { dst := some 43, op := _, type := _, pos := _, after := _, guard := none }) (v := ?_) rfl (by kernel_rfl) (by kernel_rfl) (by kernel_rfl) (fun _ _ _ h => h) (Or.inl ⟨by rfl, ?_⟩) hS ?_
    rotate_left 1
    focus (intro w hSw; (try dsimp only at hSw); go_simp; try (with_reducible rfl))
    simp only [Act.put, List.setIfInBounds_toArray, List.set_cons_zero, List.set_cons_succ]
    refine wpAnyH_take (i := 1) (oi := { dst := some 44, op := _, type := _, pos := _, after := _, guard := none }) (v := ?_) rfl (by kernel_rfl) (by kernel_rfl) (by kernel_rfl) (fun _ _ _ h => h) (Or.inl ⟨by rfl, ?_⟩) hS ?_
    rotate_left 1
    focus (intro w hSw; (try dsimp only at hSw); go_simp; try (with_reducible rfl))
    simp only [Act.put, List.setIfInBounds_toArray, List.set_cons_zero, List.set_cons_succ]
    refine wpAnyH_take (i := 2) (oi := { dst := some 45, op := _, type := _, pos := _, after := _, guard := none }) (v := ?_) rfl (by kernel_rfl) (by kernel_rfl) (by kernel_rfl) (fun _ _ _ h => h) (Or.inl ⟨by rfl, ?_⟩) hS ?_
    rotate_left 1
    focus (intro w hSw; (try dsimp only at hSw); go_simp; try (with_reducible rfl))
    simp only [Act.put, List.setIfInBounds_toArray, List.set_cons_zero, List.set_cons_succ]
    refine wpAnyH_take (i := 3) (oi := { dst := some 46, op := _, type := _, pos := _, after := _, guard := none }) (v := ?_) rfl (by kernel_rfl) (by kernel_rfl) (by kernel_rfl) (fun _ _ _ h => h) (Or.inl ⟨by rfl, ?_⟩) hS ?_
    rotate_left 1
    focus (intro w hSw; (try dsimp only at hSw); go_simp; try (with_reducible rfl))
    simp only [Act.put, List.setIfInBounds_toArray, List.set_cons_zero, List.set_cons_succ]
    refine wpAnyH_take (i := 5) (oi := { dst := some 48, op := _, type := _, pos := _, after := _, guard := none }) (v := ?_) rfl (by kernel_rfl) (by kernel_rfl) (by kernel_rfl) (fun _ _ _ h => h) (Or.inl ⟨by rfl, ?_⟩) hS ?_
    rotate_left 1
    focus (intro w hSw; (try dsimp only at hSw); go_simp; try (with_reducible rfl))
    simp only [Act.put, List.setIfInBounds_toArray, List.set_cons_zero, List.set_cons_succ]
    refine wpAnyH_take (i := 6) (oi := { dst := some 49, op := _, type := _, pos := _, after := _, guard := none }) (v := ?_) rfl (by kernel_rfl) (by kernel_rfl) (by kernel_rfl) (fun _ _ _ h => h) (Or.inl ⟨by rfl, ?_⟩) hS ?_
    rotate_left 1
    focus (intro w hSw; (try dsimp only at hSw); go_simp; try (with_reducible rfl))
    simp only [Act.put, List.setIfInBounds_toArray, List.set_cons_zero, List.set_cons_succ]
    refine wpAnyH_ready (rs := [4]) (by kernel_rfl) (by simp) ?_
    refine AllReadyH.cons (o := { dst := some 47, op := _, type := _, pos := _, after := _, guard := none }) rfl (fun K hK => ?_) AllReadyH.nil
    refine step_load_mid rfl 36 _ rfl F.g 45 rfl (sndL M.s) _ H.out.drew.sndR Try.underlying36 rfl info_sound ?_
    refine hK.out _ _ hS (fun _ => ?_)
    clear hK K
    simp only [Act.put, List.setIfInBounds_toArray, List.set_cons_zero, List.set_cons_succ]
    refine wpAnyH_ready (rs := [7]) (by kernel_rfl) (by simp) ?_
    refine AllReadyH.cons (o := { dst := some 50, op := _, type := _, pos := _, after := _, guard := none }) rfl (fun K hK => ?_) AllReadyH.nil
    unfold sndL
    go_simp
    go_at_call 43
    refine (rput_any M.s k n _ hk24 hs hn).mono ?_
    rintro e w2 ⟨rfl, hb2⟩
    try go_wp2_with fail
    have HB2 := hid (H.out.drew.kept hb2)
    have HL2 := hid (stp (st0 W).drew hb2)
    have hS2 : w2.cell? ⟨mb, 0, none⟩ = some (pt F.g 0) := (hb2.cell (p := ⟨mb, 0, none⟩) y1).trans hS
    refine hK.out _ _ hS2 (fun _ => ?_)
    clear hK K hS
    try simp only [Act.put, List.setIfInBounds_toArray, List.set_cons_zero, List.set_cons_succ]
    refine wpAnyH_take (i := 8) (oi := { dst := some 51, op := _, type := _, pos := _, after := _, guard := none }) (v := ?_) rfl (by kernel_rfl) (by kernel_rfl) (by kernel_rfl) (fun _ _ _ h => h) (Or.inl ⟨by rfl, ?_⟩) hS2 ?_
    rotate_left 1
    focus (intro w hSw; (try dsimp only at hSw); go_simp; try (with_reducible rfl))
    simp only [Act.put, List.setIfInBounds_toArray, List.set_cons_zero, List.set_cons_succ]
    refine wpAnyH_take (i := 9) (oi := { dst := some 52, op := _, type := _, pos := _, after := _, guard := none }) (v := ?_) rfl (by kernel_rfl) (by kernel_rfl) (by kernel_rfl) (fun _ _ _ h => h) (Or.inl ⟨by rfl, ?_⟩) hS2 ?_
    rotate_left 1
    focus (intro w hSw; (try dsimp only at hSw); go_simp; try (with_reducible rfl))
    simp only [Act.put, List.setIfInBounds_toArray, List.set_cons_zero, List.set_cons_succ]
    refine wpAnyH_ready (rs := [10]) (by kernel_rfl) (by simp) ?_
    refine AllReadyH.cons (o := { dst := none, op := _, type := _, pos := _, after := _, guard := none }) rfl (fun K hK => ?_) AllReadyH.nil
    refine step_store_mid rfl 36 _ _ rfl F.g 45 (sndL (M.s.put k n)).toArray rfl rfl (Bx.there HB2.out.bx 45 16 (by rw [Gx.len]; omega)) info_sound (all16 (M.s.put k n)) ?_
    refine hK.out _ _ ((World.cell?_of_block (heap_sets_far HNE.out.1 _ _ _)).trans hS2) (fun _ => ?_)
    clear hK K
    refine wpAnyH_done (by kernel_rfl) ?_ _
    have hf : Mach.fit { M with s := M.s.put k n } := Mach.fit.of H.out.fit { H.out.fit with main := H.out.fit.main, s := Sd.put_ok H.out.fit.s k n hn } ⟨rfl, rfl, rfl, rfl, rfl⟩ (Sd.put_w _ _ _) ⟨rfl, rfl, rfl⟩ ⟨rfl, rfl⟩ (Or.inl rfl)
    have hp := HB2.out.puts (M' := { M with s := M.s.put k n }) (tk' := tk) 45 (sndL (M.s.put k n)) (by simp [sndL]) (F.putSnd M tk _) ⟨rfl, rfl, rfl, rfl, rfl⟩ hf
    have ht := Gt.sets H.out.nd (sndL (M.s.put k n)) 45 _ (Gt.under H.out HL2.out)
    try go_simp
    rename_i hM _ _ _
    refine hM _ _ ?_
    go_meet
    exact ⟨hp, ht⟩
  case rest =>
  obtain ⟨hY1, hY2⟩ := hcut
  have HY1 := hid hY1
  have HY2 := hid hY2
  have HM := hid (HPB.out.1.moved hY2)
  have HG := hid (HPB.out.2.moved hY2)
  have z1 := HM.out.1
  have q1 := HM.out.2.1
  have z2 := HG.out.1
  have q2 := HG.out.2.1
  have zg := HY1.out.bx.z
  obtain ⟨ua, uc, hv⟩ := gws_form HY1.out
  have q3 : wc.cell? ⟨F.g, 75, none⟩ = some (.slice ua tk.l.length uc) := (HY1.out.at 75 tk.v rfl).trans (by rw [hv])
  have q4 : wc.cell? ⟨F.g, 72, none⟩ = some (.int .i64 M.clock) := HY1.out.at 72 _ rfl
  have HA := hid ((HY1.out.over (.cells #[.int .i64 M.clock, .int .i64 k, .int .u8 n] 105)).drew)
  have HU : Hid (((wc.alloc (.cells #[.int .i64 M.clock, .int .i64 k, .int .u8 n] 105)).drew).ownsRow F.B 105 3 (.slice ua tk.l.length uc) tk.l.length (wcs tk.l)) := hv ▸ HA.out.ws
  have HN : Hid (∀ j u, ([.int .i64 M.clock, .int .i64 k, .int .u8 n] : List Value)[j]? = some u → ((wc.alloc (.cells #[.int .i64 M.clock, .int .i64 k, .int .u8 n] 105)).drew).cell? ((⟨wc.heap.size, 0, none⟩ : Addr).add j) = some u) := World.news_of_block (cs := #[.int .i64 M.clock, .int .i64 k, .int .u8 n]) (t := 105) (fr := (0, 0)) (heap_alloc_new wc _)
  have HO : Hid (∀ u ∈ ([.int .i64 M.clock, .int .i64 k, .int .u8 n] : List Value), u.oneCell' = true) := by intro u hu; simp at hu; rcases hu with rfl | rfl | rfl <;> rfl
  have HZ : Hid (F.B ≤ ((wc.alloc (.cells #[.int .i64 M.clock, .int .i64 k, .int .u8 n] 105)).drew).heap.size) := HA.out.big
  have H63 : Hid (tk.l.length + 1 ≤ maxLen) := by show _ ≤ _; unfold maxLen; omega
  have HBY : Hid ((tk.l.length + 1) * 24 ≤ 140737488355328) := by show _ ≤ _; omega
  have hfar : ∀ x, x < ((wc.alloc (.cells #[.int .i64 M.clock, .int .i64 k, .int .u8 n] 105)).drew).heap.size → (∀ e : tk.v.ownBlock = some x, False) → ∀ w3 : World, ((wc.alloc (.cells #[.int .i64 M.clock, .int .i64 k, .int .u8 n] 105)).drew).grownBy w3 (Value.slice ua tk.l.length uc).ownBlock → w3.heap[x]? = ((wc.alloc (.cells #[.int .i64 M.clock, .int .i64 k, .int .u8 n] 105)).drew).heap[x]? := fun x hx hne w3 hg3 => hg3.block x hx (fun e => hne (by rw [hv]; exact e.symm))
  have HGF : Hid (∀ w3, ((wc.alloc (.cells #[.int .i64 M.clock, .int .i64 k, .int .u8 n] 105)).drew).grownBy w3 (Value.slice ua tk.l.length uc).ownBlock → w3.frozen? ⟨F.g, 75, none⟩ = false ∧ F.g < w3.heap.size ∧ w3.cell? ⟨F.g, 75, none⟩ = some (.slice ua tk.l.length uc)) := fun w3 hg3 => by
    have hx := HA.out.bx.same hg3.size (hfar F.g HA.out.bx.z (fun e => (HA.out.wd F.g e).1 (Or.inl rfl)) w3 hg3)
    exact ⟨hx.f 75, hx.z, (hx.at 75 tk.v rfl).trans (by rw [hv])⟩
  have HK : Hid (∀ (gg cp : Nat) (w3 : World), w3.ownsRow F.B 105 3 (.slice (some ⟨gg, 0, none⟩) (tk.l.length + 1) cp) (tk.l.length + 1) (wcs tk.l ++ [.int .i64 M.clock, .int .i64 k, .int .u8 n]) → ((wc.alloc (.cells #[.int .i64 M.clock, .int .i64 k, .int .u8 n] 105)).drew).grownBy w3 (Value.slice ua tk.l.length uc).ownBlock → ((Value.slice ua tk.l.length uc).ownBlock = some gg ∨ gg = wc.heap.size + 1) →
      GEndA F W (w3.setCell ⟨F.g, 75, none⟩ (.slice (some ⟨gg, 0, none⟩) (tk.l.length + 1) cp)) { M with s := M.s.put k n } tk [⟨M.clock, k, n⟩]) := fun gg cp w3 hown hg3 hat => by
    rw [← hv] at hg3 hat
    obtain ⟨x1, x2⟩ := HA.out.wrote (x := ⟨M.clock, k, n⟩) hg3 hown (hat.imp id (fun e => by rw [e]; show _ = (wc.alloc _).heap.size; simp))
    refine ⟨⟨_, x1⟩, (HY2.out.w.trans (Gw.of_below HY1.out.big ((stA (st0 wc) _).drew))).trans x2, fun h0 j hj hT => ?_⟩
    have a1 := HY2.out.block j hj hT
    have a2 := ((stA (st0 wc) (.cells #[.int .i64 M.clock, .int .i64 k, .int .u8 n] 105)).drew).block j (Nat.lt_of_lt_of_le hj (Mv.size HY2.out))
    have a3 := hg3.block j (Nat.lt_of_lt_of_le (Nat.lt_of_lt_of_le hj (Mv.size HY2.out)) ((stA (st0 wc) _).drew).size) (by rw [h0]; exact fun e => by cases e)
    exact ((heap_set_far (fun e => hT (Or.inl e))).trans a3).trans (a2.trans a1)
  obtain ⟨i1, hj0, hy0, hy1, hy2⟩ := info_parts info_write
  have HSZ : Hid (((wc.alloc (.cells #[.int .i64 M.clock, .int .i64 k, .int .u8 n] 105)).drew).heap.size = wc.heap.size + 1) := by show _ = _; simp
  have HS2 : Hid (((wc.alloc (.cells #[.int .i64 M.clock, .int .i64 k, .int .u8 n] 105)).drew).cell? ⟨mb, 0, none⟩ = some (pt F.g 0) ∧ ((wc.alloc (.cells #[.int .i64 M.clock, .int .i64 k, .int .u8 n] 105)).drew).cell? ⟨gb, 0, none⟩ = some (pt F.g 0) ∧ ((wc.alloc (.cells #[.int .i64 M.clock, .int .i64 k, .int .u8 n] 105)).drew).cell? ⟨F.g, 72, none⟩ = some (.int .i64 M.clock)) := ⟨((HM.out.kept ((stA (st0 wc) _).drew)).2.1), ((HG.out.kept ((stA (st0 wc) _).drew)).2.1), HA.out.at 72 _ rfl⟩
  have HQ5 : Hid (((wc.alloc (.cells #[.int .i64 M.clock, .int .i64 k, .int .u8 n] 105)).drew).cell? ⟨F.g, 75, none⟩ = some (.slice ua tk.l.length uc) ∧ F.g < ((wc.alloc (.cells #[.int .i64 M.clock, .int .i64 k, .int .u8 n] 105)).drew).heap.size) := ⟨(HA.out.at 75 tk.v rfl).trans (by rw [hv]), HA.out.bx.z⟩
  have HS3 : Hid (∀ w3 : World, ((wc.alloc (.cells #[.int .i64 M.clock, .int .i64 k, .int .u8 n] 105)).drew).grownBy w3 (Value.slice ua tk.l.length uc).ownBlock → w3.cell? ⟨mb, 0, none⟩ = some (pt F.g 0) ∧ w3.cell? ⟨gb, 0, none⟩ = some (pt F.g 0) ∧ w3.cell? ⟨F.g, 72, none⟩ = some (.int .i64 M.clock)) := fun w3 hg3 =>
    ⟨(World.cell?_of_block (hfar mb (Nat.lt_of_lt_of_le z1 ((stA (st0 wc) _).drew).size) HWB.out.1 w3 hg3)).trans HS2.out.1, (World.cell?_of_block (hfar gb (Nat.lt_of_lt_of_le z2 ((stA (st0 wc) _).drew).size) HWB.out.2 w3 hg3)).trans HS2.out.2.1, (World.cell?_of_block (hfar _ HA.out.bx.z (fun e => (HA.out.wd _ e).1 (Or.inl rfl)) w3 hg3)).trans (HA.out.at 72 _ rfl)⟩
  have HS4 : Hid (∀ (w3 : World) (v : Value), (w3.cell? ⟨mb, 0, none⟩ = some (pt F.g 0) ∧ w3.cell? ⟨gb, 0, none⟩ = some (pt F.g 0) ∧ w3.cell? ⟨F.g, 72, none⟩ = some (.int .i64 M.clock)) → (w3.setCell ⟨F.g, 75, none⟩ v).cell? ⟨mb, 0, none⟩ = some (pt F.g 0) ∧ (w3.setCell ⟨F.g, 75, none⟩ v).cell? ⟨gb, 0, none⟩ = some (pt F.g 0) ∧ (w3.setCell ⟨F.g, 75, none⟩ v).cell? ⟨F.g, 72, none⟩ = some (.int .i64 M.clock)) := fun w3 v h => ⟨(World.cell?_of_block (heap_set_far HNE.out.1)).trans h.1, (World.cell?_of_block (heap_set_far HNE.out.2)).trans h.2.1, (World.cell?_setCell_other _ _ _ _ (by simp)).trans h.2.2⟩
  clear hY1 hY2 hv hl hfar
  go_wp2
  refine wp_region_held_drew (S := fun w' => w'.cell? ⟨mb, 0, none⟩ = some (pt F.g 0) ∧ w'.cell? ⟨gb, 0, none⟩ = some (pt F.g 0) ∧ w'.cell? ⟨F.g, 72, none⟩ = some (.int .i64 M.clock)) (by kernel_rfl) (⟨q1, q2, q4⟩) ?_
  intro hS
  refine wpAnyH_take (i := 0) (oi := { dst := some 53, op := _, type := _, pos := _, after := _, guard := none }) (v := ?_) rfl (by kernel_rfl) (by kernel_rfl) (by kernel_rfl) (fun _ _ _ h => h) (Or.inl ⟨by rfl, ?_⟩) hS ?_
  rotate_left 1
  focus (intro w hSw; (try dsimp only at hSw); go_simp; try (with_reducible rfl))
  simp only [Act.put, List.setIfInBounds_toArray, List.set_cons_zero, List.set_cons_succ]
  refine wpAnyH_take (i := 1) (oi := { dst := some 54, op := _, type := _, pos := _, after := _, guard := none }) (v := ?_) rfl (by kernel_rfl) (by kernel_rfl) (by kernel_rfl) (fun _ _ _ h => h) (Or.inl ⟨by rfl, ?_⟩) hS ?_
  rotate_left 1
  focus (intro w hSw; (try dsimp only at hSw); go_simp; try (with_reducible rfl))
  simp only [Act.put, List.setIfInBounds_toArray, List.set_cons_zero, List.set_cons_succ]
  refine wpAnyH_take (i := 2) (oi := { dst := some 55, op := _, type := _, pos := _, after := _, guard := none }) (v := ?_) rfl (by kernel_rfl) (by kernel_rfl) (by kernel_rfl) (fun _ _ _ h => h) (Or.inl ⟨by rfl, ?_⟩) hS ?_
  rotate_left 1
  focus (intro w hSw; (try dsimp only at hSw); go_simp; try (with_reducible rfl))
  simp only [Act.put, List.setIfInBounds_toArray, List.set_cons_zero, List.set_cons_succ]
  refine wpAnyH_take (i := 3) (oi := { dst := some 56, op := _, type := _, pos := _, after := _, guard := none }) (v := ?_) rfl (by kernel_rfl) (by kernel_rfl) (by kernel_rfl) (fun _ _ _ h => h) (Or.inl ⟨by rfl, ?_⟩) hS ?_
  rotate_left 1
  focus (intro w hSw; (try dsimp only at hSw); go_simp; try (with_reducible rfl))
  simp only [Act.put, List.setIfInBounds_toArray, List.set_cons_zero, List.set_cons_succ]
  refine wpAnyH_take (i := 5) (oi := { dst := some 58, op := _, type := _, pos := _, after := _, guard := none }) (v := ?_) rfl (by kernel_rfl) (by kernel_rfl) (by kernel_rfl) (fun _ _ _ h => h) (Or.inl ⟨by rfl, ?_⟩) hS ?_
  rotate_left 1
  focus (intro w hSw; (try dsimp only at hSw); go_simp; try (with_reducible rfl))
  simp only [Act.put, List.setIfInBounds_toArray, List.set_cons_zero, List.set_cons_succ]
  refine wpAnyH_take (i := 6) (oi := { dst := some 59, op := _, type := _, pos := _, after := _, guard := none }) (v := ?_) rfl (by kernel_rfl) (by kernel_rfl) (by kernel_rfl) (fun _ _ _ h => h) (Or.inl ⟨by rfl, ?_⟩) hS ?_
  rotate_left 1
  focus (intro w hSw; (try dsimp only at hSw); go_simp; try (with_reducible rfl))
  simp only [Act.put, List.setIfInBounds_toArray, List.set_cons_zero, List.set_cons_succ]
  refine wpAnyH_take (i := 7) (oi := { dst := some 60, op := _, type := _, pos := _, after := _, guard := none }) (v := ?_) rfl (by kernel_rfl) (by kernel_rfl) (by kernel_rfl) (fun _ _ _ h => h) (Or.inl ⟨by rfl, ?_⟩) hS ?_
  rotate_left 1
  focus (intro w hSw; (try dsimp only at hSw); go_simp; try (with_reducible rfl))
  simp only [Act.put, List.setIfInBounds_toArray, List.set_cons_zero, List.set_cons_succ]
  refine wpAnyH_take (i := 8) (oi := { dst := some 61, op := _, type := _, pos := _, after := _, guard := none }) (v := ?_) rfl (by kernel_rfl) (by kernel_rfl) (by kernel_rfl) (fun _ _ _ h => h) (Or.inl ⟨by rfl, ?_⟩) hS ?_
  rotate_left 1
  focus (intro w hSw; (try dsimp only at hSw); go_simp; try (with_reducible rfl))
  simp only [Act.put, List.setIfInBounds_toArray, List.set_cons_zero, List.set_cons_succ]
  refine wpAnyH_take (i := 9) (oi := { dst := some 62, op := _, type := _, pos := _, after := _, guard := none }) (v := ?_) rfl (by kernel_rfl) (by kernel_rfl) (by kernel_rfl) (fun _ _ _ h => h) (Or.inl ⟨by rfl, ?_⟩) hS ?_
  rotate_left 1
  focus (intro w hSw; (try dsimp only at hSw); go_simp; try (with_reducible rfl))
  simp only [Act.put, List.setIfInBounds_toArray, List.set_cons_zero, List.set_cons_succ]
  refine wpAnyH_take (i := 10) (oi := { dst := some 63, op := _, type := _, pos := _, after := _, guard := none }) (v := ?_) rfl (by kernel_rfl) (by kernel_rfl) (by kernel_rfl) (fun _ _ _ h => h) (Or.inl ⟨by rfl, ?_⟩) hS ?_
  rotate_left 1
  focus (intro w hSw; (try dsimp only at hSw); go_simp; try (with_reducible rfl))
  simp only [Act.put, List.setIfInBounds_toArray, List.set_cons_zero, List.set_cons_succ]
  refine wpAnyH_take (i := 11) (oi := { dst := some 64, op := _, type := _, pos := _, after := _, guard := none }) (v := ?_) rfl (by kernel_rfl) (by kernel_rfl) (by kernel_rfl) (fun _ _ _ h => h) (Or.inl ⟨by rfl, ?_⟩) hS ?_
  rotate_left 1
  focus (intro w hSw; (try dsimp only at hSw); go_simp; try (with_reducible rfl))
  simp only [Act.put, List.setIfInBounds_toArray, List.set_cons_zero, List.set_cons_succ]
  refine wpAnyH_ready (rs := [4, 12]) (by kernel_rfl) (by simp) ?_
  refine AllReadyH.cons (o := { dst := some 57, op := _, type := _, pos := _, after := _, guard := none }) rfl (fun K hK => ?_) (AllReadyH.cons (o := { dst := some 65, op := _, type := _, pos := _, after := _, guard := none }) rfl (fun K hK => ?_) AllReadyH.nil)
  · go_simp
    refine hK.out _ _ hS (fun _ => ?_)
    clear hK K
    try simp only [Act.put, List.setIfInBounds_toArray, List.set_cons_zero, List.set_cons_succ]
    refine wpAnyH_ready (rs := [12]) (by kernel_rfl) (by simp) ?_
    refine AllReadyH.cons (o := { dst := some 65, op := _, type := _, pos := _, after := _, guard := none }) rfl (fun K hK => ?_) AllReadyH.nil
    go_simp
    refine hK.out _ _ HS2.out (fun _ => ?_)
    clear hK K
    try simp only [Act.put, List.setIfInBounds_toArray, List.set_cons_zero, List.set_cons_succ]
    refine wpAnyH_ready (rs := [13]) (by kernel_rfl) (by simp) ?_
    refine AllReadyH.cons (o := { dst := some 66, op := _, type := _, pos := _, after := _, guard := none }) rfl (fun K hK => ?_) AllReadyH.nil
    refine step_append_lies _ (by rfl) (.tmp 57) (.tmp 65) 57 (by rfl) F.B 105 i1 _ 3 24 Try.underlying57 hj0 hy0 hy1 hy2 rfl (by omega) (.slice ua tk.l.length uc) tk.l.length (wcs tk.l) rfl HU.out ⟨wc.heap.size, 0, none⟩ 1 1 [.int .i64 M.clock, .int .i64 k, .int .u8 n] rfl rfl HN.out HO.out (by omega) H63.out HBY.out HZ.out (wc.heap.size + 1) HSZ.out ?_
    intro gg cp w3 hown3 hgrow hat hlt3
    have hS3 := HS3.out w3 hgrow
    refine hK.out _ _ hS3 (fun _ => ?_)
    clear hK K
    simp only [Act.put, List.setIfInBounds_toArray, List.set_cons_zero, List.set_cons_succ]
    refine wpAnyH_take (i := 14) (oi := { dst := some 67, op := _, type := _, pos := _, after := _, guard := none }) (v := ?_) rfl (by kernel_rfl) (by kernel_rfl) (by kernel_rfl) (fun _ _ _ h => h) (Or.inl ⟨by rfl, ?_⟩) hS3 ?_
    rotate_left 1
    focus (intro w hSw; (try dsimp only at hSw); go_simp; try (with_reducible rfl))
    simp only [Act.put, List.setIfInBounds_toArray, List.set_cons_zero, List.set_cons_succ]
    refine wpAnyH_take (i := 15) (oi := { dst := some 68, op := _, type := _, pos := _, after := _, guard := none }) (v := ?_) rfl (by kernel_rfl) (by kernel_rfl) (by kernel_rfl) (fun _ _ _ h => h) (Or.inl ⟨by rfl, ?_⟩) hS3 ?_
    rotate_left 1
    focus (intro w hSw; (try dsimp only at hSw); go_simp; try (with_reducible rfl))
    simp only [Act.put, List.setIfInBounds_toArray, List.set_cons_zero, List.set_cons_succ]
    refine wpAnyH_ready (rs := [16]) (by kernel_rfl) (by simp) ?_
    refine AllReadyH.cons (o := { dst := none, op := _, type := _, pos := _, after := _, guard := none }) rfl (fun K hK => ?_) AllReadyH.nil
    obtain ⟨f3, z3, d3⟩ := HGF.out w3 hgrow
    go_simp
    refine hK.out _ _ (HS4.out w3 _ hS3) (fun _ => ?_)
    clear hK K
    refine wpAnyH_done (by kernel_rfl) ?_ _
    go_simp
    go_wp2
    go_end0
    exact ⟨rfl, HK.out gg cp w3 hown3 hgrow hat⟩
  · go_simp
    refine hK.out _ _ HS2.out (fun _ => ?_)
    clear hK K
    try simp only [Act.put, List.setIfInBounds_toArray, List.set_cons_zero, List.set_cons_succ]
    refine wpAnyH_ready (rs := [4]) (by kernel_rfl) (by simp) ?_
    refine AllReadyH.cons (o := { dst := some 57, op := _, type := _, pos := _, after := _, guard := none }) rfl (fun K hK => ?_) AllReadyH.nil
    have q5 := HQ5.out
    go_simp
    refine hK.out _ _ HS2.out (fun _ => ?_)
    clear hK K q5
    try simp only [Act.put, List.setIfInBounds_toArray, List.set_cons_zero, List.set_cons_succ]
    refine wpAnyH_ready (rs := [13]) (by kernel_rfl) (by simp) ?_
    refine AllReadyH.cons (o := { dst := some 66, op := _, type := _, pos := _, after := _, guard := none }) rfl (fun K hK => ?_) AllReadyH.nil
    refine step_append_lies _ (by rfl) (.tmp 57) (.tmp 65) 57 (by rfl) F.B 105 i1 _ 3 24 Try.underlying57 hj0 hy0 hy1 hy2 rfl (by omega) (.slice ua tk.l.length uc) tk.l.length (wcs tk.l) rfl HU.out ⟨wc.heap.size, 0, none⟩ 1 1 [.int .i64 M.clock, .int .i64 k, .int .u8 n] rfl rfl HN.out HO.out (by omega) H63.out HBY.out HZ.out (wc.heap.size + 1) HSZ.out ?_
    intro gg cp w3 hown3 hgrow hat hlt3
    have hS3 := HS3.out w3 hgrow
    refine hK.out _ _ hS3 (fun _ => ?_)
    clear hK K
    simp only [Act.put, List.setIfInBounds_toArray, List.set_cons_zero, List.set_cons_succ]
    refine wpAnyH_take (i := 14) (oi := { dst := some 67, op := _, type := _, pos := _, after := _, guard := none }) (v := ?_) rfl (by kernel_rfl) (by kernel_rfl) (by kernel_rfl) (fun _ _ _ h => h) (Or.inl ⟨by rfl, ?_⟩) hS3 ?_
    rotate_left 1
    focus (intro w hSw; (try dsimp only at hSw); go_simp; try (with_reducible rfl))
    simp only [Act.put, List.setIfInBounds_toArray, List.set_cons_zero, List.set_cons_succ]
    refine wpAnyH_take (i := 15) (oi := { dst := some 68, op := _, type := _, pos := _, after := _, guard := none }) (v := ?_) rfl (by kernel_rfl) (by kernel_rfl) (by kernel_rfl) (fun _ _ _ h => h) (Or.inl ⟨by rfl, ?_⟩) hS3 ?_
    rotate_left 1
    focus (intro w hSw; (try dsimp only at hSw); go_simp; try (with_reducible rfl))
    simp only [Act.put, List.setIfInBounds_toArray, List.set_cons_zero, List.set_cons_succ]
    refine wpAnyH_ready (rs := [16]) (by kernel_rfl) (by simp) ?_
    refine AllReadyH.cons (o := { dst := none, op := _, type := _, pos := _, after := _, guard := none }) rfl (fun K hK => ?_) AllReadyH.nil
    obtain ⟨f3, z3, d3⟩ := HGF.out w3 hgrow
    go_simp
    refine hK.out _ _ (HS4.out w3 _ hS3) (fun _ => ?_)
    clear hK K
    refine wpAnyH_done (by kernel_rfl) ?_ _
    go_simp
    go_wp2
    go_end0
    exact ⟨rfl, HK.out gg cp w3 hown3 hgrow hat⟩
theorem gmonoA {e : Ending} {w' : World} {l : List Wt} (h : e = .returned (.tuple #[]) ∧ GEndA F W w' M' tk []) (hl : l = []) : e = .returned (.tuple #[]) ∧ GEndA F W w' M' tk l := by rw [hl]; exact h
theorem Gm.putA (h : Gd F W M tk) (hm : Pb F W mb) (hgb : Pb F W gb) (hwm : tk.v.ownBlock ≠ some mb) (hwg : tk.v.ownBlock ≠ some gb) (a n : Int) (ha : 0 ≤ a ∧ a ≤ 65535) (hn : 0 ≤ n ∧ n ≤ 255) (hl : tk.l.length ≤ 1000000000) : Calls Try.prog 42 #[.int .u16 a, .int .u8 n, pt mb 0, pt gb 0] W fun e w' => e = .returned (.tuple #[]) ∧ GEndA F W w' (M.wrA a n) tk (M.shA a n) := by
  unfold Mach.wrA Mach.shA
  by_cases hp : isPort a = true
  · rw [if_pos hp, if_pos hp]
    have hr : 53248 ≤ a ∧ a ≤ 57343 := by unfold isPort at hp; simpa using hp
    have ht : Int.tmod a 32 = a % 32 := Int.tmod_eq_emod_of_nonneg (by omega)
    have hb : portNo a < 32 := by unfold portNo; omega
    have hk : Int.tmod a 32 = ((portNo a : Nat) : Int) := by rw [ht]; unfold portNo; omega
    generalize portNo a = k at *
    unfold Mach.putA shown
    by_cases e : k < 24
    · rw [if_pos e, if_pos e]
      exact Gm.auxPs h hm hgb hwm hwg a n hr.1 hr.2 hn k hk e hl
    rw [if_neg e, if_neg e]
    by_cases e2 : k = 24
    · rw [if_pos e2]
      exact Gm.auxP24 h hm a n hr.1 hr.2 hn (by rw [hk, e2]; rfl)
    rw [if_neg e2]
    exact Gm.auxPd h a n hr.1 hr.2 k hk (by omega) (by omega) (by simp; omega)
  · rw [if_neg hp, if_neg hp]
    have hr : ¬ (53248 ≤ a ∧ a ≤ 57343) := by unfold isPort at hp; simpa using hp
    unfold Mach.memA
    by_cases h1 : a < 32768
    · rw [if_pos h1]
      exact Gm.auxN0 h a n ha.1 h1
    rw [if_neg h1]
    by_cases h2 : a < 49152
    · rw [if_pos h2]
      exact Gm.auxN1 h hm a n (by omega) h2 hn
    rw [if_neg h2]
    by_cases h3 : a < 53248
    · rw [if_pos h3]
      cases hgr : M.granted
      · have hx := Gm.auxN3 (gb := gb) h hm a n (by omega) h3 hgr
        simp only [Bool.false_eq_true, if_false]
        exact hx
      · have hx := Gm.auxN2 (gb := gb) h hm a n (by omega) h3 hn hgr
        rw [hgr] at hx
        simp only [if_true]
        exact hx
    rw [if_neg h3]
    exact Gm.auxN4 h a n (by omega) ha.2
end
/-- The blocks of a game, but for what was written to the sound. -/
def Gx.all (F : Gx) (k : Nat) : Prop := F.T k ∨ F.S.mr.ownBlock = some k ∨ F.S.ar.ownBlock = some k
theorem Gd.of_same {F : Gx} {W w1 : World} {M : Mach} {tk : Tk} (h : Gd F W M tk) (hz : W.heap.size ≤ w1.heap.size) (e : ∀ k, k < W.heap.size → F.all k → w1.heap[k]? = W.heap[k]?) (ew : ∀ k, tk.v.ownBlock = some k → w1.heap[k]? = W.heap[k]?) : Gd F w1 M tk :=
  ⟨h.bx.same hz (e _ h.bx.z (Or.inl (Or.inl rfl))), h.mr.same hz (fun _ k hk hl => e k hl (Or.inr (Or.inl hk))), h.ar.same hz (fun _ k hk hl => e k hl (Or.inr (Or.inr hk))), h.ra.same hz (fun hk => e _ hk (Or.inl (Or.inr (Or.inl rfl)))), h.ow.same hz (fun hk => e _ hk (Or.inl (Or.inr (Or.inr (Or.inl rfl))))), h.vi.same hz (fun hk => e _ hk (Or.inl (Or.inr (Or.inr (Or.inr rfl))))), h.nd, h.fit, Nat.le_trans h.big hz, ows_of h.ws ew, h.rd, h.wd⟩
/-- A game of a machine that is one's own. -/
theorem Gd.ofOwn {B : Nat} {S : Sl} {M : Mach} {Y : World} (h : OwnS B S M Y) (hf : M.fit) (hB : B ≤ Y.heap.size) (t : TypeId) : ∃ F : Gx, F.B = B ∧ F.g = Y.heap.size ∧ F.S = S ∧ Gd F (Y.alloc (.cells (machL M S ++ gtl).toArray t)) M Tk.zero ∧ (∀ k, F.all k → B ≤ k ∧ k < (Y.alloc (.cells (machL M S ++ gtl).toArray t)).heap.size) ∧ ∀ k, F.all k → k = Y.heap.size ∨ ∃ j, j < 5 ∧ (S.get j).ownBlock = some k := by
  obtain ⟨k2, r2, b2, o2⟩ := (h.own 2 (by omega)).rw
  obtain ⟨k3, r3, b3, o3⟩ := (h.own 3 (by omega)).rw
  obtain ⟨k4, r4, b4, o4⟩ := (h.own 4 (by omega)).rw
  have z2 := ((h.own 2 (by omega)).lt k2 o2).2
  have z3 := ((h.own 3 (by omega)).lt k3 o3).2
  have z4 := ((h.own 4 (by omega)).lt k4 o4).2
  have n23 : k2 ≠ k3 := fun e => h.dist 2 3 k2 (by omega) (by omega) (by omega) o2 (by rw [e]; exact o3)
  have n24 : k2 ≠ k4 := fun e => h.dist 2 4 k2 (by omega) (by omega) (by omega) o2 (by rw [e]; exact o4)
  have n34 : k3 ≠ k4 := fun e => h.dist 3 4 k3 (by omega) (by omega) (by omega) o3 (by rw [e]; exact o4)
  have hall : ∀ k, (Gx.mk B Y.heap.size 0 0 k2 k3 k4 S).all k → k = Y.heap.size ∨ ∃ j, j < 5 ∧ (S.get j).ownBlock = some k := fun k hk => by
    rcases hk with (e | e | e | e) | e | e
    · exact Or.inl e
    · exact Or.inr ⟨2, by omega, by have e' : k = k2 := e; rw [e']; exact o2⟩
    · exact Or.inr ⟨3, by omega, by have e' : k = k3 := e; rw [e']; exact o3⟩
    · exact Or.inr ⟨4, by omega, by have e' : k = k4 := e; rw [e']; exact o4⟩
    · exact Or.inr ⟨0, by omega, e⟩
    · exact Or.inr ⟨1, by omega, e⟩
  have hrom : ∀ j, j < 2 → ∀ k, (S.get j).ownBlock = some k → ¬ (k = Y.heap.size ∨ k = k2 ∨ k = k3 ∨ k = k4) := fun j hj k hk e => by
    have hl := ((h.own j (by omega)).lt k hk).2
    rcases e with e | e | e | e
    · omega
    · exact h.dist j 2 k (by omega) (by omega) (by omega) hk (by rw [e]; exact o2)
    · exact h.dist j 3 k (by omega) (by omega) (by omega) hk (by rw [e]; exact o3)
    · exact h.dist j 4 k (by omega) (by omega) (by omega) hk (by rw [e]; exact o4)
  have hb := stA (st0 Y) (.cells (machL M S ++ gtl).toArray t)
  refine ⟨⟨B, Y.heap.size, 0, 0, k2, k3, k4, S⟩, rfl, rfl, rfl, ⟨Bx.new Y _ t rfl, (h.slAt 0 (by omega)).kept hb, (h.slAt 1 (by omega)).kept hb, r2.same hb.size (fun hk => hb.block _ hk), r3.same hb.size (fun hk => hb.block _ hk), r4.same hb.size (fun hk => hb.block _ hk), ⟨⟨hB, b2, b3, b4⟩, ⟨by show Y.heap.size ≠ k2; omega, by show Y.heap.size ≠ k3; omega, by show Y.heap.size ≠ k4; omega, n23, n24, n34⟩⟩, hf, Nat.le_trans hB hb.size, World.ownsRow_nil _ _ _ _, ⟨fun _ k hk => hrom 0 (by omega) k hk, fun _ k hk => hrom 1 (by omega) k hk⟩, fun k hk => by cases hk⟩, fun k hk => ?_, hall⟩
  rcases hall k hk with e | ⟨j, hj, e⟩
  · rw [e]; exact ⟨hB, by simp⟩
  · obtain ⟨a1, a2⟩ := (h.own j hj).lt k e
    exact ⟨a1, Nat.lt_of_lt_of_le a2 hb.size⟩
end Go.Proofs.Ythooknikfachnaa
