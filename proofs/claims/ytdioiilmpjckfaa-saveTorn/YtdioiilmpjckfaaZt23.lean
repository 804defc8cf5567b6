/-
  Parts of a proof, joined.
-/
import Derived.Test.YtdioiilmpjckfaaZt22
namespace Go.Proofs.Ytdioiilmpjckfaa
open Go.ChangeShapes Go.WideShapes Go.ChangeAt Go.RowKit
set_option linter.unusedVariables false
set_option maxRecDepth 100000
def Ct.is (B : Nat) (W : World) (c : Ct) (v : Value) : Prop :=
  match c with
  | .lst l => SlNw B W v l
  | c => v = c.val
theorem Ct.is_val {B : Nat} {W : World} {c : Ct} (h : c.kd ≠ .lst) : c.is B W c.val := by
  cases c <;> first | rfl | exact absurd rfl h
theorem Ct.is.move {B N : Nat} {W w1 : World} {T : Nat → Prop} {c : Ct} {v : Value} (h : c.is B W v) (hm : Mv N T T W w1) (ht : ∀ k, T k → k < B) : c.is B w1 v := by
  cases c with
  | lst l => exact SlNw.move (show SlNw B W v l from h) hm ht
  | u8 n => exact h
  | bo n => exact h
  | u16 n => exact h
  | num n => exact h
def All2 (B : Nat) (W : World) : List Ct → List Value → Prop
  | [], [] => True
  | c :: cs, v :: vs => c.is B W v ∧ All2 B W cs vs
  | _, _ => False
theorem All2.move {B N : Nat} {W w1 : World} {T : Nat → Prop} (hm : Mv N T T W w1) (ht : ∀ k, T k → k < B) : ∀ {cs : List Ct} {vs : List Value}, All2 B W cs vs → All2 B w1 cs vs
  | [], [], h => h
  | c :: cs, x :: vs, ⟨h1, h⟩ => ⟨h1.move hm ht, h.move hm ht⟩
  | [], x :: vs, h => h.elim
  | c :: cs, [], h => h.elim
theorem All2.set {B : Nat} {W : World} : ∀ {cs : List Ct} {vs : List Value} (i : Nat) {c : Ct} {v : Value}, All2 B W cs vs → c.is B W v → All2 B W (cs.set i c) (vs.set i v)
  | [], [], i, c, v, h, hc => h
  | c' :: cs, x :: vs, 0, c, v, ⟨_, h⟩, hc => ⟨hc, h⟩
  | c' :: cs, x :: vs, i + 1, c, v, ⟨h1, h⟩, hc => ⟨h1, h.set i hc⟩
  | [], x :: vs, i, c, v, h, hc => h.elim
  | c' :: cs, [], i, c, v, h, hc => h.elim
theorem All2.len {B : Nat} {W : World} : ∀ {cs : List Ct} {vs : List Value}, All2 B W cs vs → vs.length = cs.length
  | [], [], h => rfl
  | c :: cs, x :: vs, ⟨_, h⟩ => by rw [List.length_cons, List.length_cons, h.len]
  | [], x :: vs, h => h.elim
  | c :: cs, [], h => h.elim
theorem All2.cons {B : Nat} {W : World} {c : Ct} {cs : List Ct} {L : List Value} (h : All2 B W (c :: cs) L) : ∃ v L', L = v :: L' ∧ c.is B W v ∧ All2 B W cs L' := by
  cases L with
  | nil => exact h.elim
  | cons v L' => exact ⟨v, L', rfl, h.1, h.2⟩
theorem all2_upd {B m : Nat} {W : World} : ∀ (is : List Nat) (xs : List Ct) (vs : List Value) (cs : List Ct) (L : List Value), All2 B W cs L → All2 B W xs vs → All2 B W (setAll cs is xs) (upd m L (is.map (fun i => ⟨m, i⟩)) vs)
  | [], xs, vs, cs, L, h, hx => by
    have e : upd m L [] vs = L := by cases vs <;> rfl
    have e2 : setAll cs [] xs = cs := by cases xs <;> rfl
    rw [List.map_nil, e, e2]; exact h
  | i :: is, [], [], cs, L, h, hx => h
  | i :: is, x :: xs, v :: vs, cs, L, h, hx => by
    simp only [List.map_cons, upd, setAll, if_pos]
    exact all2_upd is xs vs _ _ (h.set i hx.1) hx.2
  | i :: is, x :: xs, [], cs, L, h, hx => hx.elim
  | i :: is, [], v :: vs, cs, L, h, hx => hx.elim
theorem all2_val {B : Nat} {W : World} : ∀ (xs : List Ct), (∀ c ∈ xs, c.kd ≠ .lst) → All2 B W xs (xs.map Ct.val)
  | [], _ => trivial
  | c :: xs, h => ⟨Ct.is_val (h c List.mem_cons_self), all2_val xs (fun x hx => h x (List.mem_cons_of_mem _ hx))⟩
theorem LsAt.all2 {B : Nat} {W : World} : ∀ {cs : List Ct} {vs : List Value}, LsAt B W cs vs → All2 B W cs vs
  | [], [], h => trivial
  | c :: cs, x :: vs, ⟨⟨l, e, hv⟩, h⟩ => ⟨by subst e; exact hv, h.all2⟩
  | [], x :: vs, h => h.elim
  | c :: cs, [], h => h.elim
structure StR (N g m : Nat) (l0 : List UInt8) (cs0 : List Ct) (W0 : World) (n : Nat) (W : World) : Prop where
  r : ∃ xs lj, rdL (svK.take n) l0 = some (xs, lj) ∧ Rr N g lj W ∧ ∃ L, Bx W m L ∧ All2 W0.heap.size W (setAll cs0 (svI.take n) xs) L
  mv : Mv N (fun k => k = g ∨ k = m) (fun k => k = g ∨ k = m) W0 W
  kx : Kx W0 W
structure NoR (N g m : Nat) (l0 : List UInt8) (W0 W : World) : Prop where
  r : rdL svK l0 = none
  mv : Mv N (fun k => k = g ∨ k = m) (fun k => k = g ∨ k = m) W0 W
  kx : Kx W0 W
structure Dst (N g m : Nat) (W0 : World) : Prop where
  lo : N ≤ m
  mg : m ≠ g
  mz : m < W0.heap.size
  gz : g < W0.heap.size
section
variable {N g m : Nat} {l0 : List UInt8} {cs0 : List Ct} {W0 : World}
theorem tq_m {is : List Nat} (k : Nat) (h : Tq g (is.map (fun i => (⟨m, i⟩ : Pq))) k) : k = g ∨ k = m := by
  rcases h with e | ⟨q, hq, e⟩
  · exact Or.inl e
  · obtain ⟨i, _, rfl⟩ := List.mem_map.1 hq
    exact Or.inr e.symm
theorem Mv.back {W w' : World} {t : Obj} (h : Mv N (fun k => k = g ∨ k = m) (fun k => k = g ∨ k = m) W0 W) (hN : N ≤ W.heap.size) (h2 : Mv N (fun k => k = g ∨ k = m) (fun k => k = g ∨ k = m) (W.alloc t) w') : Mv N (fun k => k = g ∨ k = m) (fun k => k = g ∨ k = m) W0 w' :=
  (h.trans (Mv.of_below hN (stA (st0 W) t))).trans h2
theorem setAll_len : ∀ (is : List Nat) (xs : List Ct) (cs : List Ct), (setAll cs is xs).length = cs.length
  | [], xs, cs => by cases xs <;> rfl
  | i :: is, [], cs => rfl
  | i :: is, x :: xs, cs => by rw [setAll, setAll_len is xs]; simp
theorem Sv.rpre (hd : Dst N g m W0) (hc0 : cs0.length = 75) {n k : Nat} {W : World} {xs : List Ct} {L : List Value} (t : TypeId) (hb : Bx W m L) (ha : All2 W0.heap.size W (setAll cs0 (svI.take n) xs) L) (hz : W0.heap.size ≤ W.heap.size) (hgz : g < W.heap.size) :
    ∀ j q, (((svI.drop n).take k).map (fun i => (⟨m, i⟩ : Pq)))[j]? = some q → Pq.at N g W.heap.size j (W.alloc (.cells (ptrs m ((svI.drop n).take k)).toArray t)) q := fun j q hj => by
  rw [List.getElem?_map, Option.map_eq_some_iff] at hj
  obtain ⟨i, hi, rfl⟩ := hj
  have hi75 := svI_lt i (List.mem_of_getElem? (take_at hi).1)
  refine ⟨?_, ⟨L, hb.over _, ?_⟩, hd.lo, hd.mg, ?_⟩
  · refine (cell_new _ _ _ _ _ rfl).trans ?_
    simpa using ptrs_at (m := m) hi
  · rw [ha.len, setAll_len, hc0]; exact hi75
  · have := hd.mz
    show m ≠ W.heap.size
    omega
theorem svI_len (n k : Nat) : ((svI.drop n).take k).length = ((svK.drop n).take k).length := by
  rw [List.length_take, List.length_take, List.length_drop, List.length_drop]
  rfl
theorem take_next {n k : Nat} {xs ys : List Ct} (h : xs.length = (svI.take n).length) : setAll cs0 (svI.take (n + k)) (xs ++ ys) = setAll (setAll cs0 (svI.take n) xs) ((svI.drop n).take k) ys := by
  rw [List.take_add, setAll_app _ _ _ _ _ h]
theorem Sv.rstep (K : Kd) (f : Nat) (t : TypeId) (hK : K ≠ .lst) (hd : Dst N g m W0) (hc0 : cs0.length = 75) (hl0 : l0.length ≤ 9223372036854775807)
    (H : ∀ (k cap : Nat) (l : List UInt8) (qs : List Pq) (W : World), Rr N g l W → k ≠ g → (∀ j q, qs[j]? = some q → Pq.at N g k j W q) → l.length ≤ 9223372036854775807 → qs.length ≤ 100 → Calls Try.prog f #[pt g 0, .slice (some ⟨k, 0, none⟩) qs.length cap] W fun e w' => RdEnd K N g qs l W e w')
    (n k : Nat) (W : World) (h : StR N g m l0 cs0 W0 n W) (hk : (svK.drop n).take k = List.replicate k K) :
    Calls Try.prog f #[pt g 0, .slice (some ⟨W.heap.size, 0, none⟩) k k] (W.alloc (.cells (ptrs m ((svI.drop n).take k)).toArray t)) (Stp (StR N g m l0 cs0 W0) (NoR N g m l0 W0) (n + k)) := by
  obtain ⟨xs, lj, hrd, hR, L, hb, ha⟩ := h.r
  have hz := h.mv.size
  have hgz := hR.z
  have hN : N ≤ W.heap.size := Nat.le_trans hR.hN (Nat.le_of_lt hgz)
  have hln : (((svI.drop n).take k).map (fun i => (⟨m, i⟩ : Pq))).length = k := by rw [List.length_map, svI_len, hk, List.length_replicate]
  have hxl : xs.length = (svI.take n).length := by
    rw [rdL_len hrd, List.length_take, List.length_take]; rfl
  have hlj : lj.length ≤ 9223372036854775807 := by
    have h1 := congrArg List.length (rdL_inv _ _ _ _ hrd).1
    rw [List.length_append] at h1
    omega
  have hk75 : k ≤ 75 := by
    have : ((svI.drop n).take k).length = k := by rw [svI_len, hk, List.length_replicate]
    have h2 : ((svI.drop n).take k).length ≤ svI.length := by rw [List.length_take, List.length_drop]; omega
    have h3 : svI.length = 75 := rfl
    omega
  have hc := H W.heap.size k lj (((svI.drop n).take k).map (fun i => (⟨m, i⟩ : Pq))) (W.alloc (.cells (ptrs m ((svI.drop n).take k)).toArray t)) (hR.kept (stA (st0 W) _)) (by omega) (Sv.rpre hd hc0 t hb ha hz hgz) hlj (by rw [hln]; omega)
  rw [hln] at hc
  refine hc.mono fun e w' hE => ?_
  rcases hE with ⟨h1, h2, h3, h4⟩ | ⟨h1, ys, l', h2, h3⟩
  · refine Or.inl ⟨h2, (rdL_next (n := n) (k := k) hrd).1 (by rw [hk]; rw [hln] at h1; exact h1), h.mv.back hN (h3.wide tq_m), (h.kx.trans (Kx.below (stA (st0 W) _))).trans h4⟩
  · rw [hln] at h2
    have hys := rdL_inv _ _ _ _ h2
    refine Or.inr ⟨h1, ⟨xs ++ ys, l', (rdL_next (n := n) (k := k) hrd).2 ys l' (by rw [hk]; exact h2), h3.r, _, h3.put m L hd.mg (hb.over _), ?_⟩, h.mv.back hN (h3.mv.wide tq_m), (h.kx.trans (Kx.below (stA (st0 W) _))).trans h3.kx⟩
    rw [take_next hxl, List.take_length]
    have hmv : Mv N (fun k => k = g ∨ k = m) (fun k => k = g ∨ k = m) W w' := (Mv.of_below hN (stA (st0 W) (.cells (ptrs m ((svI.drop n).take k)).toArray t))).trans (h3.mv.wide tq_m)
    refine all2_upd _ _ _ _ _ (ha.move hmv (fun k hk => by
      rcases hk with rfl | rfl
      · exact hd.gz
      · exact hd.mz)) (all2_val ys (fun c hc => ?_))
    have : c.kd ∈ ys.map Ct.kd := List.mem_map_of_mem hc
    rw [hys.2.2] at this
    rw [(List.mem_replicate.1 this).2]
    exact hK
theorem Sv.rstepL (f : Nat) (t : TypeId) (hd : Dst N g m W0) (hc0 : cs0.length = 75) (hl0 : l0.length ≤ 9223372036854775807)
    (H : ∀ (B k cap : Nat) (l : List UInt8) (qs : List Pq) (W : World), Rr N g l W → k ≠ g → (∀ j q, qs[j]? = some q → Pq.at N g k j W q) → l.length ≤ 9223372036854775807 → qs.length ≤ 100 → (∀ k, Tq g qs k → k < B) → B ≤ W.heap.size → Calls Try.prog f #[pt g 0, .slice (some ⟨k, 0, none⟩) qs.length cap] W fun e w' => RlEnd N g B qs l W e w')
    (W : World) (h : StR N g m l0 cs0 W0 30 W) :
    Calls Try.prog f #[pt g 0, .slice (some ⟨W.heap.size, 0, none⟩) 5 5] (W.alloc (.cells (ptrs m ((svI.drop 30).take 5)).toArray t)) (Stp (StR N g m l0 cs0 W0) (NoR N g m l0 W0) 35) := by
  obtain ⟨xs, lj, hrd, hR, L, hb, ha⟩ := h.r
  have hz := h.mv.size
  have hgz := hR.z
  have hN : N ≤ W.heap.size := Nat.le_trans hR.hN (Nat.le_of_lt hgz)
  have hxl : xs.length = (svI.take 30).length := by
    rw [rdL_len hrd, List.length_take, List.length_take]; rfl
  have hlj : lj.length ≤ 9223372036854775807 := by
    have h1 := congrArg List.length (rdL_inv _ _ _ _ hrd).1
    rw [List.length_append] at h1
    omega
  have hB : ∀ k, (k = g ∨ k = m) → k < W0.heap.size := fun k hk => by
    rcases hk with rfl | rfl
    · exact hd.gz
    · exact hd.mz
  have hc := H W0.heap.size W.heap.size 5 lj (((svI.drop 30).take 5).map (fun i => (⟨m, i⟩ : Pq))) (W.alloc (.cells (ptrs m ((svI.drop 30).take 5)).toArray t)) (hR.kept (stA (st0 W) _)) (by omega) (Sv.rpre hd hc0 t hb ha hz hgz) hlj (by rw [List.length_map]; decide) (fun k hk => hB k (tq_m k hk)) (by simp; omega)
  refine hc.mono fun e w' hE => ?_
  rcases hE with ⟨h1, h2, h3, h4⟩ | ⟨h1, ys, vs, l', h2, h3⟩
  · exact Or.inl ⟨h2, (rdL_next (n := 30) (k := 5) hrd).1 h1, h.mv.back hN (h3.wide tq_m), (h.kx.trans (Kx.below (stA (st0 W) _))).trans h4⟩
  · refine Or.inr ⟨h1, ⟨xs ++ ys, l', (rdL_next (n := 30) (k := 5) hrd).2 ys l' h2, h3.r, _, h3.put m L hd.mg (hb.over _), ?_⟩, h.mv.back hN (h3.mv.wide tq_m), (h.kx.trans (Kx.below (stA (st0 W) _))).trans h3.kx⟩
    have e := take_next (cs0 := cs0) (n := 30) (k := 5) (ys := ys) hxl
    rw [show (30 + 5 : Nat) = 35 from rfl] at e
    rw [e, List.take_length]
    have hmv : Mv N (fun k => k = g ∨ k = m) (fun k => k = g ∨ k = m) W w' := (Mv.of_below hN (stA (st0 W) (.cells (ptrs m ((svI.drop 30).take 5)).toArray t))).trans (h3.mv.wide tq_m)
    exact all2_upd _ _ _ _ _ (ha.move hmv hB) h3.ls.all2
theorem Sv.rcar (hd : Dst N g m W0) (hc0 : cs0.length = 75) (hl0 : l0.length ≤ 9223372036854775807) : Car 77 g m 109 108 112 111 110 (StR N g m l0 cs0 W0) (NoR N g m l0 W0) where
  drew := fun n W h => ⟨by
    obtain ⟨xs, lj, hrd, hR, L, hb, ha⟩ := h.r
    refine ⟨xs, lj, hrd, hR.kept (st0 W).drew, L, hb.drew, ?_⟩
    exact ha.move (T := fun _ => False) (Mv.of_below (B := N) (Nat.le_trans hR.hN (Nat.le_of_lt hR.z)) (st0 W).drew) (fun k hk => False.elim hk), h.mv.drew, h.kx.trans (Kx.below (st0 W).drew)⟩
  eb := fun _ _ => rfl
  eo := fun _ _ => rfl
  ew := fun _ _ => rfl
  en := fun _ _ => rfl
  el := fun _ _ => rfl
  mb := fun _ => by kernel_rfl
  mo := fun _ => by kernel_rfl
  mw := fun _ => by kernel_rfl
  mn := fun _ => by kernel_rfl
  ml := fun _ => by kernel_rfl
  nb := fun _ => by kernel_rfl
  no := fun _ => by kernel_rfl
  nw := fun _ => by kernel_rfl
  nn := fun _ => by kernel_rfl
  nl := fun _ => by kernel_rfl
  sb := Sv.rstep .u8 _ _ (by intro h; cases h) hd hc0 hl0 (fun k cap l qs W h hk hp hl hq => Sv.rbytes N g k cap l qs W h hk hp hl hq)
  so := Sv.rstep .bo _ _ (by intro h; cases h) hd hc0 hl0 (fun k cap l qs W h hk hp hl hq => Sv.rbools N g k cap l qs W h hk hp hl hq)
  sw := Sv.rstep .u16 _ _ (by intro h; cases h) hd hc0 hl0 (fun k cap l qs W h hk hp hl hq => Sv.rwords N g k cap l qs W h hk hp hl hq)
  sn := Sv.rstep .num _ _ (by intro h; cases h) hd hc0 hl0 (fun k cap l qs W h hk hp hl hq => Sv.rnumbers N g k cap l qs W h hk hp hl hq)
  sl := Sv.rstepL _ _ hd hc0 hl0 (fun B k cap l qs W h hk hp hl hq hB hBW => Sv.rlists N g B k cap l qs W h hk hp hl hq hB hBW)
end
end Go.Proofs.Ytdioiilmpjckfaa
