/-
  Parts of a proof, joined.
-/
import Derived.Test.YtdioiilmpjckfaaZt15
namespace Go.Proofs.Ytdioiilmpjckfaa
open Go.ChangeShapes Go.WideShapes Go.ChangeAt Go.RowKit
set_option linter.unusedVariables false
set_option maxRecDepth 100000
abbrev tornE : Ending := .panicked [{ v := .iface 73 (.agg #[]), recovered := false }]
def Kx (W w1 : World) : Prop := ∀ b L, Bx W b L → ∃ L', Bx w1 b L' ∧ L'.length = L.length
theorem Kx.refl (W : World) : Kx W W := fun b L h => ⟨L, h, rfl⟩
theorem Kx.trans {a b c : World} (h : Kx a b) (k : Kx b c) : Kx a c := fun x L hx => by
  obtain ⟨L1, h1, e1⟩ := h x L hx
  obtain ⟨L2, h2, e2⟩ := k x L1 h1
  exact ⟨L2, h2, e2.trans e1⟩
theorem Kx.below {W w1 : World} (hb : Below W.heap.size W w1) : Kx W w1 := fun b L h => ⟨L, h.kept hb, rfl⟩
theorem Kx.set (W : World) (b o : Nat) (v : Value) : Kx W (W.setCell ⟨b, o, none⟩ v) := fun x L h => by
  by_cases e : b = x
  · subst e
    by_cases ho : o < L.length
    · exact ⟨L.set o v, h.set o v ho, by simp⟩
    · refine ⟨L, ⟨by simpa using h.z, fun j u hj => ?_, fun o' => by simpa using h.f o'⟩, rfl⟩
      have hjl := (List.getElem?_eq_some_iff.1 hj).1
      exact (World.cell?_setCell_other _ _ _ _ (by intro x; have := congrArg Addr.off x; simp at this; omega)).trans (h.c j u hj)
  · exact ⟨L, h.far e v, rfl⟩
structure Rr (N g : Nat) (l : List UInt8) (W : World) : Prop where
  hN : N ≤ g
  s : ∃ a c, Bx W g [.slice a l.length c] ∧ SlUn N W (.slice a l.length c) l
theorem Rr.z {N g : Nat} {l : List UInt8} {W : World} (h : Rr N g l W) : g < W.heap.size := by
  obtain ⟨a, c, h1, _⟩ := h.s
  exact h1.z
theorem Rr.move {N g : Nat} {l : List UInt8} {W w1 : World} {T : Nat → Prop} (h : Rr N g l W) (hm : Mv N T T W w1) (hg : ¬ T g) : Rr N g l w1 := by
  obtain ⟨a, c, h1, h2⟩ := h.s
  exact ⟨h.hN, a, c, h1.same hm.size (hm.block g h1.z hg), h2.kept hm.below⟩
theorem Rr.kept {N g : Nat} {l : List UInt8} {W w1 : World} (h : Rr N g l W) (hb : Below W.heap.size W w1) : Rr N g l w1 := by
  obtain ⟨a, c, h1, h2⟩ := h.s
  exact ⟨h.hN, a, c, h1.kept hb, h2.kept (hb.mono (Nat.le_trans h.hN (Nat.le_of_lt h1.z)))⟩
theorem Sv.giveUp (g : Nat) (w : World) : Calls Try.prog 30 #[pt g 0] w fun e w' => e = tornE ∧ w = w' := by
  have hpn : ∀ (t : TypeId) (v : Value) (w : World), (Instr.panic (.iface t v)).run Try.prog w = .halt (.panic (.iface t v)) w := fun _ _ _ => rfl
  go_enter Try.func30, Try.ntmps30
  go_wp2
  exact ⟨rfl, rfl, rfl⟩
theorem Sv.take_no {N g : Nat} {l : List UInt8} (W : World) (n : Nat) (h : Rr N g l W) (hn : l.length < n) :
    Calls Try.prog 113 #[pt g 0, .int .i64 n] W fun e w' => e = tornE ∧ W = w' := by
  obtain ⟨a, c, h1, h2⟩ := h.s
  have c0 := h1.at 0 _ rfl
  have hz := h1.z
  have hd : (l.length : Int) < n := by omega
  clear h h1 h2
  go_enter Try.func113, Try.ntmps113
  go_wp2_with (go_at_call 30; refine (Sv.giveUp g _).mono ?_; rintro e w' ⟨rfl, rfl⟩)
  exact ⟨rfl, rfl, rfl⟩
theorem SlUn.take {N : Nat} {W : World} {a : Option Addr} {c : Nat} {l : List UInt8} (h : SlUn N W (.slice a l.length c) l) (n : Nat) (hn : n ≤ l.length) : SlUn N W (.slice a n c) (l.take n) := by
  have hl : (l.take n).length = n := by rw [List.length_take]; omega
  rcases h with ⟨a', c', h1, h2⟩ | ⟨b, o, c', h1, h2, h3, h4, h5⟩
  · subst h2
    have : n = 0 := by simpa using hn
    subst this
    exact Or.inl ⟨a, c, rfl, rfl⟩
  · simp only [Value.slice.injEq] at h1
    obtain ⟨rfl, _, rfl⟩ := h1
    refine Or.inr ⟨b, o, c, by rw [hl], by rw [hl]; omega, h3, h4, fun j x hj => ?_⟩
    have hjl := (List.getElem?_eq_some_iff.1 hj).1
    rw [List.getElem?_take_of_lt (by rw [hl] at hjl; exact hjl)] at hj
    exact h5 j x hj
theorem SlUn.drop {N : Nat} {W : World} {a : Option Addr} {c : Nat} {l : List UInt8} (h : SlUn N W (.slice a l.length c) l) (n : Nat) (hn : n ≤ l.length) : SlUn N W (.slice (Option.map (fun x => x.add n) a) (l.length - n) (c - n)) (l.drop n) := by
  have hl : (l.drop n).length = l.length - n := by rw [List.length_drop]
  rcases h with ⟨a', c', h1, h2⟩ | ⟨b, o, c', h1, h2, h3, h4, h5⟩
  · subst h2
    have : n = 0 := by simpa using hn
    subst this
    exact Or.inl ⟨_, _, rfl, rfl⟩
  · simp only [Value.slice.injEq] at h1
    obtain ⟨rfl, _, rfl⟩ := h1
    refine Or.inr ⟨b, o + n, c - n, ?_, by rw [hl]; omega, h3, h4, fun j x hj => ?_⟩
    · rw [hl]
      simp only [Option.map_some, addr_add]
    · rw [List.getElem?_drop] at hj
      rw [Nat.add_assoc]
      exact h5 (n + j) x hj
theorem SlUn.none {N : Nat} {W : World} {a : Option Addr} {l : List UInt8} {n c : Nat} (hn : l.length ≤ n) : SlUn N W (.slice a (l.length - n) c) (l.drop n) :=
  Or.inl ⟨a, c, by rw [show l.length - n = 0 by omega], List.drop_eq_nil_of_le hn⟩
theorem Rr.next {N g : Nat} {l : List UInt8} {W : World} {n c : Nat} {a : Option Addr} (h : Rr N g l W) (hs : SlUn N W (.slice a (l.length - n) c) (l.drop n)) :
    Rr N g (l.drop n) (W.setCell ⟨g, 0, none⟩ (.slice a (l.length - n) c)) ∧ Mv N (· = g) (· = g) W (W.setCell ⟨g, 0, none⟩ (.slice a (l.length - n) c)) ∧ Kx W (W.setCell ⟨g, 0, none⟩ (.slice a (l.length - n) c)) := by
  obtain ⟨a', c', h1, h2⟩ := h.s
  have hm : Mv N (· = g) (· = g) W (W.setCell ⟨g, 0, none⟩ (.slice a (l.length - n) c)) := (Mv.refl N (fun x => x = g) W).setCell (p := ⟨g, 0, none⟩) h.hN (Or.inl rfl) _
  refine ⟨⟨h.hN, a, c, ?_, ?_⟩, hm, Kx.set _ _ _ _⟩
  · rw [List.length_drop]
    exact h1.set 0 _ (by simp)
  · rw [List.length_drop]
    exact hs.kept hm.below
set_option maxHeartbeats 1600000 in
theorem Sv.take_ok {N g : Nat} {l : List UInt8} (W : World) (n : Nat) (h : Rr N g l W) (hn : n ≤ l.length) (hl : l.length ≤ 9223372036854775807) :
    Calls Try.prog 113 #[pt g 0, .int .i64 n] W fun e w' => ∃ a c, e = .returned (.slice a n c) ∧ SlUn N w' (.slice a n c) (l.take n) ∧ Rr N g (l.drop n) w' ∧ Mv N (· = g) (· = g) W w' ∧ Kx W w' := by
  obtain ⟨a, c, h1, h2⟩ := h.s
  have c0 := h1.at 0 _ rfl
  have f0 := h1.f 0
  have hz := h1.z
  have hd : ¬ (l.length : Int) < n := by omega
  have hd2 : (n : Int) ≤ l.length := by omega
  have hn0 : (0 : Int) ≤ n := by omega
  have hnl : (l.length : Int) ≤ 9223372036854775807 := by omega
  have hlc : l.length ≤ c := by
    rcases h2 with ⟨a', c', e1, e2⟩ | ⟨b, o, c', e1, e2, _⟩
    · subst e2; simp
    · simp only [Value.slice.injEq] at e1
      omega
  have hnc : n ≤ c := by omega
  have H := hid h
  have H1 := hid h1
  have H2 := hid h2
  clear h h1 h2
  go_enter Try.func113, Try.ntmps113
  go_wp2
  case inl =>
    have hcn : c = n := by omega
    subst hcn
    obtain ⟨q1, q2, q3⟩ := H.out.next (SlUn.none (a := a) (c := 0) hlc)
    go_ret
    exact ⟨_, _, rfl, (H2.out.take _ hn).kept q2.below, q1, q2, q3⟩
  case inr =>
    obtain ⟨q1, q2, q3⟩ := H.out.next (n := n) (H2.out.drop n hn)
    go_ret
    exact ⟨_, _, rfl, (H2.out.take n hn).kept q2.below, q1, q2, q3⟩
theorem Sv.end_ok {N g : Nat} (W : World) (h : Rr N g [] W) : Calls Try.prog 23 #[pt g 0] W fun e w' => e = .returned (.tuple #[]) ∧ W = w' := by
  obtain ⟨a, c, h1, h2⟩ := h.s
  have c0 := h1.at 0 _ rfl
  have hz := h1.z
  clear h h1 h2
  go_enter Try.func23, Try.ntmps23
  go_wp2
  go_end0
  exact ⟨rfl, rfl⟩
theorem Sv.end_no {N g : Nat} {l : List UInt8} (W : World) (h : Rr N g l W) (hl : l ≠ []) : Calls Try.prog 23 #[pt g 0] W fun e w' => e = tornE ∧ W = w' := by
  obtain ⟨a, c, h1, h2⟩ := h.s
  have c0 := h1.at 0 _ rfl
  have hz := h1.z
  have hd : (0 : Int) < l.length := by cases l with | nil => exact absurd rfl hl | cons _ _ => simp
  clear h h1 h2 hl
  go_enter Try.func23, Try.ntmps23
  go_wp2_with (go_at_call 30; refine (Sv.giveUp g _).mono ?_; rintro e w' ⟨rfl, rfl⟩)
  exact ⟨rfl, rfl, rfl⟩
structure Pq where
  b : Nat
  o : Nat
def Tq (g : Nat) (qs : List Pq) (k : Nat) : Prop := k = g ∨ ∃ q ∈ qs, q.b = k
structure Pq.at (N g k j : Nat) (W : World) (q : Pq) : Prop where
  pp : W.cell? ⟨k, j, none⟩ = some (pt q.b q.o)
  bx : ∃ L, Bx W q.b L ∧ q.o < L.length
  lo : N ≤ q.b
  ng : q.b ≠ g
  nk : q.b ≠ k
def upd (b : Nat) (L : List Value) : List Pq → List Value → List Value
  | q :: qs, v :: vs => upd b (if q.b = b then L.set q.o v else L) qs vs
  | _, _ => L
theorem upd_len (b : Nat) : ∀ (qs : List Pq) (vs L : List Value), (upd b L qs vs).length = L.length
  | [], vs, L => by cases vs <;> rfl
  | q :: qs, [], L => rfl
  | q :: qs, v :: vs, L => by
    rw [upd, upd_len b qs vs]
    split <;> simp
theorem upd_app (b : Nat) : ∀ (qs : List Pq) (vs L : List Value) (q : Pq) (v : Value), vs.length = qs.length → upd b L (qs ++ [q]) (vs ++ [v]) = if q.b = b then (upd b L qs vs).set q.o v else upd b L qs vs
  | [], [], L, q, v, _ => rfl
  | p :: qs, x :: vs, L, q, v, h => by
    simp only [List.cons_append, upd]
    exact upd_app b qs vs _ q v (by simpa using h)
  | [], x :: vs, L, q, v, h => by simp at h
  | p :: qs, [], L, q, v, h => by simp at h
structure RI (N g : Nat) (qs : List Pq) (j : Nat) (lj : List UInt8) (xs : List Ct) (W wr : World) : Prop where
  r : Rr N g lj wr
  mv : Mv N (Tq g qs) (Tq g qs) W wr
  kx : Kx W wr
  put : ∀ b L, b ≠ g → Bx W b L → Bx wr b (upd b L (qs.take j) (xs.map Ct.val))
  len : xs.length = j
theorem Mv.wide {B : Nat} {T T' : Nat → Prop} {w w' : World} (h : Mv B T T w w') (ht : ∀ k, T k → T' k) : Mv B T' T' w w' :=
  ⟨h.below, fun k hk hn => h.block k hk (fun e => hn (ht k e)), fun k hk => Or.inl hk⟩
section
variable {N g k j : Nat} {qs : List Pq} {q : Pq} {l lj l1 : List UInt8} {xs : List Ct} {W wr w1 : World}
theorem RI.zero (h : Rr N g l W) : RI N g qs 0 l [] W W := ⟨h, Mv.refl _ _ _, Kx.refl _, fun b L _ hb => hb, rfl⟩
theorem RI.there (h : RI N g qs j lj xs W wr) (hq : Pq.at N g k j W q) (hm : Mv N (· = g) (· = g) wr w1) : (∃ y, w1.cell? ⟨q.b, q.o, none⟩ = some y) ∧ w1.frozen? ⟨q.b, q.o, none⟩ = false ∧ q.b < w1.heap.size := by
  obtain ⟨L, hL, ho⟩ := hq.bx
  have h1 := h.put q.b L hq.ng hL
  have h2 : Bx w1 q.b (upd q.b L (qs.take j) (xs.map Ct.val)) := h1.same hm.size (hm.block _ h1.z hq.ng)
  exact ⟨⟨_, h2.at q.o _ (List.getElem?_eq_getElem (by rw [upd_len]; exact ho))⟩, h2.f _, h2.z⟩
theorem RI.step (h : RI N g qs j lj xs W wr) (hj : qs[j]? = some q) (hq : Pq.at N g k j W q) (hr : Rr N g l1 w1) (hm : Mv N (· = g) (· = g) wr w1) (hk : Kx wr w1) (c : Ct) :
    RI N g qs (j + 1) l1 (xs ++ [c]) W (w1.setCell ⟨q.b, q.o, none⟩ c.val) := by
  have hqm : q ∈ qs := List.mem_of_getElem? hj
  refine ⟨?_, ?_, ?_, fun b L hb hL => ?_, by rw [List.length_append, h.len]; rfl⟩
  · exact hr.move (T := fun k => k = q.b) ((Mv.refl N (fun k => k = q.b) w1).setCell (p := ⟨q.b, q.o, none⟩) hq.lo (Or.inl rfl) _) (Ne.symm hq.ng)
  · exact (h.mv.trans (hm.wide (fun k e => Or.inl e))).setCell (p := ⟨q.b, q.o, none⟩) hq.lo (Or.inl (Or.inr ⟨q, hqm, rfl⟩)) _
  · exact (h.kx.trans hk).trans (Kx.set _ _ _ _)
  · have h1 := h.put b L hb hL
    have h2 : Bx w1 b (upd b L (qs.take j) (xs.map Ct.val)) := h1.same hm.size (hm.block _ h1.z hb)
    have e : upd b L (qs.take (j + 1)) ((xs ++ [c]).map Ct.val) = if q.b = b then (upd b L (qs.take j) (xs.map Ct.val)).set q.o c.val else upd b L (qs.take j) (xs.map Ct.val) := by
      rw [List.take_add_one, hj, List.map_append]
      refine upd_app b _ _ L q c.val ?_
      rw [List.length_map, h.len, List.length_take]
      have := (List.getElem?_eq_some_iff.1 hj).1
      omega
    rw [e]
    split
    · rename_i eb
      subst eb
      obtain ⟨L0, hL0, ho⟩ := hq.bx
      by_cases hlt : q.o < (upd q.b L (qs.take j) (xs.map Ct.val)).length
      · exact h2.set q.o _ hlt
      · rw [List.set_eq_of_length_le (by omega)]
        refine ⟨by simpa using h2.z, fun i u hi => ?_, fun o' => by simpa using h2.f o'⟩
        have hil := (List.getElem?_eq_some_iff.1 hi).1
        exact (World.cell?_setCell_other _ _ _ _ (by intro x; have := congrArg Addr.off x; simp at this; omega)).trans (h2.c i u hi)
    · rename_i eb
      exact h2.far eb _
theorem rep_no {K : Kd} {n : Nat} (h : rdL (List.replicate j K) l = some (xs, lj)) (hn : rdK K lj = none) (hj : j < n) : rdL (List.replicate n K) l = none := by
  have e : (List.replicate n K).take j = List.replicate j K := by rw [List.take_replicate, Nat.min_eq_left (by omega)]
  have e2 : ((List.replicate n K).drop j).take 1 = [K] := by rw [List.drop_replicate, List.take_replicate, Nat.min_eq_left (by omega)]; rfl
  refine (rdL_next (K := List.replicate n K) (n := j) (k := 1) (l1 := lj) (xs := xs) (by rw [e]; exact h)).1 ?_
  rw [e2]
  simp only [rdL, hn]
theorem rep_ok {K : Kd} {c : Ct} (h : rdL (List.replicate j K) l = some (xs, lj)) (hn : rdK K lj = some (c, l1)) : rdL (List.replicate (j + 1) K) l = some (xs ++ [c], l1) := by
  rw [List.replicate_succ', rdL_app, h]
  simp only [rdL, hn]
end
def RdEnd (K : Kd) (N g : Nat) (qs : List Pq) (l : List UInt8) (W : World) (e : Ending) (w' : World) : Prop :=
  (rdL (List.replicate qs.length K) l = none ∧ e = tornE ∧ Mv N (Tq g qs) (Tq g qs) W w' ∧ Kx W w') ∨
  (e = .returned (.tuple #[]) ∧ ∃ xs l', rdL (List.replicate qs.length K) l = some (xs, l') ∧ RI N g qs qs.length l' xs W w')
theorem byte_at {N : Nat} {W : World} {a : Option Addr} {n c : Nat} {x : UInt8} (h : SlUn N W (.slice a n c) [x]) : ∃ b o, a = some ⟨b, o, none⟩ ∧ b < W.heap.size ∧ W.cell? ⟨b, o, none⟩ = some (.int .u8 x.toNat) ∧ n = 1 := by
  rcases h with ⟨_, _, _, h2⟩ | ⟨b, o, c', h1, h2, h3, h4, h5⟩
  · cases h2
  · simp only [Value.slice.injEq] at h1
    exact ⟨b, o, h1.1, h4, h5 0 x rfl, h1.2.1⟩
set_option maxHeartbeats 1600000 in
theorem Sv.rbytes (N g k cap : Nat) (l : List UInt8) (qs : List Pq) (W : World) (h : Rr N g l W) (hk : k ≠ g) (hp : ∀ j q, qs[j]? = some q → Pq.at N g k j W q) (hl : l.length ≤ 9223372036854775807) (hql : qs.length ≤ 100) :
    Calls Try.prog 109 #[pt g 0, .slice (some ⟨k, 0, none⟩) qs.length cap] W fun e w' => RdEnd .u8 N g qs l W e w' := by
  have H := hid h
  have HP := hid hp
  clear h hp
  go_enter Try.func109, Try.ntmps109
  go_wp2
  go_loopw [8] (fun i wr => ∃ (j : Nat) (xs : List Ct) (lj : List UInt8), j ≤ qs.length ∧ i = .int .i64 j ∧ rdL (List.replicate j .u8) l = some (xs, lj) ∧ RI N g qs j lj xs W wr) (fun i _ => qs.length - (intOf i).toNat)
  case atStart => exact ⟨0, [], l, Nat.zero_le _, rfl, rfl, RI.zero H.out⟩
  case round =>
    obtain ⟨j, xs, lj, hj, rfl, hrd, hR⟩ := hrel
    by_cases hlt : j < qs.length
    · obtain ⟨q, hqj⟩ : ∃ q, qs[j]? = some q := ⟨_, List.getElem?_eq_getElem hlt⟩
      have hq := HP.out j q hqj
      have hkz : k < W.heap.size := World.block_lt_of_cell? W _ hq.pp
      have hkt : ¬ Tq g qs k := fun ht => by
        rcases ht with e | ⟨q', hm, e⟩
        · exact hk e
        · obtain ⟨i, hi⟩ := List.mem_iff_getElem?.1 hm
          exact (HP.out i q' hi).nk e
      have c2 : wr.cell? ⟨k, j, none⟩ = some (pt q.b q.o) := (hR.mv.cell hkz hkt j).trans hq.pp
      have hkz2 := Nat.lt_of_lt_of_le hkz hR.mv.size
      have hjl : (j : Int) < qs.length := by omega
      have hj0 : (0 : Int) ≤ j := by omega
      have hpl : (qs.length : Int) ≤ 100 := by omega
      have hlj : lj.length ≤ 9223372036854775807 := by
        have := (rdL_inv _ _ _ _ hrd).1
        have h2 : l.length = (wrL xs).length + lj.length := by rw [this, List.length_append]
        omega
      have HR := hid hR
      have HQ := hid hq
      have HQJ := hid hqj
      have HRD := hid hrd
      clear hR hq hqj hrd hkt
      cases lj with
      | nil =>
        have HN := hid (Sv.take_no wr 1 HR.out.r (by simp))
        go_wp2_with (go_at_call 113; refine HN.out.mono ?_; rintro e w' ⟨rfl, rfl⟩)
        exact ⟨rfl, Or.inl ⟨rep_no HRD.out rfl hlt, rfl, HR.out.mv, HR.out.kx⟩⟩
      | cons x t =>
        have HO := hid (Sv.take_ok wr 1 HR.out.r (by simp) hlj)
        go_wp2_with (go_at_call 113; refine HO.out.mono ?_; rintro e w1 ⟨a, c, rfl, hs, hr, hm, hk1⟩; obtain ⟨b, o, rfl, hbz, hb0, _⟩ := byte_at hs; obtain ⟨⟨y0, y1⟩, y2, y3⟩ := HR.out.there HQ.out hm; have HR1 : Hid (Rr N g t w1) := hid hr; have HM1 := hid hm; have HK1 := hid hk1; clear hs hr hm hk1)
        exact ⟨⟨j + 1, xs ++ [.u8 x.toNat], t, by omega, by simp, rep_ok HRD.out rfl, HR.out.step HQJ.out HQ.out HR1.out HM1.out HK1.out (.u8 x.toNat)⟩, by simp [intOf]; omega⟩
    · have hj2 : j = qs.length := by omega
      subst hj2
      have hnl : ¬ (qs.length : Int) < qs.length := by omega
      have HR := hid hR
      have HRD := hid hrd
      clear hR hrd
      go_wp2
      go_end0
      exact Or.inr ⟨rfl, xs, lj, HRD.out, HR.out⟩
set_option maxHeartbeats 1600000 in
theorem Sv.rbools (N g k cap : Nat) (l : List UInt8) (qs : List Pq) (W : World) (h : Rr N g l W) (hk : k ≠ g) (hp : ∀ j q, qs[j]? = some q → Pq.at N g k j W q) (hl : l.length ≤ 9223372036854775807) (hql : qs.length ≤ 100) :
    Calls Try.prog 108 #[pt g 0, .slice (some ⟨k, 0, none⟩) qs.length cap] W fun e w' => RdEnd .bo N g qs l W e w' := by
  have H := hid h
  have HP := hid hp
  clear h hp
  go_enter Try.func108, Try.ntmps108
  go_wp2
  go_loopw [9] (fun i wr => ∃ (j : Nat) (xs : List Ct) (lj : List UInt8), j ≤ qs.length ∧ i = .int .i64 j ∧ rdL (List.replicate j .bo) l = some (xs, lj) ∧ RI N g qs j lj xs W wr) (fun i _ => qs.length - (intOf i).toNat)
  case atStart => exact ⟨0, [], l, Nat.zero_le _, rfl, rfl, RI.zero H.out⟩
  case round =>
    obtain ⟨j, xs, lj, hj, rfl, hrd, hR⟩ := hrel
    by_cases hlt : j < qs.length
    · obtain ⟨q, hqj⟩ : ∃ q, qs[j]? = some q := ⟨_, List.getElem?_eq_getElem hlt⟩
      have hq := HP.out j q hqj
      have hkz : k < W.heap.size := World.block_lt_of_cell? W _ hq.pp
      have hkt : ¬ Tq g qs k := fun ht => by
        rcases ht with e | ⟨q', hm, e⟩
        · exact hk e
        · obtain ⟨i, hi⟩ := List.mem_iff_getElem?.1 hm
          exact (HP.out i q' hi).nk e
      have c2 : wr.cell? ⟨k, j, none⟩ = some (pt q.b q.o) := (hR.mv.cell hkz hkt j).trans hq.pp
      have hkz2 := Nat.lt_of_lt_of_le hkz hR.mv.size
      have hjl : (j : Int) < qs.length := by omega
      have hj0 : (0 : Int) ≤ j := by omega
      have hpl : (qs.length : Int) ≤ 100 := by omega
      have hlj : lj.length ≤ 9223372036854775807 := by
        have := (rdL_inv _ _ _ _ hrd).1
        have h2 : l.length = (wrL xs).length + lj.length := by rw [this, List.length_append]
        omega
      have HR := hid hR
      have HQ := hid hq
      have HQJ := hid hqj
      have HRD := hid hrd
      clear hR hq hqj hrd hkt
      cases lj with
      | nil =>
        have HN := hid (Sv.take_no wr 1 HR.out.r (by simp))
        go_wp2_with (go_at_call 113; refine HN.out.mono ?_; rintro e w' ⟨rfl, rfl⟩)
        exact ⟨rfl, Or.inl ⟨rep_no HRD.out rfl hlt, rfl, HR.out.mv, HR.out.kx⟩⟩
      | cons x t =>
        have HO := hid (Sv.take_ok wr 1 HR.out.r (by simp) hlj)
        by_cases hx : x.toNat ≤ 1
        · have hd : decide (1 < (x.toNat : Int)) = false := decide_eq_false (by omega)
          have hd2 : ((x.toNat : Int) == 1) = (x.toNat == 1) := by
            rw [Bool.eq_iff_iff, beq_iff_eq, beq_iff_eq]
            omega
          have hrk : rdK .bo (x :: t) = some (.bo (x.toNat == 1), t) := by show (if x.toNat ≤ 1 then some (Ct.bo (x.toNat == 1), t) else none) = _; rw [if_pos hx]
          have HRK := hid hrk
          generalize (x.toNat == 1) = bb at hd2 HRK
          clear hrk hx
          go_wp2_with (go_at_call 113; refine HO.out.mono ?_; rintro e w1 ⟨a, c, rfl, hs, hr, hm, hk1⟩; obtain ⟨b, o, rfl, hbz, hb0, _⟩ := byte_at hs; obtain ⟨⟨y0, y1⟩, y2, y3⟩ := HR.out.there HQ.out hm; have HR1 : Hid (Rr N g t w1) := hid hr; have HM1 := hid hm; have HK1 := hid hk1; clear hs hr hm hk1)
          exact ⟨⟨j + 1, xs ++ [.bo bb], t, by omega, by simp, rep_ok HRD.out HRK.out, HR.out.step HQJ.out HQ.out HR1.out HM1.out HK1.out (.bo bb)⟩, by simp [intOf]; omega⟩
        · have hd : decide (1 < (x.toNat : Int)) = true := decide_eq_true (by omega)
          have hrk : rdK .bo (x :: t) = none := by show (if x.toNat ≤ 1 then some (Ct.bo (x.toNat == 1), t) else none) = _; rw [if_neg hx]
          have HRK := hid hrk
          clear hrk hx
          go_wp2_with (first
            | (go_at_call 113; refine HO.out.mono ?_; rintro e w1 ⟨a, c, rfl, hs, hr, hm, hk1⟩; obtain ⟨b, o, rfl, hbz, hb0, _⟩ := byte_at hs; obtain ⟨⟨y0, y1⟩, y2, y3⟩ := HR.out.there HQ.out hm; have HR1 : Hid (Rr N g t w1) := hid hr; have HM1 := hid hm; have HK1 := hid hk1; clear hs hr hm hk1)
            | (go_at_call 30; refine (Sv.giveUp g _).mono ?_; rintro e w' ⟨rfl, rfl⟩))
          exact ⟨rfl, Or.inl ⟨rep_no HRD.out HRK.out hlt, rfl, HR.out.mv.trans (HM1.out.wide (fun k e => Or.inl e)), HR.out.kx.trans HK1.out⟩⟩
    · have hj2 : j = qs.length := by omega
      subst hj2
      have hnl : ¬ (qs.length : Int) < qs.length := by omega
      have HR := hid hR
      have HRD := hid hrd
      clear hR hrd
      go_wp2
      go_end0
      exact Or.inr ⟨rfl, xs, lj, HRD.out, HR.out⟩
end Go.Proofs.Ytdioiilmpjckfaa
