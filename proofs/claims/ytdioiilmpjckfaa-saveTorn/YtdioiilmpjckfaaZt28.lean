/-
  Parts of a proof, joined.
-/
import Derived.Test.YtdioiilmpjckfaaZt10
import Derived.Test.YtdioiilmpjckfaaZt27
import Derived.Test.YtdioiilmpjckfaaZt24
import Derived.Defers
import Derived.Recover
import Derived.Laws.Pointers
namespace Go.Proofs.Ytdioiilmpjckfaa
open Go.ChangeShapes Go.WideShapes Go.ChangeAt Go.RowKit
set_option linter.unusedVariables false
set_option maxRecDepth 100000
theorem SlUn.mono {g g' : Nat} {W : World} {v : Value} {l : List UInt8} (h : SlUn g W v l) (hg : g ≤ g') : SlUn g' W v l := by
  rcases h with h | ⟨b, o, c, h1, h2, h3, h4, h5⟩
  · exact Or.inl h
  · exact Or.inr ⟨b, o, c, h1, h2, by omega, h4, h5⟩
set_option maxHeartbeats 1600000 in
theorem Sv.written (M : Mach) (S : Sl) (w : World) (hs : SlAt w S M) (hf : M.wok) :
    Calls Try.prog 14 #[.agg (machL M S).toArray] w fun e w' => ∃ v, e = .returned v ∧ w'.ownsRow w.heap.size 5 1 v (enc M).length (bcs (enc M)) ∧ Below w.heap.size w w' := by
  have hsr : Src M S w.heap.size (w.heap.size + 1) ((w.alloc (.cells (machL M S).toArray 41)).alloc (.cells #[.slice none 0 0] 68)) := by
    refine ⟨(Bx.new w (machL M S) 41 rfl).over _, by omega, fun j hj => ?_, hf⟩
    exact (((SlUn.of (hs j hj) (Nat.le_refl _)).kept (stA (stA (st0 w) _) _)).mono (by omega))
  have h0 : StW M (w.heap.size + 1) ((w.alloc (.cells (machL M S).toArray 41)).alloc (.cells #[.slice none 0 0] 68)) 0 ((w.alloc (.cells (machL M S).toArray 41)).alloc (.cells #[.slice none 0 0] 68)) :=
    ⟨⟨.slice none 0 0, Bx.new (w.alloc (.cells (machL M S).toArray 41)) [.slice none 0 0] 68 (by simp), ⟨rfl, Or.inl ⟨rfl, rfl⟩⟩⟩, Below.refl _ _⟩
  have HC := hid (Sv.carry (Sv.wcar hsr) _ h0)
  have hlo : Below w.heap.size w ((w.alloc (.cells (machL M S).toArray 41)).alloc (.cells #[.slice none 0 0] 68)) := stA (stA (st0 w) _) _
  have HLO := hid hlo
  clear hsr h0 hs hlo
  go_enter Try.func14, Try.ntmps14
  go_wp2_with (go_at_call 21; refine HC.out.mono ?_; rintro e w1 (⟨_, h1⟩ | ⟨rfl, h1⟩); exact h1.elim; obtain ⟨v, hv⟩ := h1.w; obtain ⟨a, c, ev⟩ := hv.slice; subst ev; have c0 := hv.b.at 0 _ rfl; have cz := hv.b.z; have HV := hid hv; have HL := hid (HLO.out.trans (h1.low.mono (Nat.le_succ _))); clear hv h1)
  go_ret
  have ho := HV.out.o
  have e : wrL ((svX M).take 75) = enc M := rfl
  rw [e] at ho
  refine ⟨_, rfl, ?_, HL.out⟩
  rw [e]
  refine ⟨ho.1, ?_⟩
  rcases ho.2 with h | ⟨gg, cap, cur, e1, e2, r⟩
  · exact Or.inl h
  · exact Or.inr ⟨gg, cap, cur, e1, by omega, r⟩
theorem Sv.idle (p q : Option Addr) (w : World) :
    CallsD Try.prog 22 #[.pointer p, .pointer q] .returning w fun e u' w' => e = .returned (.tuple #[]) ∧ u' = .returning ∧ w' = w := by
  refine callsD_of_wpS Try.func22 rfl fun c₀ cs hu => ?_
  apply wpS_seq
  apply wpS_region
  simp [wpOpsS, go_sem, recoverD, hu, Try.ntmps22, Exit.thenS]
  apply wpS_seq
  apply wpS_seq
  apply wpS_region
  simp [wpOpsS, go_sem, Exit.thenS]
  refine wpS_cond (t := true) (by simp [Act.eval, Array.replicate]) ?_
  simp only [if_true]
  refine wpS_of_wp (wp_ret ?_)
  cases c₀
  simp_all [Exit.thenS, bodyPostS, results, Try.results22]
theorem assert_torn (t : TypeId) (w : World) : (Instr.typeAssert (.iface 73 (.agg #[])) t 73 true).run Try.prog w = .ok (.tuple #[.agg #[], .bool true]) w := by kernel_rfl
theorem zero_again2 {V : World} {b : Nat} {L : List Value} (h : Bx V b L) (hl : L.length = 75) : Bx (V.setCells b 0 (machL zeroM nilS)) b (machL zeroM nilS) := by
  have := h.puts 0 (machL zeroM nilS) (by rw [machL_len]; omega)
  rwa [putL_whole _ _ (by rw [machL_len, hl])] at this
set_option maxHeartbeats 1600000 in
theorem Sv.torn (P Q : Nat) (L : List Value) (x : Value) (w : World) (hPQ : P ≠ Q) (h1 : Bx w P L) (hL : L.length = 75) (h2 : Bx w Q [x]) :
    CallsD Try.prog 22 #[.pointer (some ⟨P, 0, none⟩), .pointer (some ⟨Q, 0, none⟩)] (.panicking [{ v := .iface 73 (.agg #[]), recovered := false }]) w fun e u' w' =>
      e = .returned (.tuple #[]) ∧ u' = .panicking [{ v := .iface 73 (.agg #[]), recovered := true }] ∧ Bx w' P (machL zeroM nilS) ∧ Bx w' Q [.bool false] ∧ (∀ N, N ≤ P → N ≤ Q → N ≤ w.heap.size → Below N w w') := by
  have HP := hid h1
  have HQ := hid h2
  clear h1 h2
  refine callsD_of_wpS Try.func22 rfl fun c₀ cs hu => ?_
  apply wpS_seq
  apply wpS_region
  simp [wpOpsS, go_sem, recoverD, hu, Try.ntmps22, Exit.thenS]
  apply wpS_seq
  apply wpS_seq
  apply wpS_region
  simp [wpOpsS, go_sem, Exit.thenS]
  refine wpS_cond (t := false) (by simp [Act.eval, Array.replicate]) ?_
  simp only [Bool.false_eq_true, if_false]
  refine wpS_of_wp (wp_skip ?_)
  simp only [Exit.thenS]
  refine wpS_of_wp ?_
  have et : (#[Value.pointer (some ⟨P, 0, none⟩), Value.pointer (some ⟨Q, 0, none⟩)] ++
          ((((Array.replicate 15 undef).setIfInBounds 3 (Value.iface 73 (Value.agg #[]))).setIfInBounds 0 (Value.iface 73 (Value.agg #[]))).setIfInBounds 4 (Value.iface 73 (Value.agg #[]))).setIfInBounds 5 (Value.bool false)) = #[Value.pointer (some ⟨P, 0, none⟩), Value.pointer (some ⟨Q, 0, none⟩), Value.iface 73 (Value.agg #[]), undef, undef, Value.iface 73 (Value.agg #[]), Value.iface 73 (Value.agg #[]), Value.bool false, undef, undef, undef, undef, undef, undef, undef, undef, undef] := by
    apply Array.toList_inj.1
    simp [List.replicate]
  rw [et]
  clear et
  have hta := assert_torn
  have h1 := HP.out.over (.cells #[] 73)
  have h2 := HQ.out.over (.cells #[] 73)
  have H1 := hid h1
  have H2 := hid h2
  clear h1 h2
  go_wp2_with (refine wpList_store_mid rfl 41 _ _ rfl P 0 (machL zeroM nilS).toArray rfl rfl (H1.out.there 0 75 (by omega)) info_mach (machL_one _ _ zero_sl) ?_; refine Pl.cutL (fun V => Bx V P (machL zeroM nilS) ∧ Bx V Q [x] ∧ (∀ N, N ≤ P → N ≤ Q → N ≤ w.heap.size → Below N w V)) ⟨zero_again2 H1.out hL, H2.out.fars hPQ 0 _, fun N h1 h2 h3 => Pl.below h1 _ _ _ ((stA (st0 w) _).mono h3)⟩ ?_; rintro V ⟨hV1, hV2, hV3⟩; have q0 := hV2.at 0 _ rfl; have qz := hV2.z; have qf := hV2.f 0; have HV1 := hid hV1; have HV2 := hid hV2; have HV3 := hid hV3; clear hV1 hV2 hV3)
  change bodyPostS Try.prog _ c₀ cs _ _ _ _ _
  simp [bodyPostS, results, Try.results22]
  exact ⟨HV1.out.far (Ne.symm hPQ) _, HV2.out.set 0 _ (by simp), fun N h1 h2 h3 => (HV3.out N h1 h2 h3).setCell h2 _⟩
theorem All2.mk {B : Nat} {W : World} {c : Ct} {v : Value} {cs : List Ct} {vs : List Value} (h : c.is B W v) (t : All2 B W cs vs) : All2 B W (c :: cs) (v :: vs) := ⟨h, t⟩
theorem mach_all2 {B : Nat} {W : World} {M : Mach} {S : Sl} (h : ∀ j, j < 5 → SlNw B W (S.get j) (M.byt j)) : All2 B W (machC M) (machL M S) :=
  All2.mk rfl (All2.mk rfl (All2.mk rfl (All2.mk rfl (All2.mk rfl (All2.mk rfl (All2.mk rfl (All2.mk rfl (All2.mk rfl (All2.mk rfl (All2.mk rfl (All2.mk rfl (All2.mk rfl (All2.mk rfl (All2.mk rfl (All2.mk rfl (All2.mk rfl (All2.mk rfl (All2.mk rfl (All2.mk rfl (All2.mk rfl (All2.mk rfl (All2.mk rfl (All2.mk rfl (All2.mk rfl (All2.mk rfl (All2.mk rfl (All2.mk rfl (All2.mk rfl (All2.mk rfl (All2.mk (h 0 (by omega)) (All2.mk (h 1 (by omega)) (All2.mk (h 2 (by omega)) (All2.mk (h 3 (by omega)) (All2.mk (h 4 (by omega)) (All2.mk rfl (All2.mk rfl (All2.mk rfl (All2.mk rfl (All2.mk rfl (All2.mk rfl (All2.mk rfl (All2.mk rfl (All2.mk rfl (All2.mk rfl (All2.mk rfl (All2.mk rfl (All2.mk rfl (All2.mk rfl (All2.mk rfl (All2.mk rfl (All2.mk rfl (All2.mk rfl (All2.mk rfl (All2.mk rfl (All2.mk rfl (All2.mk rfl (All2.mk rfl (All2.mk rfl (All2.mk rfl (All2.mk rfl (All2.mk rfl (All2.mk rfl (All2.mk rfl (All2.mk rfl (All2.mk rfl (All2.mk rfl (All2.mk rfl (All2.mk rfl (All2.mk rfl (All2.mk rfl (All2.mk rfl (All2.mk rfl (All2.mk rfl (All2.mk rfl trivial))))))))))))))))))))))))))))))))))))))))))))))))))))))))))))))))))))))))))
theorem zero_nw (B : Nat) (W : World) : ∀ j, j < 5 → SlNw B W (nilS.get j) (zeroM.byt j) := fun j hj => by
  rcases five hj with rfl | rfl | rfl | rfl | rfl <;> exact Or.inl ⟨rfl, rfl⟩
def SlNs (B : Nat) (W : World) (S : Sl) (M : Mach) : Prop := ∀ j, j < 5 → SlNw B W (S.get j) (M.byt j)
theorem SlNs.at {B : Nat} {W : World} {S : Sl} {M : Mach} (h : SlNs B W S M) : SlAt W S M := fun j hj => (h j hj).slice
theorem SlNs.isSl {B : Nat} {W : World} {S : Sl} {M : Mach} (h : SlNs B W S M) : S.isSl := fun j hj => by
  obtain ⟨a, c, e⟩ := slice_len (h j hj).slice
  exact ⟨_, _, _, e⟩
theorem SlNs.kept {B : Nat} {W w1 : World} {S : Sl} {M : Mach} (h : SlNs B W S M) (hb : Below W.heap.size W w1) : SlNs B w1 S M := fun j hj => (h j hj).kept hb
theorem load_bool {Y : World} {b : Nat} {x : Bool} (h : Y.cell? ⟨b, 0, none⟩ = some (.bool x)) : (loadVar 4 ⟨b, 0, none⟩).run Try.prog Y = .ok (.bool x) Y := by
  simp [go_sem, h]
theorem take_I : svI.take 75 = svI := by kernel_rfl
theorem take_K : svK.take 75 = svK := by kernel_rfl
theorem StR.done {N g m : Nat} {l : List UInt8} {W0 W : World} {M : Mach} (h : StR N g m l (machC zeroM) W0 75 W) (hrd : rdL svK l = some (svX M, [])) : Rr N g [] W ∧ ∃ S, Bx W m (machL M S) ∧ ∀ j, j < 5 → SlNw W0.heap.size W (S.get j) (M.byt j) := by
  obtain ⟨ys, lj, h2, h3, L, h5, h6⟩ := h.r
  rw [take_K, hrd] at h2
  have h8 := Option.some.inj h2
  have e1 : svX M = ys := congrArg Prod.fst h8
  have e2 : [] = lj := congrArg Prod.snd h8
  rw [← e1, take_I, set_all] at h6
  rw [← e2] at h3
  obtain ⟨S, e, hS⟩ := all2_mach h6
  rw [e] at h5
  exact ⟨h3, S, h5, hS⟩
structure RdK (w : World) (q : Nat) (M : Mach) (S : Sl) (V : World) : Prop where
  m : Bx V w.heap.size (machL M S)
  qq : Bx V q [.bool false]
  low : Below w.heap.size w V
  s : SlNs (w.heap.size + 1 + 1 + 1) V S M
theorem RdK.of {w W0 w1 : World} {M : Mach} {S : Sl} (hx : Bx w1 w.heap.size (machL M S)) (hq : Bx W0 (w.heap.size + 1) [.bool false]) (hb : Below w.heap.size w W0) (hm : Mv w.heap.size (fun k => k = w.heap.size + 1 + 1 ∨ k = w.heap.size) (fun k => k = w.heap.size + 1 + 1 ∨ k = w.heap.size) W0 w1) (hs : ∀ j, j < 5 → SlNw W0.heap.size w1 (S.get j) (M.byt j)) (hz : w.heap.size + 1 + 1 + 1 ≤ W0.heap.size) : RdK w (w.heap.size + 1) M S (w1.setCells w.heap.size 0 (machL M S)) := by
  have h1 := hx.puts 0 (machL M S) (by rw [machL_len]; omega)
  rw [putL_whole _ _ rfl] at h1
  refine ⟨h1, (hq.same hm.size (hm.block _ hq.z (fun e => by rcases e with e | e <;> omega))).fars (by omega) 0 _, Bl.puts (hb.trans hm.below) (Nat.le_refl _) _, fun j hj => ?_⟩
  rcases hs j hj with h | ⟨b, c, e1, e2, e3, e4⟩
  · exact Or.inl h
  · exact Or.inr ⟨b, c, e1, e2, by omega, e4.fars (by omega) 0 _⟩
theorem RdK.put {w V : World} {M : Mach} {S : Sl} (h : RdK w (w.heap.size + 1) M S V) : SlNs w.heap.size (V.setCell ⟨w.heap.size + 1, 0, none⟩ (.bool true)) S M := fun j hj => by
  rcases h.s j hj with h | ⟨b, c, e1, e2, e3, e4⟩
  · exact Or.inl h
  · exact Or.inr ⟨b, c, e1, e2, by omega, e4.far (by omega) _⟩
section
variable {w : World} {a : Option Addr} {c : Nat} {l : List UInt8}
theorem rd_start (h : sliceAt w (.slice a l.length c) l) : Dst w.heap.size (w.heap.size + 1 + 1) w.heap.size (((w.alloc (.cells (machL zeroM nilS).toArray 41)).alloc (.cells #[.bool false] 4)).alloc (.cells #[.slice a l.length c] 76)) ∧ StR w.heap.size (w.heap.size + 1 + 1) w.heap.size l (machC zeroM) (((w.alloc (.cells (machL zeroM nilS).toArray 41)).alloc (.cells #[.bool false] 4)).alloc (.cells #[.slice a l.length c] 76)) 0 (((w.alloc (.cells (machL zeroM nilS).toArray 41)).alloc (.cells #[.bool false] 4)).alloc (.cells #[.slice a l.length c] 76)) ∧ Below w.heap.size w (((w.alloc (.cells (machL zeroM nilS).toArray 41)).alloc (.cells #[.bool false] 4)).alloc (.cells #[.slice a l.length c] 76)) ∧ Bx (((w.alloc (.cells (machL zeroM nilS).toArray 41)).alloc (.cells #[.bool false] 4)).alloc (.cells #[.slice a l.length c] 76)) (w.heap.size + 1) [.bool false] ∧ Bx (((w.alloc (.cells (machL zeroM nilS).toArray 41)).alloc (.cells #[.bool false] 4)).alloc (.cells #[.slice a l.length c] 76)) w.heap.size (machL zeroM nilS) := by
  have hb : Below w.heap.size w (((w.alloc (.cells (machL zeroM nilS).toArray 41)).alloc (.cells #[.bool false] 4)).alloc (.cells #[.slice a l.length c] 76)) := stA (stA (stA (st0 w) _) _) _
  have b0 : Bx (((w.alloc (.cells (machL zeroM nilS).toArray 41)).alloc (.cells #[.bool false] 4)).alloc (.cells #[.slice a l.length c] 76)) w.heap.size (machL zeroM nilS) := ((Bx.new w (machL zeroM nilS) 41 rfl).over _).over _
  refine ⟨⟨Nat.le_refl _, by omega, by simp; omega, by simp⟩, ⟨⟨[], l, rfl, ⟨by omega, a, c, Bx.new ((w.alloc (.cells (machL zeroM nilS).toArray 41)).alloc (.cells #[.bool false] 4)) [.slice a l.length c] 76 (by simp), (SlUn.of h (Nat.le_refl _)).kept hb⟩, _, b0, mach_all2 (zero_nw _ _)⟩, Mv.refl _ _ _, Kx.refl _⟩, hb, (Bx.new (w.alloc (.cells (machL zeroM nilS).toArray 41)) [.bool false] 4 (by simp)).over _, b0⟩
end
set_option maxHeartbeats 1600000 in
theorem Sv.read_torn (v : Value) (l : List UInt8) (w : World) (hv : sliceAt w v l) (hl : l.length ≤ 9223372036854775807) (hrd : rdL svK l = none) :
    Calls Try.prog 15 #[v] w fun e w' => e = .returned (.tuple #[.agg (machL zeroM nilS).toArray, .bool false]) ∧ Below w.heap.size w w' := by
  have hmf : ∀ (fn : Fn) (first cap : Array Value) (w : World), (Instr.makeFunc fn first cap).run Try.prog w = .ok (.func fn first cap) w := fun _ _ _ _ => rfl
  obtain ⟨a, c, ev⟩ := slice_len hv
  subst ev
  obtain ⟨hd, h0, hb0, hq, hz⟩ := rd_start hv
  have HC := hid (Sv.carry (Sv.rcar hd rfl hl) _ h0)
  have HD := hid hd
  have HB0 := hid hb0
  have HQ := hid hq
  have HZ := hid hz
  have HRD := hid hrd
  clear hd h0 hb0 hq hz hrd hv
  go_enter_defers Try.func15, Try.ntmps15
  go_wp2_with (go_at_call 21; refine HC.out.mono ?_; rintro e w1 (⟨rfl, h1⟩ | ⟨rfl, h1⟩); rotate_left; exact (by obtain ⟨xs, lj, h2, _⟩ := h1.r; have h3 := h2.symm.trans HRD.out; cases h3); have HM := hid h1.mv; have HK := hid h1.kx; clear h1)
  obtain ⟨L', hL1, hL2⟩ := HK.out _ _ HZ.out
  have hQ1 : Bx w1 (w.heap.size + 1) [.bool false] := HQ.out.same HM.out.size (HM.out.block _ HQ.out.z (fun e => by rcases e with e | e <;> omega))
  refine leaves_cons (f := 22) (args := #[.pointer (some ⟨w.heap.size, 0, none⟩), .pointer (some ⟨w.heap.size + 1, 0, none⟩)]) (by simp) (by simp [go_sem]) ?_
  refine (Sv.torn w.heap.size (w.heap.size + 1) L' (.bool false) _ (by omega) hL1 (by rw [hL2, machL_len]) hQ1).mono ?_
  rintro e u' w2 ⟨rfl, rfl, hP2, hQ2, hB2⟩
  have hl2 := load_mach _ _ hP2.c
  have d2 := hQ2.at 0 _ rfl
  have hfin : Below w.heap.size w w2 := (HB0.out.trans HM.out.below).trans (hB2 _ (Nat.le_refl _) (by omega) (Nat.le_trans HB0.out.size HM.out.size))
  clear hP2 hQ2 hB2 hL1 hL2 hQ1
  simp [Leaves, settle]
  refine ⟨_, ?_, rfl, hfin⟩
  simp only [results, Try.results15]
  simp
  show (Result.andThen (Sem.run Try.prog (loadVar 41 ⟨w.heap.size, 0, none⟩) w2) _) = _
  rw [hl2]
  show (Result.andThen (Sem.run Try.prog (loadVar 4 ⟨w.heap.size + 1, 0, none⟩) w2) _) = _
  rw [load_bool d2]
  rfl
set_option maxHeartbeats 1600000 in
theorem Sv.read_more (v : Value) (l : List UInt8) (w : World) (hv : sliceAt w v l) (hl : l.length ≤ 9223372036854775807) (xs : List Ct) (lx : List UInt8) (hrd : rdL svK l = some (xs, lx)) (hx : lx ≠ []) :
    Calls Try.prog 15 #[v] w fun e w' => e = .returned (.tuple #[.agg (machL zeroM nilS).toArray, .bool false]) ∧ Below w.heap.size w w' := by
  have hmf : ∀ (fn : Fn) (first cap : Array Value) (w : World), (Instr.makeFunc fn first cap).run Try.prog w = .ok (.func fn first cap) w := fun _ _ _ _ => rfl
  obtain ⟨a, c, ev⟩ := slice_len hv
  subst ev
  obtain ⟨hd, h0, hb0, hq, hz⟩ := rd_start hv
  have HC := hid (Sv.carry (Sv.rcar hd rfl hl) _ h0)
  have HD := hid hd
  have HB0 := hid hb0
  have HQ := hid hq
  have HZ := hid hz
  have HRD := hid hrd
  clear hd h0 hb0 hq hz hrd hv
  go_enter_defers Try.func15, Try.ntmps15
  go_wp2_with (first
    | (go_at_call 21; refine HC.out.mono ?_; rintro e w1 (⟨rfl, h1⟩ | ⟨rfl, h1⟩); exact (by have h3 := h1.r.symm.trans HRD.out; cases h3); have HM := hid h1.mv; have HK := hid h1.kx; obtain ⟨ys, lj, h2, h3, _⟩ := h1.r; have h4 : some (ys, lj) = some (xs, lx) := h2.symm.trans HRD.out; cases h4; have HR := hid h3; clear h1 h2 h3)
    | (go_at_call 23; refine (Sv.end_no _ HR.out hx).mono ?_; rintro e w9 ⟨rfl, rfl⟩))
  obtain ⟨L', hL1, hL2⟩ := HK.out _ _ HZ.out
  have hQ1 : Bx w1 (w.heap.size + 1) [.bool false] := HQ.out.same HM.out.size (HM.out.block _ HQ.out.z (fun e => by rcases e with e | e <;> omega))
  refine leaves_cons (f := 22) (args := #[.pointer (some ⟨w.heap.size, 0, none⟩), .pointer (some ⟨w.heap.size + 1, 0, none⟩)]) (by simp) (by simp [go_sem]) ?_
  refine (Sv.torn w.heap.size (w.heap.size + 1) L' (.bool false) _ (by omega) hL1 (by rw [hL2, machL_len]) hQ1).mono ?_
  rintro e u' w2 ⟨rfl, rfl, hP2, hQ2, hB2⟩
  have hl2 := load_mach _ _ hP2.c
  have d2 := hQ2.at 0 _ rfl
  have hfin : Below w.heap.size w w2 := (HB0.out.trans HM.out.below).trans (hB2 _ (Nat.le_refl _) (by omega) (Nat.le_trans HB0.out.size HM.out.size))
  clear hP2 hQ2 hB2 hL1 hL2 hQ1
  simp [Leaves, settle]
  refine ⟨_, ?_, rfl, hfin⟩
  simp only [results, Try.results15]
  simp
  show (Result.andThen (Sem.run Try.prog (loadVar 41 ⟨w.heap.size, 0, none⟩) w2) _) = _
  rw [hl2]
  show (Result.andThen (Sem.run Try.prog (loadVar 4 ⟨w.heap.size + 1, 0, none⟩) w2) _) = _
  rw [load_bool d2]
  rfl
set_option maxHeartbeats 1600000 in
theorem Sv.read_ok (v : Value) (l : List UInt8) (w : World) (hv : sliceAt w v l) (hl : l.length ≤ 9223372036854775807) (M : Mach) (hrd : rdL svK l = some (svX M, [])) :
    Calls Try.prog 15 #[v] w fun e w' => ∃ S, e = .returned (.tuple #[.agg (machL M S).toArray, .bool true]) ∧ SlNs w.heap.size w' S M ∧ Below w.heap.size w w' := by
  have hmf : ∀ (fn : Fn) (first cap : Array Value) (w : World), (Instr.makeFunc fn first cap).run Try.prog w = .ok (.func fn first cap) w := fun _ _ _ _ => rfl
  obtain ⟨a, c, ev⟩ := slice_len hv
  subst ev
  obtain ⟨hd, h0, hb0, hq, hz⟩ := rd_start hv
  have HC := hid (Sv.carry (Sv.rcar hd rfl hl) _ h0)
  have HD := hid hd
  have HB0 := hid hb0
  have HQ := hid hq
  have HZ := hid hz
  have HRD := hid hrd
  clear hd h0 hb0 hq hz hrd hv
  go_enter_defers Try.func15, Try.ntmps15
  go_wp2_with (first
    | (go_at_call 21; refine HC.out.mono ?_; rintro e w1 (⟨rfl, h1⟩ | ⟨rfl, h1⟩); exact (by have h3 := h1.r.symm.trans HRD.out; cases h3); have HM := hid h1.mv; have HK := hid h1.kx; obtain ⟨h3, S, h5, hS⟩ := h1.done HRD.out; have HR := hid h3; have HX := hid h5; have HS := hid hS; clear h1 h3 h5 hS)
    | (go_at_call 23; refine (Sv.end_ok _ HR.out).mono ?_; rintro e w9 ⟨rfl, rfl⟩)
    | (refine wpList_load_mid rfl 41 _ rfl w.heap.size 0 rfl (machL M S) _ HX.out.c Try.underlying41 rfl info_mach ?_)
    | (refine wpList_store_mid rfl 41 _ _ rfl w.heap.size 0 (machL M S).toArray rfl rfl (HX.out.there 0 75 (by rw [machL_len]; omega)) info_mach (machL_one _ _ (SlNs.isSl (B := _) (W := w1) (M := M) HS.out)) ?_; refine Pl.cutL (RdK w (w.heap.size + 1) M S) ?_ ?_; exact RdK.of HX.out HQ.out HB0.out HM.out HS.out (by simp); intro V hV; have q0 := hV.qq.at 0 _ rfl; have qz := hV.qq.z; have qf := hV.qq.f 0; have HV := hid hV; clear hV))
  refine leaves_cons (f := 22) (args := #[.pointer (some ⟨w.heap.size, 0, none⟩), .pointer (some ⟨w.heap.size + 1, 0, none⟩)]) (by simp) (by simp [go_sem]) ?_
  refine (Sv.idle _ _ _).mono ?_
  rintro e u' w2 ⟨rfl, rfl, rfl⟩
  have hl2 := load_mach _ _ (HV.out.m.far (b' := w.heap.size + 1) (o' := 0) (by omega) (.bool true)).c
  have d2 := (HV.out.qq.set 0 (.bool true) (by simp)).at 0 _ rfl
  have hsn : SlNs w.heap.size (V.setCell ⟨w.heap.size + 1, 0, none⟩ (.bool true)) S M := HV.out.put
  have hfin : Below w.heap.size w (V.setCell ⟨w.heap.size + 1, 0, none⟩ (.bool true)) := HV.out.low.setCell (by simp) _
  generalize V.setCell ⟨w.heap.size + 1, 0, none⟩ (.bool true) = w2 at *
  simp [Leaves, settle]
  refine ⟨_, ?_, S, rfl, hsn, hfin⟩
  simp only [results, Try.results15]
  simp
  show (Result.andThen (Sem.run Try.prog (loadVar 41 ⟨w.heap.size, 0, none⟩) w2) _) = _
  rw [hl2]
  show (Result.andThen (Sem.run Try.prog (loadVar 4 ⟨w.heap.size + 1, 0, none⟩) w2) _) = _
  rw [load_bool d2]
  rfl
end Go.Proofs.Ytdioiilmpjckfaa
