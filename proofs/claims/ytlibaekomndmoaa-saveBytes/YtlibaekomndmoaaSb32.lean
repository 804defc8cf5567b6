/-
  Parts of a proof, joined.
-/
import Derived.Test.YtlibaekomndmoaaSb31
namespace Go.Proofs.Ytlibaekomndmoaa
open Go.ChangeShapes Go.WideShapes Go.ChangeAt Go.RowKit
set_option linter.unusedVariables false
set_option maxRecDepth 100000
theorem All2.mk {B : Nat} {W : World} {c : Ct} {v : Value} {cs : List Ct} {vs : List Value} (h : c.is B W v) (t : All2 B W cs vs) : All2 B W (c :: cs) (v :: vs) := ⟨h, t⟩
theorem mach_all2 {B : Nat} {W : World} {M : Mach} {S : Sl} (h : ∀ j, j < 5 → SlNw B W (S.get j) (M.byt j)) : All2 B W (machC M) (machL M S) :=
  All2.mk rfl (All2.mk rfl (All2.mk rfl (All2.mk rfl (All2.mk rfl (All2.mk rfl (All2.mk rfl (All2.mk rfl (All2.mk rfl (All2.mk rfl (All2.mk rfl (All2.mk rfl (All2.mk rfl (All2.mk rfl (All2.mk rfl (All2.mk rfl (All2.mk rfl (All2.mk rfl (All2.mk rfl (All2.mk rfl (All2.mk rfl (All2.mk rfl (All2.mk rfl (All2.mk rfl (All2.mk rfl (All2.mk rfl (All2.mk rfl (All2.mk rfl (All2.mk rfl (All2.mk rfl (All2.mk (h 0 (by omega)) (All2.mk (h 1 (by omega)) (All2.mk (h 2 (by omega)) (All2.mk (h 3 (by omega)) (All2.mk (h 4 (by omega)) (All2.mk rfl (All2.mk rfl (All2.mk rfl (All2.mk rfl (All2.mk rfl (All2.mk rfl (All2.mk rfl (All2.mk rfl (All2.mk rfl (All2.mk rfl (All2.mk rfl (All2.mk rfl (All2.mk rfl (All2.mk rfl (All2.mk rfl (All2.mk rfl (All2.mk rfl (All2.mk rfl (All2.mk rfl (All2.mk rfl (All2.mk rfl (All2.mk rfl (All2.mk rfl (All2.mk rfl (All2.mk rfl (All2.mk rfl (All2.mk rfl (All2.mk rfl (All2.mk rfl (All2.mk rfl (All2.mk rfl (All2.mk rfl (All2.mk rfl (All2.mk rfl (All2.mk rfl (All2.mk rfl (All2.mk rfl (All2.mk rfl (All2.mk rfl (All2.mk rfl trivial))))))))))))))))))))))))))))))))))))))))))))))))))))))))))))))))))))))))))
theorem zero_nw (B : Nat) (W : World) : ∀ j, j < 5 → SlNw B W (nilS.get j) (zeroM.byt j) := fun j hj => by
  rcases five hj with rfl | rfl | rfl | rfl | rfl <;> exact Or.inl ⟨rfl, rfl⟩
def SlNs (B : Nat) (W : World) (S : Sl) (M : Mach) : Prop := ∀ j, j < 5 → SlNw B W (S.get j) (M.byt j)
theorem SlNs.at {B : Nat} {W : World} {S : Sl} {M : Mach} (h : SlNs B W S M) : SlAt W S M := fun j hj => (h j hj).slice
theorem SlNs.isSl {B : Nat} {W : World} {S : Sl} {M : Mach} (h : SlNs B W S M) : S.isSl := fun j hj => by
  obtain ⟨a, c, e⟩ := slice_len (h j hj).slice
  exact ⟨_, _, _, e⟩
theorem SlNs.kept {B : Nat} {W w1 : World} {S : Sl} {M : Mach} (h : SlNs B W S M) (hb : Below W.heap.size W w1) : SlNs B w1 S M := fun j hj => (h j hj).kept hb
theorem load_bool {Y : World} {b : Nat} {x : Bool} (h : Y.cell? ⟨b, 0, none⟩ = some (.bool x)) : (loadVar 4 ⟨b, 0, none⟩).run Try.prog Y = .ok (.bool x) Y := by
  simp [go_sem, h]
theorem take_I : svI.take 75 = svI := by kernel_rfl
theorem take_K : svK.take 75 = svK := by kernel_rfl
theorem StR.done {N g m : Nat} {l : List UInt8} {W0 W : World} {M : Mach} (h : StR N g m l (machC zeroM) W0 75 W) (hrd : rdL svK l = some (svX M, [])) : Rr N g [] W ∧ ∃ S, Bx W m (machL M S) ∧ ∀ j, j < 5 → SlNw W0.heap.size W (S.get j) (M.byt j) := by
  obtain ⟨ys, lj, h2, h3, L, h5, h6⟩ := h.r
  rw [take_K, hrd] at h2
  have h8 := Option.some.inj h2
  have e1 : svX M = ys := congrArg Prod.fst h8
  have e2 : [] = lj := congrArg Prod.snd h8
  rw [← e1, take_I, set_all] at h6
  rw [← e2] at h3
  obtain ⟨S, e, hS⟩ := all2_mach h6
  rw [e] at h5
  exact ⟨h3, S, h5, hS⟩
structure RdK (w : World) (q : Nat) (M : Mach) (S : Sl) (V : World) : Prop where
  m : Bx V w.heap.size (machL M S)
  qq : Bx V q [.bool false]
  low : Below w.heap.size w V
  s : SlNs (w.heap.size + 1 + 1 + 1) V S M
theorem RdK.of {w W0 w1 : World} {M : Mach} {S : Sl} (hx : Bx w1 w.heap.size (machL M S)) (hq : Bx W0 (w.heap.size + 1) [.bool false]) (hb : Below w.heap.size w W0) (hm : Mv w.heap.size (fun k => k = w.heap.size + 1 + 1 ∨ k = w.heap.size) (fun k => k = w.heap.size + 1 + 1 ∨ k = w.heap.size) W0 w1) (hs : ∀ j, j < 5 → SlNw W0.heap.size w1 (S.get j) (M.byt j)) (hz : w.heap.size + 1 + 1 + 1 ≤ W0.heap.size) : RdK w (w.heap.size + 1) M S (w1.setCells w.heap.size 0 (machL M S)) := by
  have h1 := hx.puts 0 (machL M S) (by rw [machL_len]; omega)
  rw [putL_whole _ _ rfl] at h1
  refine ⟨h1, (hq.same hm.size (hm.block _ hq.z (fun e => by rcases e with e | e <;> omega))).fars (by omega) 0 _, Bl.puts (hb.trans hm.below) (Nat.le_refl _) _, fun j hj => ?_⟩
  rcases hs j hj with h | ⟨b, c, e1, e2, e3, e4⟩
  · exact Or.inl h
  · exact Or.inr ⟨b, c, e1, e2, by omega, e4.fars (by omega) 0 _⟩
theorem RdK.put {w V : World} {M : Mach} {S : Sl} (h : RdK w (w.heap.size + 1) M S V) : SlNs w.heap.size (V.setCell ⟨w.heap.size + 1, 0, none⟩ (.bool true)) S M := fun j hj => by
  rcases h.s j hj with h | ⟨b, c, e1, e2, e3, e4⟩
  · exact Or.inl h
  · exact Or.inr ⟨b, c, e1, e2, by omega, e4.far (by omega) _⟩
section
variable {w : World} {a : Option Addr} {c : Nat} {l : List UInt8}
theorem rd_start (h : sliceAt w (.slice a l.length c) l) : Dst w.heap.size (w.heap.size + 1 + 1) w.heap.size (((w.alloc (.cells (machL zeroM nilS).toArray 41)).alloc (.cells #[.bool false] 4)).alloc (.cells #[.slice a l.length c] 76)) ∧ StR w.heap.size (w.heap.size + 1 + 1) w.heap.size l (machC zeroM) (((w.alloc (.cells (machL zeroM nilS).toArray 41)).alloc (.cells #[.bool false] 4)).alloc (.cells #[.slice a l.length c] 76)) 0 (((w.alloc (.cells (machL zeroM nilS).toArray 41)).alloc (.cells #[.bool false] 4)).alloc (.cells #[.slice a l.length c] 76)) ∧ Below w.heap.size w (((w.alloc (.cells (machL zeroM nilS).toArray 41)).alloc (.cells #[.bool false] 4)).alloc (.cells #[.slice a l.length c] 76)) ∧ Bx (((w.alloc (.cells (machL zeroM nilS).toArray 41)).alloc (.cells #[.bool false] 4)).alloc (.cells #[.slice a l.length c] 76)) (w.heap.size + 1) [.bool false] ∧ Bx (((w.alloc (.cells (machL zeroM nilS).toArray 41)).alloc (.cells #[.bool false] 4)).alloc (.cells #[.slice a l.length c] 76)) w.heap.size (machL zeroM nilS) := by
  have hb : Below w.heap.size w (((w.alloc (.cells (machL zeroM nilS).toArray 41)).alloc (.cells #[.bool false] 4)).alloc (.cells #[.slice a l.length c] 76)) := stA (stA (stA (st0 w) _) _) _
  have b0 : Bx (((w.alloc (.cells (machL zeroM nilS).toArray 41)).alloc (.cells #[.bool false] 4)).alloc (.cells #[.slice a l.length c] 76)) w.heap.size (machL zeroM nilS) := ((Bx.new w (machL zeroM nilS) 41 rfl).over _).over _
  refine ⟨⟨Nat.le_refl _, by omega, by simp; omega, by simp⟩, ⟨⟨[], l, rfl, ⟨by omega, a, c, Bx.new ((w.alloc (.cells (machL zeroM nilS).toArray 41)).alloc (.cells #[.bool false] 4)) [.slice a l.length c] 76 (by simp), (SlUn.of h (Nat.le_refl _)).kept hb⟩, _, b0, mach_all2 (zero_nw _ _)⟩, Mv.refl _ _ _, Kx.refl _⟩, hb, (Bx.new (w.alloc (.cells (machL zeroM nilS).toArray 41)) [.bool false] 4 (by simp)).over _, b0⟩
end
set_option maxHeartbeats 1600000 in
theorem Sv.read_torn (v : Value) (l : List UInt8) (w : World) (hv : sliceAt w v l) (hl : l.length ≤ 9223372036854775807) (hrd : rdL svK l = none) :
    Calls Try.prog 15 #[v] w fun e w' => e = .returned (.tuple #[.agg (machL zeroM nilS).toArray, .bool false]) ∧ Below w.heap.size w w' := by
  have hmf : ∀ (fn : Fn) (first cap : Array Value) (w : World), (Instr.makeFunc fn first cap).run Try.prog w = .ok (.func fn first cap) w := fun _ _ _ _ => rfl
  obtain ⟨a, c, ev⟩ := slice_len hv
  subst ev
  obtain ⟨hd, h0, hb0, hq, hz⟩ := rd_start hv
  have HC := hid (Sv.carry (Sv.rcar hd rfl hl) _ h0)
  have HD := hid hd
  have HB0 := hid hb0
  have HQ := hid hq
  have HZ := hid hz
  have HRD := hid hrd
  clear hd h0 hb0 hq hz hrd hv
  go_enter_defers Try.func15, Try.ntmps15
  go_wp2_with (go_at_call 21; refine HC.out.mono ?_; rintro e w1 (⟨rfl, h1⟩ | ⟨rfl, h1⟩); rotate_left; exact (by obtain ⟨xs, lj, h2, _⟩ := h1.r; have h3 := h2.symm.trans HRD.out; cases h3); have HM := hid h1.mv; have HK := hid h1.kx; clear h1)
  obtain ⟨L', hL1, hL2⟩ := HK.out _ _ HZ.out
  have hQ1 : Bx w1 (w.heap.size + 1) [.bool false] := HQ.out.same HM.out.size (HM.out.block _ HQ.out.z (fun e => by rcases e with e | e <;> omega))
  refine leaves_cons (f := 22) (args := #[.pointer (some ⟨w.heap.size, 0, none⟩), .pointer (some ⟨w.heap.size + 1, 0, none⟩)]) (by simp) (by simp [go_sem]) ?_
  refine (Sv.torn w.heap.size (w.heap.size + 1) L' (.bool false) _ (by omega) hL1 (by rw [hL2, machL_len]) hQ1).mono ?_
  rintro e u' w2 ⟨rfl, rfl, hP2, hQ2, hB2⟩
  have hl2 := load_mach _ _ hP2.c
  have d2 := hQ2.at 0 _ rfl
  have hfin : Below w.heap.size w w2 := (HB0.out.trans HM.out.below).trans (hB2 _ (Nat.le_refl _) (by omega) (Nat.le_trans HB0.out.size HM.out.size))
  clear hP2 hQ2 hB2 hL1 hL2 hQ1
  simp [Leaves, settle]
  refine ⟨_, ?_, rfl, hfin⟩
  simp only [results, Try.results15]
  simp
  show (Result.andThen (Sem.run Try.prog (loadVar 41 ⟨w.heap.size, 0, none⟩) w2) _) = _
  rw [hl2]
  show (Result.andThen (Sem.run Try.prog (loadVar 4 ⟨w.heap.size + 1, 0, none⟩) w2) _) = _
  rw [load_bool d2]
  rfl
set_option maxHeartbeats 1600000 in
theorem Sv.read_more (v : Value) (l : List UInt8) (w : World) (hv : sliceAt w v l) (hl : l.length ≤ 9223372036854775807) (xs : List Ct) (lx : List UInt8) (hrd : rdL svK l = some (xs, lx)) (hx : lx ≠ []) :
    Calls Try.prog 15 #[v] w fun e w' => e = .returned (.tuple #[.agg (machL zeroM nilS).toArray, .bool false]) ∧ Below w.heap.size w w' := by
  have hmf : ∀ (fn : Fn) (first cap : Array Value) (w : World), (Instr.makeFunc fn first cap).run Try.prog w = .ok (.func fn first cap) w := fun _ _ _ _ => rfl
  obtain ⟨a, c, ev⟩ := slice_len hv
  subst ev
  obtain ⟨hd, h0, hb0, hq, hz⟩ := rd_start hv
  have HC := hid (Sv.carry (Sv.rcar hd rfl hl) _ h0)
  have HD := hid hd
  have HB0 := hid hb0
  have HQ := hid hq
  have HZ := hid hz
  have HRD := hid hrd
  clear hd h0 hb0 hq hz hrd hv
  go_enter_defers Try.func15, Try.ntmps15
  go_wp2_with (first
    | (go_at_call 21; refine HC.out.mono ?_; rintro e w1 (⟨rfl, h1⟩ | ⟨rfl, h1⟩); exact (by have h3 := h1.r.symm.trans HRD.out; cases h3); have HM := hid h1.mv; have HK := hid h1.kx; obtain ⟨ys, lj, h2, h3, _⟩ := h1.r; have h4 : some (ys, lj) = some (xs, lx) := h2.symm.trans HRD.out; cases h4; have HR := hid h3; clear h1 h2 h3)
    | (go_at_call 23; refine (Sv.end_no _ HR.out hx).mono ?_; rintro e w9 ⟨rfl, rfl⟩))
  obtain ⟨L', hL1, hL2⟩ := HK.out _ _ HZ.out
  have hQ1 : Bx w1 (w.heap.size + 1) [.bool false] := HQ.out.same HM.out.size (HM.out.block _ HQ.out.z (fun e => by rcases e with e | e <;> omega))
  refine leaves_cons (f := 22) (args := #[.pointer (some ⟨w.heap.size, 0, none⟩), .pointer (some ⟨w.heap.size + 1, 0, none⟩)]) (by simp) (by simp [go_sem]) ?_
  refine (Sv.torn w.heap.size (w.heap.size + 1) L' (.bool false) _ (by omega) hL1 (by rw [hL2, machL_len]) hQ1).mono ?_
  rintro e u' w2 ⟨rfl, rfl, hP2, hQ2, hB2⟩
  have hl2 := load_mach _ _ hP2.c
  have d2 := hQ2.at 0 _ rfl
  have hfin : Below w.heap.size w w2 := (HB0.out.trans HM.out.below).trans (hB2 _ (Nat.le_refl _) (by omega) (Nat.le_trans HB0.out.size HM.out.size))
  clear hP2 hQ2 hB2 hL1 hL2 hQ1
  simp [Leaves, settle]
  refine ⟨_, ?_, rfl, hfin⟩
  simp only [results, Try.results15]
  simp
  show (Result.andThen (Sem.run Try.prog (loadVar 41 ⟨w.heap.size, 0, none⟩) w2) _) = _
  rw [hl2]
  show (Result.andThen (Sem.run Try.prog (loadVar 4 ⟨w.heap.size + 1, 0, none⟩) w2) _) = _
  rw [load_bool d2]
  rfl
set_option maxHeartbeats 1600000 in
theorem Sv.read_ok (v : Value) (l : List UInt8) (w : World) (hv : sliceAt w v l) (hl : l.length ≤ 9223372036854775807) (M : Mach) (hrd : rdL svK l = some (svX M, [])) :
    Calls Try.prog 15 #[v] w fun e w' => ∃ S, e = .returned (.tuple #[.agg (machL M S).toArray, .bool true]) ∧ SlNs w.heap.size w' S M ∧ Below w.heap.size w w' := by
  have hmf : ∀ (fn : Fn) (first cap : Array Value) (w : World), (Instr.makeFunc fn first cap).run Try.prog w = .ok (.func fn first cap) w := fun _ _ _ _ => rfl
  obtain ⟨a, c, ev⟩ := slice_len hv
  subst ev
  obtain ⟨hd, h0, hb0, hq, hz⟩ := rd_start hv
  have HC := hid (Sv.carry (Sv.rcar hd rfl hl) _ h0)
  have HD := hid hd
  have HB0 := hid hb0
  have HQ := hid hq
  have HZ := hid hz
  have HRD := hid hrd
  clear hd h0 hb0 hq hz hrd hv
  go_enter_defers Try.func15, Try.ntmps15
  go_wp2_with (first
    | (go_at_call 21; refine HC.out.mono ?_; rintro e w1 (⟨rfl, h1⟩ | ⟨rfl, h1⟩); exact (by have h3 := h1.r.symm.trans HRD.out; cases h3); have HM := hid h1.mv; have HK := hid h1.kx; obtain ⟨h3, S, h5, hS⟩ := h1.done HRD.out; have HR := hid h3; have HX := hid h5; have HS := hid hS; clear h1 h3 h5 hS)
    | (go_at_call 23; refine (Sv.end_ok _ HR.out).mono ?_; rintro e w9 ⟨rfl, rfl⟩)
    | (refine wpList_load_mid rfl 41 _ rfl w.heap.size 0 rfl (machL M S) _ HX.out.c Try.underlying41 rfl info_mach ?_)
    | (refine wpList_store_mid rfl 41 _ _ rfl w.heap.size 0 (machL M S).toArray rfl rfl (HX.out.there 0 75 (by rw [machL_len]; omega)) info_mach (machL_one _ _ (SlNs.isSl (B := _) (W := w1) (M := M) HS.out)) ?_; refine Pl.cutL (RdK w (w.heap.size + 1) M S) ?_ ?_; exact RdK.of HX.out HQ.out HB0.out HM.out HS.out (by simp); intro V hV; have q0 := hV.qq.at 0 _ rfl; have qz := hV.qq.z; have qf := hV.qq.f 0; have HV := hid hV; clear hV))
  refine leaves_cons (f := 22) (args := #[.pointer (some ⟨w.heap.size, 0, none⟩), .pointer (some ⟨w.heap.size + 1, 0, none⟩)]) (by simp) (by simp [go_sem]) ?_
  refine (Sv.idle _ _ _).mono ?_
  rintro e u' w2 ⟨rfl, rfl, rfl⟩
  have hl2 := load_mach _ _ (HV.out.m.far (b' := w.heap.size + 1) (o' := 0) (by omega) (.bool true)).c
  have d2 := (HV.out.qq.set 0 (.bool true) (by simp)).at 0 _ rfl
  have hsn : SlNs w.heap.size (V.setCell ⟨w.heap.size + 1, 0, none⟩ (.bool true)) S M := HV.out.put
  have hfin : Below w.heap.size w (V.setCell ⟨w.heap.size + 1, 0, none⟩ (.bool true)) := HV.out.low.setCell (by simp) _
  generalize V.setCell ⟨w.heap.size + 1, 0, none⟩ (.bool true) = w2 at *
  simp [Leaves, settle]
  refine ⟨_, ?_, S, rfl, hsn, hfin⟩
  simp only [results, Try.results15]
  simp
  show (Result.andThen (Sem.run Try.prog (loadVar 41 ⟨w.heap.size, 0, none⟩) w2) _) = _
  rw [hl2]
  show (Result.andThen (Sem.run Try.prog (loadVar 4 ⟨w.heap.size + 1, 0, none⟩) w2) _) = _
  rw [load_bool d2]
  rfl
end Go.Proofs.Ytlibaekomndmoaa
