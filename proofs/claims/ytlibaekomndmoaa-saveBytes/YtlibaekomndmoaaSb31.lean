/-
  Parts of a proof, joined.
-/
import Derived.Test.YtlibaekomndmoaaSb29
import Derived.Test.YtlibaekomndmoaaSb30
import Derived.Test.YtlibaekomndmoaaSb22
import Derived.Defers
import Derived.Recover
import Derived.Laws.Pointers
namespace Go.Proofs.Ytlibaekomndmoaa
open Go.ChangeShapes Go.WideShapes Go.ChangeAt Go.RowKit
set_option linter.unusedVariables false
set_option maxRecDepth 100000
theorem SlUn.mono {g g' : Nat} {W : World} {v : Value} {l : List UInt8} (h : SlUn g W v l) (hg : g ≤ g') : SlUn g' W v l := by
  rcases h with h | ⟨b, o, c, h1, h2, h3, h4, h5⟩
  · exact Or.inl h
  · exact Or.inr ⟨b, o, c, h1, h2, by omega, h4, h5⟩
set_option maxHeartbeats 1600000 in
theorem Sv.written (M : Mach) (S : Sl) (w : World) (hs : SlAt w S M) (hf : M.wok) :
    Calls Try.prog 14 #[.agg (machL M S).toArray] w fun e w' => ∃ v, e = .returned v ∧ w'.ownsRow w.heap.size 5 1 v (enc M).length (bcs (enc M)) ∧ Below w.heap.size w w' := by
  have hsr : Src M S w.heap.size (w.heap.size + 1) ((w.alloc (.cells (machL M S).toArray 41)).alloc (.cells #[.slice none 0 0] 68)) := by
    refine ⟨(Bx.new w (machL M S) 41 rfl).over _, by omega, fun j hj => ?_, hf⟩
    exact (((SlUn.of (hs j hj) (Nat.le_refl _)).kept (stA (stA (st0 w) _) _)).mono (by omega))
  have h0 : StW M (w.heap.size + 1) ((w.alloc (.cells (machL M S).toArray 41)).alloc (.cells #[.slice none 0 0] 68)) 0 ((w.alloc (.cells (machL M S).toArray 41)).alloc (.cells #[.slice none 0 0] 68)) :=
    ⟨⟨.slice none 0 0, Bx.new (w.alloc (.cells (machL M S).toArray 41)) [.slice none 0 0] 68 (by simp), ⟨rfl, Or.inl ⟨rfl, rfl⟩⟩⟩, Below.refl _ _⟩
  have HC := hid (Sv.carry (Sv.wcar hsr) _ h0)
  have hlo : Below w.heap.size w ((w.alloc (.cells (machL M S).toArray 41)).alloc (.cells #[.slice none 0 0] 68)) := stA (stA (st0 w) _) _
  have HLO := hid hlo
  clear hsr h0 hs hlo
  go_enter Try.func14, Try.ntmps14
  go_wp2_with (go_at_call 21; refine HC.out.mono ?_; rintro e w1 (⟨_, h1⟩ | ⟨rfl, h1⟩); exact h1.elim; obtain ⟨v, hv⟩ := h1.w; obtain ⟨a, c, ev⟩ := hv.slice; subst ev; have c0 := hv.b.at 0 _ rfl; have cz := hv.b.z; have HV := hid hv; have HL := hid (HLO.out.trans (h1.low.mono (Nat.le_succ _))); clear hv h1)
  go_ret
  have ho := HV.out.o
  have e : wrL ((svX M).take 75) = enc M := rfl
  rw [e] at ho
  refine ⟨_, rfl, ?_, HL.out⟩
  rw [e]
  refine ⟨ho.1, ?_⟩
  rcases ho.2 with h | ⟨gg, cap, cur, e1, e2, r⟩
  · exact Or.inl h
  · exact Or.inr ⟨gg, cap, cur, e1, by omega, r⟩
theorem Sv.idle (p q : Option Addr) (w : World) :
    CallsD Try.prog 22 #[.pointer p, .pointer q] .returning w fun e u' w' => e = .returned (.tuple #[]) ∧ u' = .returning ∧ w' = w := by
  refine callsD_of_wpS Try.func22 rfl fun c₀ cs hu => ?_
  apply wpS_seq
  apply wpS_region
  simp [wpOpsS, go_sem, recoverD, hu, Try.ntmps22, Exit.thenS]
  apply wpS_seq
  apply wpS_seq
  apply wpS_region
  simp [wpOpsS, go_sem, Exit.thenS]
  refine wpS_cond (t := true) (by simp [Act.eval, Array.replicate]) ?_
  simp only [if_true]
  refine wpS_of_wp (wp_ret ?_)
  cases c₀
  simp_all [Exit.thenS, bodyPostS, results, Try.results22]
theorem assert_torn (t : TypeId) (w : World) : (Instr.typeAssert (.iface 73 (.agg #[])) t 73 true).run Try.prog w = .ok (.tuple #[.agg #[], .bool true]) w := by kernel_rfl
theorem zero_again2 {V : World} {b : Nat} {L : List Value} (h : Bx V b L) (hl : L.length = 75) : Bx (V.setCells b 0 (machL zeroM nilS)) b (machL zeroM nilS) := by
  have := h.puts 0 (machL zeroM nilS) (by rw [machL_len]; omega)
  rwa [putL_whole _ _ (by rw [machL_len, hl])] at this
set_option maxHeartbeats 1600000 in
theorem Sv.torn (P Q : Nat) (L : List Value) (x : Value) (w : World) (hPQ : P ≠ Q) (h1 : Bx w P L) (hL : L.length = 75) (h2 : Bx w Q [x]) :
    CallsD Try.prog 22 #[.pointer (some ⟨P, 0, none⟩), .pointer (some ⟨Q, 0, none⟩)] (.panicking [{ v := .iface 73 (.agg #[]), recovered := false }]) w fun e u' w' =>
      e = .returned (.tuple #[]) ∧ u' = .panicking [{ v := .iface 73 (.agg #[]), recovered := true }] ∧ Bx w' P (machL zeroM nilS) ∧ Bx w' Q [.bool false] ∧ (∀ N, N ≤ P → N ≤ Q → N ≤ w.heap.size → Below N w w') := by
  have HP := hid h1
  have HQ := hid h2
  clear h1 h2
  refine callsD_of_wpS Try.func22 rfl fun c₀ cs hu => ?_
  apply wpS_seq
  apply wpS_region
  simp [wpOpsS, go_sem, recoverD, hu, Try.ntmps22, Exit.thenS]
  apply wpS_seq
  apply wpS_seq
  apply wpS_region
  simp [wpOpsS, go_sem, Exit.thenS]
  refine wpS_cond (t := false) (by simp [Act.eval, Array.replicate]) ?_
  simp only [Bool.false_eq_true, if_false]
  refine wpS_of_wp (wp_skip ?_)
  simp only [Exit.thenS]
  refine wpS_of_wp ?_
  have et : (#[Value.pointer (some ⟨P, 0, none⟩), Value.pointer (some ⟨Q, 0, none⟩)] ++
          ((((Array.replicate 15 undef).setIfInBounds 3 (Value.iface 73 (Value.agg #[]))).setIfInBounds 0 (Value.iface 73 (Value.agg #[]))).setIfInBounds 4 (Value.iface 73 (Value.agg #[]))).setIfInBounds 5 (Value.bool false)) = #[Value.pointer (some ⟨P, 0, none⟩), Value.pointer (some ⟨Q, 0, none⟩), Value.iface 73 (Value.agg #[]), undef, undef, Value.iface 73 (Value.agg #[]), Value.iface 73 (Value.agg #[]), Value.bool false, undef, undef, undef, undef, undef, undef, undef, undef, undef] := by
    apply Array.toList_inj.1
    simp [List.replicate]
  rw [et]
  clear et
  have hta := assert_torn
  have h1 := HP.out.over (.cells #[] 73)
  have h2 := HQ.out.over (.cells #[] 73)
  have H1 := hid h1
  have H2 := hid h2
  clear h1 h2
  go_wp2_with (refine wpList_store_mid rfl 41 _ _ rfl P 0 (machL zeroM nilS).toArray rfl rfl (H1.out.there 0 75 (by omega)) info_mach (machL_one _ _ zero_sl) ?_; refine Pl.cutL (fun V => Bx V P (machL zeroM nilS) ∧ Bx V Q [x] ∧ (∀ N, N ≤ P → N ≤ Q → N ≤ w.heap.size → Below N w V)) ⟨zero_again2 H1.out hL, H2.out.fars hPQ 0 _, fun N h1 h2 h3 => Pl.below h1 _ _ _ ((stA (st0 w) _).mono h3)⟩ ?_; rintro V ⟨hV1, hV2, hV3⟩; have q0 := hV2.at 0 _ rfl; have qz := hV2.z; have qf := hV2.f 0; have HV1 := hid hV1; have HV2 := hid hV2; have HV3 := hid hV3; clear hV1 hV2 hV3)
  change bodyPostS Try.prog _ c₀ cs _ _ _ _ _
  simp [bodyPostS, results, Try.results22]
  exact ⟨HV1.out.far (Ne.symm hPQ) _, HV2.out.set 0 _ (by simp), fun N h1 h2 h3 => (HV3.out N h1 h2 h3).setCell h2 _⟩
end Go.Proofs.Ytlibaekomndmoaa
