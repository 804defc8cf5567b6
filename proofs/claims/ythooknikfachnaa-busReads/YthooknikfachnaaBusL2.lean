/-
  Package bus: a processor that begins.
-/
import Derived.Test.YthooknikfachnaaBusL1
namespace Go.Proofs.Ythooknikfachnaa
open Go.ChangeShapes Go.WideShapes Go.ChangeAt Go.RowKit
set_option linter.unusedVariables false
set_option maxRecDepth 100000

section
variable {F : Fx} {W : World} {M M' : Mach} {tk : Tk}
def begL (x : Int) : List Value := [.int .u16 0, .int .u16 0, .int .u16 0, .int .u16 0, .int .u16 0, .int .u16 0, .int .u16 0, .int .u16 0, .int .u16 x, .bool false, .bool false, .bool false, .bool false, .bool false, .bool false]
theorem begL_eq (hi lo : Int) : begL (hi * 256 + lo) = cpuL (beginC hi lo) := rfl
theorem info_cpu : (Try.prog.info? 26).map (·.size) = some 15 := by kernel_rfl
theorem beg_one (x : Int) : (#[.int .u16 0, .int .u16 0, .int .u16 0, .int .u16 0, .int .u16 0, .int .u16 0, .int .u16 0, .int .u16 0, .int .u16 x, .bool false, .bool false, .bool false, .bool false, .bool false, .bool false] : Array Value).all (·.oneCell') = true := by simp [Value.oneCell']
theorem load_beg {Y : World} {b : Nat} {x : Int} (h : Bx Y b (begL x)) : (loadVar 26 ⟨b, 0, none⟩).run Try.prog Y = .ok (.agg (begL x).toArray) Y :=
  run_loadVar_mid Y b 0 26 _ _ h.c Try.underlying26 rfl info_cpu
theorem Rw.off {v : Value} {k : Nat} {l0 l : List UInt8} {w1 : World} {b : Nat} (h0 : Rw W v k l0) (h : Rw w1 v k l) (hb : W.heap.size ≤ b) (o : Nat) (vs : List Value) : Rw (w1.setCells b o vs) v k l := by
  rcases h with h | ⟨cap, e, hl, hx⟩
  · exact Or.inl h
  · rcases h0 with ⟨e0, _⟩ | ⟨cap0, e0, _, hx0⟩
    · rw [e0] at e; cases e
    · exact Or.inr ⟨cap, e, hl, hx.fars (by have := hx0.z; omega) o vs⟩
/-- A box that was made behind the board is written. -/
theorem Bd.off {M0 : Mach} {w1 : World} {b : Nat} (h0 : Bd F W M0 tk) (h : Bd F w1 M tk) (hb : W.heap.size ≤ b) (o : Nat) (vs : List Value) : Bd F (w1.setCells b o vs) M tk := by
  refine ⟨h.bx.fars (by have := h0.bx.z; omega) o vs, h0.mr.off h.mr hb o vs, h0.ar.off h.ar hb o vs, h0.ra.off h.ra hb o vs, h0.ow.off h.ow hb o vs, h0.vi.off h.vi hb o vs, fun x u hx => ?_, h.nd, h.fit, by rw [size_sets]; exact h.big, ows_of h.ws (fun k hk => heap_sets_far (by have := (h0.ws.lt k hk).2; omega) _ _ _), h.wd⟩
  have hn : x ≠ b := by have := (h0.env x u hx).1; omega
  obtain ⟨e1, e2⟩ := h.env x u hx
  exact ⟨by rw [size_sets]; exact e1, (World.cell?_of_block (w := w1) (heap_sets_far hn _ _ _)).trans e2⟩
theorem Bt.off {b : Nat} (hB : F.B ≤ W.heap.size) (hb : W.heap.size ≤ b) : ∀ (vs : List Value) (o : Nat) (w1 : World), Bt F W w1 → Bt F W (w1.setCells b o vs)
  | [], o, w1, h => h
  | v :: vs, o, w1, h => Bt.off hB hb vs (o + 1) _ (Mv.setCell h (Nat.le_trans hB hb) (Or.inr hb) v)
theorem Bt.below (h : Bd F W M tk) {w0 : World} (hb : Below W.heap.size W w0) : Bt F W w0 := Mv.of_below h.big hb
set_option maxHeartbeats 1600000 in
theorem Bu.begin_any (h : Bd F W M tk) (o : Nat) (x0 x1 : Int) (h0 : ReadsAt F M tk o 0 x0) (h1 : ReadsAt F M tk o 1 x1) (b0 : 0 ≤ x0 ∧ x0 ≤ 255) (b1 : 0 ≤ x1 ∧ x1 ≤ 255) :
    Calls Try.prog 22 #[reachV F.g o] W fun e w' => e = .returned (.agg (begL (x0 * 256 + x1)).toArray) ∧ Bd F w' M tk ∧ Bt F W w' := by
  have H := hid h
  have hB := h.big
  clear h
  go_enter Try.func22, Try.ntmps22
  go_wp2_with (first
    | (go_at_call 49; refine (Bu.word_at ((H.out.over _).over _) o x0 x1 h0 h1 b0 b1).mono ?_; rintro e w1 ⟨rfl, hB1, hT1⟩; have HX := hid (Bx.same (Bx.new _ (begL 0) _ (by simp)) hT1.size (hT1.block (W.heap.size + 1) (by simp) (fun ht => (H.out.over (.cells #[mval 50 F.g o, mval 51 F.g o] 73)).fresh (by simpa using ht)))); have HB1 := hid hB1; have HT1 := hid hT1; clear hB1 hT1)
    | (refine wpList_store_mid rfl 26 _ _ rfl (W.heap.size + 1) 0 _ rfl rfl (Bx.there HX.out 0 15 (by simp [begL])) info_cpu (beg_one _) ?_
       refine Pl.cutL (fun Y => Bd F Y M tk ∧ Bt F W Y ∧ Bx Y (W.heap.size + 1) (begL (x0 * 256 + x1))) ⟨?_, ?_, ?_⟩ ?_
       · exact Bd.off H.out HB1.out (Nat.le_succ _) 0 _
       · exact Bt.off hB (Nat.le_succ _) _ 0 _ (Mv.trans (Bt.below H.out (stA (stA (st0 _) _) _)) HT1.out)
       · exact HX.out.puts 0 (begL (x0 * 256 + x1)) (by simp [begL])
       rintro Y ⟨hY1, hY2, hY3⟩
       have HY1 := hid hY1
       have HY2 := hid hY2
       have HY3 := hid hY3
       clear hY1 hY2 hY3))
  exact bodyPost_ret (v := .agg _) (by simp only [results, Try.results22]; simp; exact Pl.res (load_beg HY3.out)) rfl ⟨rfl, HY1.out, HY2.out⟩
end
end Go.Proofs.Ythooknikfachnaa
