/-
  Parts of a proof, joined.
-/
import Derived.Test.YtlibaekomndmoaaSb12
namespace Go.Proofs.Ytlibaekomndmoaa
open Go.ChangeShapes Go.WideShapes Go.ChangeAt Go.RowKit
set_option linter.unusedVariables false
set_option maxRecDepth 100000
section
variable {F : Fx} {W : World} {M M' : Mach} {tk : Tk}
def begL (x : Int) : List Value := [.int .u16 0, .int .u16 0, .int .u16 0, .int .u16 0, .int .u16 0, .int .u16 0, .int .u16 0, .int .u16 0, .int .u16 x, .bool false, .bool false, .bool false, .bool false, .bool false, .bool false]
theorem begL_eq (hi lo : Int) : begL (hi * 256 + lo) = cpuL (beginC hi lo) := rfl
theorem info_cpu : (Try.prog.info? 25).map (·.size) = some 15 := by kernel_rfl
theorem beg_one (x : Int) : (#[.int .u16 0, .int .u16 0, .int .u16 0, .int .u16 0, .int .u16 0, .int .u16 0, .int .u16 0, .int .u16 0, .int .u16 x, .bool false, .bool false, .bool false, .bool false, .bool false, .bool false] : Array Value).all (·.oneCell') = true := by simp [Value.oneCell']
theorem load_beg {Y : World} {b : Nat} {x : Int} (h : Bx Y b (begL x)) : (loadVar 25 ⟨b, 0, none⟩).run Try.prog Y = .ok (.agg (begL x).toArray) Y :=
  run_loadVar_mid Y b 0 25 _ _ h.c Try.underlying25 rfl info_cpu
theorem Rw.off {v : Value} {k : Nat} {l0 l : List UInt8} {w1 : World} {b : Nat} (h0 : Rw W v k l0) (h : Rw w1 v k l) (hb : W.heap.size ≤ b) (o : Nat) (vs : List Value) : Rw (w1.setCells b o vs) v k l := by
  rcases h with h | ⟨cap, e, hl, hx⟩
  · exact Or.inl h
  · rcases h0 with ⟨e0, _⟩ | ⟨cap0, e0, _, hx0⟩
    · rw [e0] at e; cases e
    · exact Or.inr ⟨cap, e, hl, hx.fars (by have := hx0.z; omega) o vs⟩
theorem Bd.off {M0 : Mach} {w1 : World} {b : Nat} (h0 : Bd F W M0 tk) (h : Bd F w1 M tk) (hb : W.heap.size ≤ b) (o : Nat) (vs : List Value) : Bd F (w1.setCells b o vs) M tk := by
  refine ⟨h.bx.fars (by have := h0.bx.z; omega) o vs, h0.mr.off h.mr hb o vs, h0.ar.off h.ar hb o vs, h0.ra.off h.ra hb o vs, h0.ow.off h.ow hb o vs, h0.vi.off h.vi hb o vs, fun x u hx => ?_, h.nd, h.fit, by rw [size_sets]; exact h.big, ows_of h.ws (fun k hk => heap_sets_far (by have := (h0.ws.lt k hk).2; omega) _ _ _), h.wd⟩
  have hn : x ≠ b := by have := (h0.env x u hx).1; omega
  obtain ⟨e1, e2⟩ := h.env x u hx
  exact ⟨by rw [size_sets]; exact e1, (World.cell?_of_block (w := w1) (heap_sets_far hn _ _ _)).trans e2⟩
theorem Bt.off {b : Nat} (hB : F.B ≤ W.heap.size) (hb : W.heap.size ≤ b) : ∀ (vs : List Value) (o : Nat) (w1 : World), Bt F W w1 → Bt F W (w1.setCells b o vs)
  | [], o, w1, h => h
  | v :: vs, o, w1, h => Bt.off hB hb vs (o + 1) _ (Mv.setCell h (Nat.le_trans hB hb) (Or.inr hb) v)
theorem Bt.below (h : Bd F W M tk) {w0 : World} (hb : Below W.heap.size W w0) : Bt F W w0 := Mv.of_below h.big hb
set_option maxHeartbeats 1600000 in
theorem Bu.begin_any (h : Bd F W M tk) (o : Nat) (x0 x1 : Int) (h0 : ReadsAt F M tk o 0 x0) (h1 : ReadsAt F M tk o 1 x1) (b0 : 0 ≤ x0 ∧ x0 ≤ 255) (b1 : 0 ≤ x1 ∧ x1 ≤ 255) :
    Calls Try.prog 25 #[reachV F.g o] W fun e w' => e = .returned (.agg (begL (x0 * 256 + x1)).toArray) ∧ Bd F w' M tk ∧ Bt F W w' := by
  have H := hid h
  have hB := h.big
  clear h
  go_enter Try.func25, Try.ntmps25
  go_wp2_with (first
    | (go_at_call 36; refine (Bu.word_at ((H.out.over _).over _) o x0 x1 h0 h1 b0 b1).mono ?_; rintro e w1 ⟨rfl, hB1, hT1⟩; have HX := hid (Bx.same (Bx.new _ (begL 0) _ (by simp)) hT1.size (hT1.block (W.heap.size + 1) (by simp) (fun ht => (H.out.over (.cells #[mval 37 F.g o, mval 38 F.g o] 85)).fresh (by simpa using ht)))); have HB1 := hid hB1; have HT1 := hid hT1; clear hB1 hT1)
    | (refine wpList_store_mid rfl 25 _ _ rfl (W.heap.size + 1) 0 _ rfl rfl (Bx.there HX.out 0 15 (by simp [begL])) info_cpu (beg_one _) ?_
       refine Pl.cutL (fun Y => Bd F Y M tk ∧ Bt F W Y ∧ Bx Y (W.heap.size + 1) (begL (x0 * 256 + x1))) ⟨?_, ?_, ?_⟩ ?_
       · exact Bd.off H.out HB1.out (Nat.le_succ _) 0 _
       · exact Bt.off hB (Nat.le_succ _) _ 0 _ (Mv.trans (Bt.below H.out (stA (stA (st0 _) _) _)) HT1.out)
       · exact HX.out.puts 0 (begL (x0 * 256 + x1)) (by simp [begL])
       rintro Y ⟨hY1, hY2, hY3⟩
       have HY1 := hid hY1
       have HY2 := hid hY2
       have HY3 := hid hY3
       clear hY1 hY2 hY3))
  exact bodyPost_ret (v := .agg _) (by simp only [results, Try.results25]; simp; exact Pl.res (load_beg HY3.out)) rfl ⟨rfl, HY1.out, HY2.out⟩
end
theorem putL_mid (C : List Value) : ∀ (B' B A : List Value), B'.length = B.length → putL (A ++ (B ++ C)) A.length B' = A ++ (B' ++ C)
  | [], [], A, _ => rfl
  | v :: vs, b :: bs, A, h => by
    have e : (A ++ (b :: bs ++ C)).set A.length v = (A ++ [v]) ++ (bs ++ C) := by simp
    have ih := putL_mid C vs bs (A ++ [v]) (by simpa using h)
    simp only [List.length_append, List.length_cons, List.length_nil, Nat.zero_add] at ih
    show putL ((A ++ (b :: bs ++ C)).set A.length v) (A.length + 1) vs = _
    rw [e, ih]
    simp
def sndL (s : Sd) : List Value := [.int .u16 s.a.p, .int .u16 s.a.c, .int .u8 s.a.l, .bool s.a.h, .int .u16 s.a.n, .int .u16 s.b.p, .int .u16 s.b.c, .int .u8 s.b.l, .bool s.b.h, .int .u16 s.b.n, .int .u16 s.c.p, .int .u16 s.c.c, .int .u8 s.c.l, .bool s.c.h, .int .u16 s.c.n, .int .i64 s.w]
theorem Fx.putMain (F : Fx) (M : Mach) (tk : Tk) (c : C.Cpu) : putL (F.cells M tk) 0 (cpuL c) = F.cells { M with main := c } tk := by
  unfold Fx.cells machL
  rw [List.append_assoc]
  exact putL_mid _ (cpuL c) (cpuL M.main) [] rfl
theorem own_emptyB {w : World} {g B : Nat} (hg : w.heap[g]? = some (.cells #[] 5 (0, 0))) (hB : B ≤ g) : w.ownsRow B 5 1 (.slice (some ⟨g, 0, none⟩) 0 0) ([] : List UInt8).length (bcs []) :=
  ⟨rfl, Or.inr ⟨g, 0, #[], rfl, hB, hg, Nat.le_refl _, by decide, by simp, by simp [bcs]⟩⟩
theorem own_rw {w : World} {B : Nat} {v : Value} {l : List UInt8} (h : w.ownsRow B 5 1 v l.length (bcs l)) : (v = .slice none 0 0 ∧ l = []) ∨ ∃ k cap, v = .slice (some ⟨k, 0, none⟩) l.length cap ∧ l.length ≤ cap ∧ B ≤ k ∧ Bx w k (bcs l) := by
  rcases h.2 with ⟨rfl, h0⟩ | ⟨g, cap, cur, rfl, hb, hg, hn, hm, hs, ht⟩
  · exact Or.inl ⟨rfl, List.length_eq_zero_iff.1 h0⟩
  · refine Or.inr ⟨g, cap, rfl, hn, hb, (Array.getElem?_eq_some_iff.1 hg).1, fun j c hj => ?_, fun o => Lib.frozen_of_heap hg o⟩
    have hjl := (List.getElem?_eq_some_iff.1 hj).1
    rw [bcs_len] at hjl
    rw [Nat.zero_add, Lib.cell_of_heap hg j]
    have e : cur[j]? = (cur.toList.take (l.length * 1))[j]? := by rw [List.getElem?_take, if_pos (by omega)]; simp
    rw [e, ht, hj]
theorem nil_eq2 (n c : Nat) (w : World) : (binOp .eql 26 (.slice none n c) (.slice none 0 0)).run Try.prog w = .ok (.bool true) w := by kernel_rfl
theorem nil_ne (a : Addr) (n c : Nat) (w : World) : (binOp .eql 26 (.slice (some a) n c) (.slice none 0 0)).run Try.prog w = .ok (.bool false) w := by kernel_rfl
theorem Bu.clone_any (v : Value) (l : List UInt8) (w : World) (h : sliceAt w v l) (hl : l.length ≤ 100000) :
    Calls Try.prog 39 #[v] w fun e w' => ∃ v', e = .returned v' ∧ w'.ownsRow w.heap.size 5 1 v' l.length (bcs l) ∧ Below w.heap.size w w' := by
  obtain ⟨a, c, rfl⟩ := slice_len h
  cases a with
  | none =>
    have h0 : l = [] := by
      rcases h with ⟨_, _, _, h2⟩ | ⟨g, o, cap, h1, _⟩
      · exact h2
      · cases h1
    subst h0
    have hn := nil_eq2 0 c
    go_enter Try.func39, Try.ntmps39
    go_wp2
    go_ret
    exact ⟨_, rfl, ⟨rfl, Or.inl ⟨rfl, rfl⟩⟩, st0 _⟩
  | some a =>
    have hn := nil_ne a l.length c
    have H := hid h
    clear h
    go_enter Try.func39, Try.ntmps39
    go_wp2_with (at_builtin; refine wpList_appSlice (by rfl) _ _ (by rfl) w.heap.size _ ([] : List UInt8) (by rfl) (own_emptyB (heap_alloc_new w _) (Nat.le_refl _)) _ (by rfl) l (H.out.kept (stA (st0 w) _)) (by simp; exact hl) (by simp) ?_; intro v' w' hown' hb')
    go_ret
    exact ⟨_, rfl, by simpa using hown', (stA (st0 w) _).trans hb'⟩
def Sl.get (S : Sl) (j : Nat) : Value := match j with | 0 => S.mr | 1 => S.ar | 2 => S.ra | 3 => S.ow | _ => S.vi
def Sl.set (S : Sl) (j : Nat) (v : Value) : Sl := match j with | 0 => { S with mr := v } | 1 => { S with ar := v } | 2 => { S with ra := v } | 3 => { S with ow := v } | _ => { S with vi := v }
def Mach.byt (M : Mach) (j : Nat) : List UInt8 := match j with | 0 => M.mrom | 1 => M.arom | 2 => M.ram | 3 => M.own | _ => M.video
theorem five {j : Nat} (h : j < 5) : j = 0 ∨ j = 1 ∨ j = 2 ∨ j = 3 ∨ j = 4 := by omega
theorem Sl.get_set (S : Sl) (i j : Nat) (v : Value) (hi : i < 5) (hj : j < 5) : (S.set i v).get j = if j = i then v else S.get j := by
  rcases five hi with rfl | rfl | rfl | rfl | rfl <;> rcases five hj with rfl | rfl | rfl | rfl | rfl <;> rfl
theorem machL_at (M : Mach) (S : Sl) (j : Nat) (hj : j < 5) : (machL M S)[30 + j]? = some (S.get j) := by
  rcases five hj with rfl | rfl | rfl | rfl | rfl <;> rfl
theorem machL_set (M : Mach) (S : Sl) (j : Nat) (v : Value) (hj : j < 5) : (machL M S).set (30 + j) v = machL M (S.set j v) := by
  rcases five hj with rfl | rfl | rfl | rfl | rfl <;> rfl
theorem info_mach : (Try.prog.info? 41).map (·.size) = some 75 := by kernel_rfl
theorem load_mach {Y : World} {b o : Nat} (M : Mach) (S : Sl) (h : Y.rangeAt b o (machL M S)) : (loadVar 41 ⟨b, o, none⟩).run Try.prog Y = .ok (.agg (machL M S).toArray) Y :=
  run_loadVar_mid Y b o 41 _ _ h Try.underlying41 rfl info_mach
def Sl.isSl (S : Sl) : Prop := ∀ j, j < 5 → ∃ a n c, S.get j = .slice a n c
theorem machL_one (M : Mach) (S : Sl) (h : S.isSl) : (machL M S).toArray.all (·.oneCell') = true := by
  obtain ⟨a0, n0, c0, e0⟩ := h 0 (by omega)
  obtain ⟨a1, n1, c1, e1⟩ := h 1 (by omega)
  obtain ⟨a2, n2, c2, e2⟩ := h 2 (by omega)
  obtain ⟨a3, n3, c3, e3⟩ := h 3 (by omega)
  obtain ⟨a4, n4, c4, e4⟩ := h 4 (by omega)
  simp only [Sl.get] at e0 e1 e2 e3 e4
  unfold machL cpuL slL restL
  rw [e0, e1, e2, e3, e4]
  simp [Value.oneCell']
end Go.Proofs.Ytlibaekomndmoaa
