/-
  Parts of a proof, joined.
-/
import Derived.Test.YtlibaekomndmoaaSb28
import Derived.Test.YtlibaekomndmoaaSb00
import Derived.Test.YtlibaekomndmoaaSb19
import Derived.Test.YtlibaekomndmoaaSb13
import Derived.Test.YtlibaekomndmoaaSb12
namespace Go.Proofs.Ytlibaekomndmoaa
open Go.ChangeShapes Go.WideShapes Go.ChangeAt Go.RowKit
set_option linter.unusedVariables false
set_option maxRecDepth 100000
def SlAt (W : World) (S : Sl) (M : Mach) : Prop := ∀ j, j < 5 → sliceAt W (S.get j) (M.byt j)
theorem SlAt.kept {W W' : World} {S : Sl} {M : Mach} (h : SlAt W S M) (hb : Below W.heap.size W W') : SlAt W' S M := fun j hj => (h j hj).kept hb
theorem SlAt.lens {W : World} {S : Sl} {M : Mach} (h : SlAt W S M) : S.lens M := fun j hj => slice_len (h j hj)
theorem Bd.slAt {F : Fx} {W : World} {M : Mach} {tk : Tk} (h : Bd F W M tk) : SlAt W F.S M := fun j hj => by
  rcases five hj with rfl | rfl | rfl | rfl | rfl
  · exact h.mr.slice
  · exact h.ar.slice
  · exact h.ra.slice
  · exact h.ow.slice
  · exact h.vi.slice
theorem Bd.isSl {F : Fx} {W : World} {M : Mach} {tk : Tk} (h : Bd F W M tk) : F.S.isSl := fun j hj => by
  obtain ⟨a, c, e⟩ := h.slAt.lens j hj
  exact ⟨_, _, _, e⟩
theorem Bd.row {F : Fx} {W : World} {M : Mach} {tk : Tk} (h : Bd F W M tk) : W.rangeAt F.g 0 (machL M F.S) := fun i v hi => by
  refine h.at (0 + i) v ?_
  rw [Nat.zero_add]
  unfold Fx.cells
  rw [List.getElem?_append_left (List.getElem?_eq_some_iff.1 hi).1]
  exact hi
def Mach.rd (M : Mach) (aux : Bool) (a : Int) : Int × Mach := if aux then M.rdA a else M.rdM a
def Mach.wr (M : Mach) (aux : Bool) (a n : Int) : Mach := if aux then M.wrA a n else M.wrM a n
def SlNew (n : Nat) (S : Sl) : Prop := ∀ j, j < 5 → ∀ a m c, S.get j = .slice (some a) m c → n ≤ a.block
theorem Rw.ge {W : World} {v : Value} {k n : Nat} {l : List UInt8} (h : Rw W v k l) (hk : n ≤ k) : ∀ (a : Addr) (m c : Nat), v = .slice (Option.some a) m c → n ≤ a.block := fun a m c e => by
  rcases h with ⟨e1, _⟩ | ⟨cap, e1, _⟩
  · rw [e1] at e; cases e
  · rw [e1] at e; cases e; exact hk
theorem Bd.slNew {F : Fx} {W : World} {M : Mach} {tk : Tk} (h : Bd F W M tk) (hr : F.B ≤ F.mr ∧ F.B ≤ F.ar) : SlNew F.B F.S := fun j hj => by
  rcases five hj with rfl | rfl | rfl | rfl | rfl
  · exact h.mr.ge hr.1
  · exact h.ar.ge hr.2
  · exact h.ra.ge h.nd.lo.2.1
  · exact h.ow.ge h.nd.lo.2.2.1
  · exact h.vi.ge h.nd.lo.2.2.2
theorem SlNew.mono {n m : Nat} {S : Sl} (h : SlNew n S) (hm : m ≤ n) : SlNew m S := fun j hj a k c e => Nat.le_trans hm (h j hj a k c e)
structure RB (w : World) (F : Fx) (M : Mach) (tk : Tk) (L : List Value) (Y : World) : Prop where
  bd : Bd F Y M tk
  low : Below w.heap.size w Y
  res : Bx Y (w.heap.size + 1) L
  B : w.heap.size + 1 < F.B
  r : F.B ≤ F.mr ∧ F.B ≤ F.ar
theorem Rw.offB {W : World} {v : Value} {k b : Nat} {l : List UInt8} (h : Rw W v k l) (hn : b ≠ k) (o : Nat) (vs : List Value) : Rw (W.setCells b o vs) v k l := by
  rcases h with h | ⟨cap, e, hl, hx⟩
  · exact Or.inl h
  · exact Or.inr ⟨cap, e, hl, hx.fars hn o vs⟩
theorem RB.fin {w Y : World} {F : Fx} {M : Mach} {tk : Tk} {L L' : List Value} (h : RB w F M tk L Y) (hl : L'.length = L.length) : Below w.heap.size w (Y.setCells (w.heap.size + 1) 0 L') ∧ Bx (Y.setCells (w.heap.size + 1) 0 L') (w.heap.size + 1) L' ∧ SlAt (Y.setCells (w.heap.size + 1) 0 L') F.S M := by
  have hx := h.res.puts 0 L' (by omega)
  rw [putL_whole _ _ hl] at hx
  have lo := h.bd.nd.lo
  have hB := h.B
  have hr := h.r
  refine ⟨Bl.puts h.low (by omega) _, hx, fun j hj => ?_⟩
  rcases five hj with rfl | rfl | rfl | rfl | rfl
  · exact (h.bd.mr.offB (by omega) _ _).slice
  · exact (h.bd.ar.offB (by omega) _ _).slice
  · exact (h.bd.ra.offB (by omega) _ _).slice
  · exact (h.bd.ow.offB (by omega) _ _).slice
  · exact (h.bd.vi.offB (by omega) _ _).slice
section
variable {F : Fx} {W : World} {M M' : Mach} {tk : Tk}
theorem Bu.reads_A (a : Int) (h0 : 0 ≤ a ∧ a ≤ 1) : ReadsAt F M tk 143 a (M.lookA a) := by
  intro W h
  have hP : isPort a = false := by unfold isPort; exact decide_eq_false (by omega)
  have hl := hid (Bu.look_A h a (by omega))
  have hP' := hid hP
  have H := hid h
  clear h hP
  go_enter Try.func37, Try.ntmps37
  go_wp2_with (first
    | (go_at_call 61; refine (Bu.isPort_any a _ (by omega)).mono ?_; rw [hP'.out]; rintro e w1 ⟨rfl, rfl⟩)
    | (go_at_call 63; refine hl.out.mono ?_; rintro e w1 ⟨rfl, rfl⟩))
  go_ret
  exact ⟨rfl, H.out, Bt.refl _ _⟩
theorem Bu.reads_M (a : Int) (h0 : 0 ≤ a ∧ a ≤ 1) : ReadsAt F M tk 77 a (M.lookM a) := by
  intro W h
  have hP : isPort a = false := by unfold isPort; exact decide_eq_false (by omega)
  have hl := hid (Bu.look_M h a (by omega))
  have hP' := hid hP
  have H := hid h
  clear h hP
  go_enter Try.func37, Try.ntmps37
  go_wp2_with (first
    | (go_at_call 61; refine (Bu.isPort_any a _ (by omega)).mono ?_; rw [hP'.out]; rintro e w1 ⟨rfl, rfl⟩)
    | (go_at_call 63; refine hl.out.mono ?_; rintro e w1 ⟨rfl, rfl⟩))
  go_ret
  exact ⟨rfl, H.out, Bt.refl _ _⟩
theorem beg_ok (x y : Int) (hx : 0 ≤ x ∧ x ≤ 255) (hy : 0 ≤ y ∧ y ≤ 255) : (beginC x y).ok := by
  refine ⟨rfl, fun z hz => ?_, ?_, ?_⟩
  · have : z = 0 := by
      simp only [beginC, C.Cpu.zero, List.mem_cons, List.not_mem_nil, or_false] at hz
      omega
    omega
  · show 0 ≤ x * 256 + y; omega
  · show x * 256 + y ≤ 65535; omega
end
section
variable {F : Fx} {W : World} {M M' : Mach} {tk : Tk}
theorem lookM_bd (M : Mach) (a : Int) : 0 ≤ M.lookM a ∧ M.lookM a ≤ 255 := by
  unfold Mach.lookM romAt
  split
  · split
    · exact bget_bd _ _
    · omega
  · split
    · exact bget_bd _ _
    · split
      · exact bget_bd _ _
      · omega
end
end Go.Proofs.Ytlibaekomndmoaa
