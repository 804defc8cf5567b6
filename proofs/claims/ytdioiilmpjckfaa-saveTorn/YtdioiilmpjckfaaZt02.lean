/-
  Parts of a proof, joined.
-/
import Derived.Test.YtdioiilmpjckfaaZt01
import Derived.Test.YtdioiilmpjckfaaZt00
import Derived.Deep.RegionLaw
namespace Go.Proofs.Ytdioiilmpjckfaa
open Go.ChangeShapes Go.WideShapes Go.ChangeAt Go.RowKit
set_option linter.unusedVariables false
set_option maxRecDepth 100000
theorem Bx.same {W w1 : World} {b : Nat} {L : List Value} (h : Bx W b L) (hz : W.heap.size ≤ w1.heap.size) (e : w1.heap[b]? = W.heap[b]?) : Bx w1 b L :=
  ⟨Nat.lt_of_lt_of_le h.z hz, fun j v hj => (World.cell?_of_block (w := W) e).trans (h.c j v hj), fun o => (World.frozen?_of_block (w := W) e).trans (h.f o)⟩
abbrev pt (g o : Nat) : Value := .pointer (some ⟨g, o, none⟩)
abbrev mval (n g o : Nat) : Value := .func (.func n) #[pt g o] #[]
abbrev fval (n : Nat) (cs : Array Value) : Value := .func (.func n) #[] cs
def Rw (W : World) (v : Value) (k : Nat) (l : List UInt8) : Prop := (v = .slice none 0 0 ∧ l = []) ∨ ∃ cap, v = .slice (some ⟨k, 0, none⟩) l.length cap ∧ l.length ≤ cap ∧ Bx W k (bcs l)
theorem Rw.same {W w1 : World} {v : Value} {k : Nat} {l : List UInt8} (h : Rw W v k l) (hz : W.heap.size ≤ w1.heap.size) (e : k < W.heap.size → w1.heap[k]? = W.heap[k]?) : Rw w1 v k l := by
  rcases h with h | ⟨cap, h1, h2, h3⟩
  · exact Or.inl h
  · exact Or.inr ⟨cap, h1, h2, h3.same hz (e h3.z)⟩
theorem Rw.slice {W : World} {v : Value} {k : Nat} {l : List UInt8} (h : Rw W v k l) : sliceAt W v l := by
  rcases h with ⟨rfl, rfl⟩ | ⟨cap, h1, h2, h3⟩
  · exact Or.inl ⟨none, 0, rfl, rfl⟩
  · refine Or.inr ⟨k, 0, cap, h1, h2, h3.z, fun j c hj => ?_⟩
    rw [Nat.zero_add]
    refine h3.at j _ ?_
    simp [bcs, hj]
theorem Rw.some {W : World} {v : Value} {k : Nat} {l : List UInt8} (h : Rw W v k l) (hl : 0 < l.length) : ∃ cap, v = .slice (some ⟨k, 0, none⟩) l.length cap ∧ l.length ≤ cap ∧ Bx W k (bcs l) := by
  rcases h with ⟨_, rfl⟩ | h
  · simp at hl
  · exact h
theorem bcs_len (l : List UInt8) : (bcs l).length = l.length := by simp [bcs]
theorem bget_bd (l : List UInt8) (i : Int) : 0 ≤ bget l i ∧ bget l i ≤ 255 := by
  unfold bget
  have := (l.getD i.toNat 0).toNat_lt
  omega
theorem bcs_at (l : List UInt8) (i : Int) (h0 : 0 ≤ i) (h : i < l.length) : (bcs l)[i.toNat]? = some (.int .u8 (bget l i)) := by
  have hi : i.toNat < l.length := by omega
  simp [bcs, bget, List.getD, List.getElem?_eq_getElem hi]
theorem bcs_set (l : List UInt8) (i x : Int) (hx : 0 ≤ x ∧ x ≤ 255) : (bcs l).set i.toNat (.int .u8 x) = bcs (bput l i x) := by
  unfold bcs bput
  rw [List.map_set]
  congr 2
  rw [UInt8.toNat_ofNat']
  omega
theorem bput_len (l : List UInt8) (i x : Int) : (bput l i x).length = l.length := by simp [bput]
structure Env where
  mb : Nat
  q0 : Nat
  w0 : Nat
  q1 : Nat
  w1 : Nat
  h2 : Nat
  h3 : Nat
  h10 : Nat
  h11 : Nat
  h12 : Nat
  h13 : Nat
  ab : Nat
  sb : Nat → Nat
  sa : Nat → Nat
structure Fx where
  B : Nat
  g : Nat
  mr : Nat
  ar : Nat
  ra : Nat
  ow : Nat
  vi : Nat
  S : Sl
  E : Env
def Fx.T (F : Fx) (x : Nat) : Prop := x = F.g ∨ x = F.ra ∨ x = F.ow ∨ x = F.vi
inductive Fx.has (F : Fx) : Nat → Value → Prop
  | mb : F.has F.E.mb (pt F.g 0)
  | q0 : F.has F.E.q0 (pt F.g 0)
  | w0 : F.has F.E.w0 (.int .i64 0)
  | q1 : F.has F.E.q1 (pt F.g 0)
  | w1 : F.has F.E.w1 (.int .i64 1)
  | h2 : F.has F.E.h2 (pt F.g 41)
  | h3 : F.has F.E.h3 (pt F.g 41)
  | h10 : F.has F.E.h10 (pt F.g 65)
  | h11 : F.has F.E.h11 (pt F.g 65)
  | h12 : F.has F.E.h12 (pt F.g 66)
  | h13 : F.has F.E.h13 (pt F.g 66)
  | ab : F.has F.E.ab (pt F.g 0)
  | sb (i : Nat) (h : i < 24) : F.has (F.E.sb i) (pt F.g 0)
  | sa (i : Nat) (h : i < 24) : F.has (F.E.sa i) (.int .i64 i)
def Fx.rdM (F : Fx) (i : Nat) : Value :=
  match i with
  | 0 => fval 65 #[pt F.E.q0 0, pt F.E.w0 0]
  | 1 => fval 65 #[pt F.E.q1 0, pt F.E.w1 0]
  | 4 => mval 45 F.g 0
  | 6 => fval 47 #[pt F.E.mb 0]
  | 7 => fval 48 #[pt F.E.mb 0]
  | 8 => mval 49 F.g 0
  | 16 => mval 52 F.g 0
  | 17 => fval 54 #[pt F.E.mb 0]
  | _ => .nilFunc
def Fx.wrM (F : Fx) (i : Nat) : Value :=
  match i with
  | 0 => mval 42 F.g 0
  | 2 => fval 68 #[pt F.E.h2 0]
  | 3 => fval 70 #[pt F.E.h3 0]
  | 4 => mval 46 F.g 0
  | 8 => mval 50 F.g 0
  | 10 => fval 68 #[pt F.E.h10 0]
  | 11 => fval 70 #[pt F.E.h11 0]
  | 12 => fval 68 #[pt F.E.h12 0]
  | 13 => fval 70 #[pt F.E.h13 0]
  | 14 => mval 51 F.g 0
  | 16 => mval 53 F.g 0
  | 17 => mval 55 F.g 0
  | _ => .nilFunc
def Fx.rdA (F : Fx) (i : Nat) : Value := if i = 24 then mval 56 F.g 0 else .nilFunc
def Fx.wrA (F : Fx) (i : Nat) : Value := if i < 24 then fval 74 #[pt (F.E.sb i) 0, pt (F.E.sa i) 0] else if i = 24 then fval 57 #[pt F.E.ab 0] else .nilFunc
def portsN (r w : Nat → Value) : Nat → List Value
  | 0 => []
  | n + 1 => portsN r w n ++ [r n, w n]
theorem portsN_len (r w : Nat → Value) : ∀ n, (portsN r w n).length = 2 * n
  | 0 => rfl
  | n + 1 => by rw [portsN, List.length_append, portsN_len r w n]; simp; omega
theorem portsN_at (r w : Nat → Value) : ∀ n i, i < n → (portsN r w n)[2 * i]? = some (r i) ∧ (portsN r w n)[2 * i + 1]? = some (w i)
  | 0, i, h => by omega
  | n + 1, i, h => by
    rw [portsN]
    by_cases e : i < n
    · obtain ⟨h1, h2⟩ := portsN_at r w n i e
      rw [List.getElem?_append_left (by rw [portsN_len]; omega), List.getElem?_append_left (by rw [portsN_len]; omega)]
      exact ⟨h1, h2⟩
    · obtain rfl : i = n := by omega
      rw [List.getElem?_append_right (by rw [portsN_len]; omega), List.getElem?_append_right (by rw [portsN_len]; omega), portsN_len]
      exact ⟨by simp, by rw [show 2 * i + 1 - 2 * i = 1 by omega]; rfl⟩
def Fx.sideM (F : Fx) : List Value := [pt F.g 30, mval 32 F.g 0] ++ portsN F.rdM F.wrM 32
def Fx.sideA (F : Fx) : List Value := [pt F.g 31, mval 34 F.g 0] ++ portsN F.rdA F.wrA 32
def Fx.cells (F : Fx) (M : Mach) (tk : Tk) : List Value := machL M F.S ++ ([.int .i64 tk.n, tk.v] ++ (F.sideM ++ F.sideA))
theorem Fx.len (F : Fx) (M : Mach) (tk : Tk) : (F.cells M tk).length = 209 := by
  unfold Fx.cells Fx.sideM Fx.sideA
  simp only [List.length_append, portsN_len, machL_len]
  rfl
theorem app_at (A B C D : List Value) (a b c n : Nat) (v : Value) (hA : A.length = a) (hB : B.length = b) (hC : C.length = c) (h : D[n]? = some v) (E : List Value) : (A ++ (B ++ ((C ++ D) ++ E)))[a + b + c + n]? = some v := by
  have hn := (List.getElem?_eq_some_iff.1 h).1
  rw [List.getElem?_append_right (by omega), List.getElem?_append_right (by omega), List.getElem?_append_left (by simp; omega), List.getElem?_append_right (by omega), ← h]
  congr 1
  omega
theorem app_at2 (A B C D E : List Value) (a b c e n : Nat) (v : Value) (hA : A.length = a) (hB : B.length = b) (hE : E.length = e) (hC : C.length = c) (h : D[n]? = some v) : (A ++ (B ++ (E ++ (C ++ D))))[a + b + e + c + n]? = some v := by
  rw [List.getElem?_append_right (by omega), List.getElem?_append_right (by omega), List.getElem?_append_right (by omega), List.getElem?_append_right (by omega), ← h]
  congr 1
  omega
theorem Fx.portM (F : Fx) (M : Mach) (tk : Tk) (i : Nat) (h : i < 32) : (F.cells M tk)[79 + 2 * i]? = some (F.rdM i) ∧ (F.cells M tk)[79 + 2 * i + 1]? = some (F.wrM i) := by
  obtain ⟨h1, h2⟩ := portsN_at F.rdM F.wrM 32 i h
  exact ⟨app_at _ _ _ _ 75 2 2 (2 * i) _ (machL_len M F.S) rfl rfl h1 F.sideA, app_at _ _ _ _ 75 2 2 (2 * i + 1) _ (machL_len M F.S) rfl rfl h2 F.sideA⟩
theorem Fx.portA (F : Fx) (M : Mach) (tk : Tk) (i : Nat) (h : i < 32) : (F.cells M tk)[145 + 2 * i]? = some (F.rdA i) ∧ (F.cells M tk)[145 + 2 * i + 1]? = some (F.wrA i) := by
  obtain ⟨h1, h2⟩ := portsN_at F.rdA F.wrA 32 i h
  have hs : F.sideM.length = 66 := by unfold Fx.sideM; rw [List.length_append, portsN_len]; rfl
  exact ⟨app_at2 _ _ _ _ F.sideM 75 2 2 66 (2 * i) _ (machL_len M F.S) rfl hs rfl h1, app_at2 _ _ _ _ F.sideM 75 2 2 66 (2 * i + 1) _ (machL_len M F.S) rfl hs rfl h2⟩
structure Fx.nd (F : Fx) : Prop where
  lo : F.B ≤ F.g ∧ F.B ≤ F.ra ∧ F.B ≤ F.ow ∧ F.B ≤ F.vi
  d : F.g ≠ F.ra ∧ F.g ≠ F.ow ∧ F.g ≠ F.vi ∧ F.ra ≠ F.ow ∧ F.ra ≠ F.vi ∧ F.ow ≠ F.vi
  mr : ¬ F.T F.mr
  ar : ¬ F.T F.ar
  env : ∀ x v, F.has x v → ¬ F.T x
def Fx.off (F : Fx) (k : Nat) : Prop := ¬ F.T k ∧ F.S.mr.ownBlock ≠ some k ∧ F.S.ar.ownBlock ≠ some k ∧ ∀ x u, F.has x u → x ≠ k
structure Bd (F : Fx) (W : World) (M : Mach) (tk : Tk) : Prop where
  bx : Bx W F.g (F.cells M tk)
  mr : Rw W F.S.mr F.mr M.mrom
  ar : Rw W F.S.ar F.ar M.arom
  ra : Rw W F.S.ra F.ra M.ram
  ow : Rw W F.S.ow F.ow M.own
  vi : Rw W F.S.vi F.vi M.video
  env : ∀ x v, F.has x v → x < W.heap.size ∧ W.cell? ⟨x, 0, none⟩ = some v
  nd : F.nd
  fit : M.fit
  big : F.B ≤ W.heap.size
  ws : W.ownsRow F.B 138 3 tk.v tk.l.length (wcs tk.l)
  wd : ∀ k, tk.v.ownBlock = some k → F.off k
theorem ows_of {w w' : World} {B : Nat} {t : TypeId} {z : Nat} {v : Value} {n : Nat} {xs : List Value} (h : w.ownsRow B t z v n xs) (e : ∀ k, v.ownBlock = some k → w'.heap[k]? = w.heap[k]?) : w'.ownsRow B t z v n xs := by
  refine ⟨h.1, ?_⟩
  rcases h.2 with h2 | ⟨g, cap, cur, rfl, hb, hg, r⟩
  · exact Or.inl h2
  · exact Or.inr ⟨g, cap, cur, rfl, hb, (e g rfl).trans hg, r⟩
section
variable {F : Fx} {W w0 w1 : World} {M M' : Mach} {tk tk' : Tk}
theorem Bd.kept (h : Bd F W M tk) (hb : Below W.heap.size W w1) : Bd F w1 M tk :=
  ⟨h.bx.kept hb, h.mr.same hb.size (fun hk => hb.block _ hk), h.ar.same hb.size (fun hk => hb.block _ hk), h.ra.same hb.size (fun hk => hb.block _ hk), h.ow.same hb.size (fun hk => hb.block _ hk), h.vi.same hb.size (fun hk => hb.block _ hk),
    fun x v hx => ⟨Nat.lt_of_lt_of_le (h.env x v hx).1 hb.size, (hb.cell (p := ⟨x, 0, none⟩) (h.env x v hx).1).trans (h.env x v hx).2⟩, h.nd, h.fit, Nat.le_trans h.big hb.size, ows_of h.ws (fun k hk => hb.block k (h.ws.lt k hk).2), h.wd⟩
theorem Bd.over (h : Bd F W M tk) (o : Obj) : Bd F (W.alloc o) M tk := h.kept (stA (st0 W) o)
theorem heap_set_far {W : World} {b o x : Nat} {v : Value} (h : x ≠ b) : (W.setCell ⟨b, o, none⟩ v).heap[x]? = W.heap[x]? := Below.heap_setCell _ _ _ _ (fun e => h e)
theorem size_set {W : World} {a : Addr} {v : Value} : (W.setCell a v).heap.size = W.heap.size := by simp [World.setCell]
theorem Bd.put (h : Bd F W M tk) (i : Nat) (v : Value) (hi : i < 209) (hc : (F.cells M tk).set i v = F.cells M' tk') (hm : M'.mrom = M.mrom ∧ M'.arom = M.arom ∧ M'.ram = M.ram ∧ M'.own = M.own ∧ M'.video = M.video) (hf : M'.fit) (hk : tk'.v = tk.v ∧ tk'.l = tk.l := by exact ⟨rfl, rfl⟩) : Bd F (W.setCell ⟨F.g, i, none⟩ v) M' tk' := by
  obtain ⟨m1, m2, m3, m4, m5⟩ := hm
  obtain ⟨d1, d2, d3, _⟩ := h.nd.d
  have n1 := fun e => h.nd.mr (Or.inl e)
  have n2 := fun e => h.nd.ar (Or.inl e)
  refine ⟨hc ▸ h.bx.set i v (by rw [F.len]; exact hi), ?_, ?_, ?_, ?_, ?_, fun x u hx => ?_, h.nd, hf, by rw [size_set]; exact h.big, by rw [hk.1, hk.2]; exact ows_of h.ws (fun k hk => heap_set_far (fun e => (h.wd k hk).1 (Or.inl e))), by rw [hk.1]; exact h.wd⟩
  · rw [m1]; exact h.mr.same (by rw [size_set]; exact Nat.le_refl _) (fun _ => heap_set_far n1)
  · rw [m2]; exact h.ar.same (by rw [size_set]; exact Nat.le_refl _) (fun _ => heap_set_far n2)
  · rw [m3]; exact h.ra.same (by rw [size_set]; exact Nat.le_refl _) (fun _ => heap_set_far (Ne.symm d1))
  · rw [m4]; exact h.ow.same (by rw [size_set]; exact Nat.le_refl _) (fun _ => heap_set_far (Ne.symm d2))
  · rw [m5]; exact h.vi.same (by rw [size_set]; exact Nat.le_refl _) (fun _ => heap_set_far (Ne.symm d3))
  · have hn : x ≠ F.g := fun e => h.nd.env x u hx (Or.inl e)
    obtain ⟨e1, e2⟩ := h.env x u hx
    exact ⟨by rw [size_set]; exact e1, (World.cell?_of_block (w := W) (heap_set_far hn)).trans e2⟩
theorem heap_sets_far {b x : Nat} (h : x ≠ b) : ∀ (vs : List Value) (o : Nat) (W : World), (W.setCells b o vs).heap[x]? = W.heap[x]?
  | [], o, W => rfl
  | v :: vs, o, W => (heap_sets_far h vs (o + 1) _).trans (heap_set_far h)
theorem size_sets (b : Nat) : ∀ (vs : List Value) (o : Nat) (W : World), (W.setCells b o vs).heap.size = W.heap.size
  | [], o, W => rfl
  | v :: vs, o, W => (size_sets b vs (o + 1) _).trans size_set
theorem Bd.puts (h : Bd F W M tk) (i : Nat) (vs : List Value) (hi : i + vs.length ≤ 209) (hc : putL (F.cells M tk) i vs = F.cells M' tk') (hm : M'.mrom = M.mrom ∧ M'.arom = M.arom ∧ M'.ram = M.ram ∧ M'.own = M.own ∧ M'.video = M.video) (hf : M'.fit) (hk : tk'.v = tk.v ∧ tk'.l = tk.l := by exact ⟨rfl, rfl⟩) : Bd F (W.setCells F.g i vs) M' tk' := by
  obtain ⟨m1, m2, m3, m4, m5⟩ := hm
  obtain ⟨d1, d2, d3, _⟩ := h.nd.d
  have n1 := fun e => h.nd.mr (Or.inl e)
  have n2 := fun e => h.nd.ar (Or.inl e)
  have hz : W.heap.size ≤ (W.setCells F.g i vs).heap.size := Nat.le_of_eq (size_sets _ _ _ _).symm
  refine ⟨hc ▸ h.bx.puts i vs (by rw [F.len]; exact hi), ?_, ?_, ?_, ?_, ?_, fun x u hx => ?_, h.nd, hf, Nat.le_trans h.big hz, by rw [hk.1, hk.2]; exact ows_of h.ws (fun k hk => heap_sets_far (fun e => (h.wd k hk).1 (Or.inl e)) _ _ _), by rw [hk.1]; exact h.wd⟩
  · rw [m1]; exact h.mr.same hz (fun _ => heap_sets_far n1 _ _ _)
  · rw [m2]; exact h.ar.same hz (fun _ => heap_sets_far n2 _ _ _)
  · rw [m3]; exact h.ra.same hz (fun _ => heap_sets_far (Ne.symm d1) _ _ _)
  · rw [m4]; exact h.ow.same hz (fun _ => heap_sets_far (Ne.symm d2) _ _ _)
  · rw [m5]; exact h.vi.same hz (fun _ => heap_sets_far (Ne.symm d3) _ _ _)
  · have hn : x ≠ F.g := fun e => h.nd.env x u hx (Or.inl e)
    obtain ⟨e1, e2⟩ := h.env x u hx
    exact ⟨Nat.lt_of_lt_of_le e1 hz, (World.cell?_of_block (w := W) (heap_sets_far hn _ _ _)).trans e2⟩
theorem Rw.put {v : Value} {k : Nat} {l : List UInt8} (h : Rw W v k l) (i x : Int) (h0 : 0 ≤ i) (hi : i < l.length) (hx : 0 ≤ x ∧ x ≤ 255) : Rw (W.setCell ⟨k, i.toNat, none⟩ (.int .u8 x)) v k (bput l i x) := by
  obtain ⟨cap, h1, h2, h3⟩ := h.some (by omega)
  refine Or.inr ⟨cap, by rw [bput_len]; exact h1, by rw [bput_len]; exact h2, ?_⟩
  rw [← bcs_set l i x hx]
  exact h3.set _ _ (by rw [bcs_len]; omega)
abbrev Bt (F : Fx) (W w1 : World) : Prop := Mv F.B F.T F.T W w1
theorem Bt.set (hn : F.nd) (h : Bt F W w0) (i : Nat) (v : Value) : Bt F W (w0.setCell ⟨F.g, i, none⟩ v) := Mv.setCell h hn.lo.1 (Or.inl (Or.inl rfl)) v
theorem Bt.sets (hn : F.nd) : ∀ (vs : List Value) (i : Nat) (w0 : World), Bt F W w0 → Bt F W (w0.setCells F.g i vs)
  | [], i, w0, h => h
  | v :: vs, i, w0, h => Bt.sets hn vs (i + 1) _ (Bt.set hn h i v)
theorem Bt.refl (F : Fx) (W : World) : Bt F W W := Mv.refl _ _ _
def Fx.Tw (F : Fx) (W : World) (k : Nat) : Prop := F.T k ∨ ∃ cs fr, W.heap[k]? = some (.cells cs 138 fr)
theorem Tw_same {k : Nat} (e : w1.heap[k]? = W.heap[k]?) (h : F.Tw w1 k) : F.Tw W k := h.imp id (fun ⟨cs, fr, x⟩ => ⟨cs, fr, e ▸ x⟩)
def Bw (F : Fx) (W w1 : World) : Prop := Mv F.B (F.Tw W) (F.Tw w1) W w1
theorem Bt.w (h : Bt F W w1) : Bw F W w1 := ⟨h.below, fun k hk ht => h.block k hk (fun x => ht (Or.inl x)), fun k ht => by
  rcases Nat.lt_or_ge k W.heap.size with hk | hk
  · by_cases hT : F.T k
    · exact Or.inl (Or.inl hT)
    · exact Or.inl (Tw_same (h.block k hk hT) ht)
  · exact Or.inr hk⟩
theorem Bw.trans {w2 : World} (h : Bw F W w1) (k : Bw F w1 w2) : Bw F W w2 := Mv.trans h k
theorem Bd.at (h : Bd F W M tk) (i : Nat) (v : Value) (e : (F.cells M tk)[i]? = some v) : W.cell? ⟨F.g, i, none⟩ = some v := h.bx.at i v e
end
theorem Bu.high_n (g o : Nat) (w : World) : Calls Try.prog 43 #[pt g o] w fun e w' => e = .returned (fval 68 #[pt w.heap.size 0]) ∧ w' = w.alloc (.cells #[pt g o] 111) := by
  go_enter Try.func43, Try.ntmps43
  go_wp2
  go_ret
  exact ⟨rfl, rfl⟩
theorem Bu.low_n (g o : Nat) (w : World) : Calls Try.prog 44 #[pt g o] w fun e w' => e = .returned (fval 70 #[pt w.heap.size 0]) ∧ w' = w.alloc (.cells #[pt g o] 111) := by
  go_enter Try.func44, Try.ntmps44
  go_wp2
  go_ret
  exact ⟨rfl, rfl⟩
theorem Bu.pad_n (g : Nat) (i : Int) (w : World) : Calls Try.prog 41 #[pt g 0, .int .i64 i] w fun e w' => e = .returned (fval 65 #[pt w.heap.size 0, pt (w.heap.size + 1) 0]) ∧ w' = (w.alloc (.cells #[pt g 0] 78)).alloc (.cells #[.int .i64 i] 3) := by
  go_enter Try.func41, Try.ntmps41
  go_wp2
  go_ret
  exact ⟨rfl, rfl⟩
theorem Bu.sound_n (g : Nat) (i : Int) (w : World) : Calls Try.prog 58 #[pt g 0, .int .i64 i] w fun e w' => e = .returned (fval 74 #[pt w.heap.size 0, pt (w.heap.size + 1) 0]) ∧ w' = (w.alloc (.cells #[pt g 0] 78)).alloc (.cells #[.int .i64 i] 3) := by
  go_enter Try.func58, Try.ntmps58
  go_wp2
  go_ret
  exact ⟨rfl, rfl⟩
theorem info_ports : (Try.prog.info? 94).map (·.size) = some 64 := by kernel_rfl
theorem step_store_mid {P : Program} {ops : Array Oper} {op : Oper} {a : Act} {w : World} {K : Act → World → Prop} {Q : Exit → Act → World → Prop} {E : Prop} (hgd : op.guard = none) (ty : TypeId) (x y : Operand) (ho : op.op = .store ty x y)
    (b o : Nat) (cells : Array Value) (hx : a.eval x = .pointer (some ⟨b, o, none⟩)) (hy : a.eval y = .agg cells) (ht : w.there b o cells.size) (hi : (P.info? ty).map (·.size) = some cells.size) (h1 : cells.all (·.oneCell') = true)
    (h : K (a.put op.dst undef) (w.setCells b o cells.toList)) : if Region.wanted op (yielded ops a.tmps) = true then Oper.wp P op a w K Q else E := by
  rw [if_pos (by simp [Region.wanted, hgd])]
  exact wp_store_mid ty x y ho b o cells hx hy ht hi h1 h
theorem Bu.cell_any (k n cap : Nat) (a : Int) (w : World) (hn : 0 < n) (hN : n ≤ 1000) (ha : 0 ≤ a ∧ a ≤ 65535) :
    Calls Try.prog 40 #[.slice (some ⟨k, 0, none⟩) n cap, .int .u16 a] w fun e w' => e = .returned (pt k (a % n).toNat) ∧ w = w' := by
  have hm : Int.tmod a n = a % n := Int.tmod_eq_emod_of_nonneg ha.1
  have h0 : 0 ≤ a % n := Int.emod_nonneg _ (by omega)
  have h1 : a % n < n := Int.emod_lt_of_pos _ (by omega)
  have hz : ((n : Int) == 0) = false := by simp; omega
  go_enter Try.func40, Try.ntmps40
  go_wp2
  go_ret
  exact ⟨rfl, rfl⟩
theorem Bu.isPort_any (a : Int) (w : World) (ha : 0 ≤ a ∧ a ≤ 65535) :
    Calls Try.prog 61 #[.int .u16 a] w fun e w' => e = .returned (.bool (isPort a)) ∧ w = w' := by
  unfold isPort
  by_cases h : 53248 ≤ a
  · by_cases h2 : a ≤ 57343
    · rw [decide_eq_true ⟨h, h2⟩]
      go_enter Try.func61, Try.ntmps61
      go_wp2
      go_ret
      exact ⟨rfl, rfl⟩
    · rw [decide_eq_false (fun x => h2 x.2)]
      go_enter Try.func61, Try.ntmps61
      go_wp2
      go_ret
      exact ⟨rfl, rfl⟩
  · rw [decide_eq_false (fun x => h x.1)]
    go_enter Try.func61, Try.ntmps61
    go_wp2
    go_ret
    exact ⟨rfl, rfl⟩
theorem Bu.within_any (n m : Int) (w : World) :
    Calls Try.prog 20 #[.int .i64 n, .int .i64 m] w fun e w' => e = .returned (.bool (decide (0 ≤ n ∧ n ≤ m))) ∧ w = w' := by
  by_cases h : 0 ≤ n
  · by_cases h2 : n ≤ m
    · rw [decide_eq_true ⟨h, h2⟩]
      go_enter Try.func20, Try.ntmps20
      go_wp2
      go_ret
      exact ⟨rfl, rfl⟩
    · rw [decide_eq_false (fun x => h2 x.2)]
      go_enter Try.func20, Try.ntmps20
      go_wp2
      go_ret
      exact ⟨rfl, rfl⟩
  · rw [decide_eq_false (fun x => h x.1)]
    go_enter Try.func20, Try.ntmps20
    go_wp2
    go_ret
    exact ⟨rfl, rfl⟩
end Go.Proofs.Ytdioiilmpjckfaa
