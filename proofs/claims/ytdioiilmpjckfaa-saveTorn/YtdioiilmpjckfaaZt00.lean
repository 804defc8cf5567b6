/-
  Parts of a proof, joined.
-/
import Derived.WalkKit
import Derived.Laws.BitsAllLaws
import Derived.Test.YtdioiilmpjckfaaRows
import Derived.ProofKit
import Derived.OpenShut
import Derived.WalkSpells
import Derived.Outline
import Derived.Below
import Derived.Deep.Strs
import Derived.Deep.RegionHeld3
import Derived.Deep.QuietTactic
import Derived.BigQuiet
import Derived.Laws.StructEq
import Derived.Deep.MidRow
import Derived.Deep.Fields
import Derived.Lib.Builder
import Derived.Deep.RegionWith
import Derived.Lib.Fields
import Derived.Lib.Split
import Derived.Lib.ParseIntB
import Derived.Laws.EntriesVeiled
namespace Go.Proofs.Ytdioiilmpjckfaa.M
set_option linter.unusedVariables false
set_option maxRecDepth 100000
/-! ### the highest bit -/
/-! ### products -/
/-! ### bits and bytes -/
theorem joined (a b : Int) (ha : 0 ≤ a) (ha' : a ≤ 255) (hb : 0 ≤ b) (hb' : b ≤ 255) : bits .or .u16 (a * 256) b = a * 256 + b := by
  obtain ⟨A, rfl⟩ := Int.eq_ofNat_of_zero_le ha
  obtain ⟨B, rfl⟩ := Int.eq_ofNat_of_zero_le hb
  rw [show (A : Int) * 256 = ((A * 256 : Nat) : Int) from by omega, u16_or_nat _ _ (by omega) (by omega)]
  have h : A * 256 ||| B = A * 256 + B := by
    have := Nat.two_pow_add_eq_or_of_lt (i := 8) (b := B) (by omega) A
    rw [show A * 256 = 2 ^ 8 * A from by omega]; exact this.symm
  rw [h]; omega
/-! ### moved bit by bit -/
/-! ### a word gathered bit by bit -/
end Go.Proofs.Ytdioiilmpjckfaa.M
namespace Go.Proofs.Ytdioiilmpjckfaa
open Go.ChangeShapes Go.WideShapes Go.ChangeAt Go.RowKit
set_option linter.unusedVariables false
set_option maxRecDepth 100000
theorem own : ownKnob Try.prog.godebug = none := by kernel_rfl
theorem hid {p : Prop} (h : p) : Hid p := h
theorem ret_b {b b' : Bool} (h : b = b') : Ending.returned (.bool b) = .returned (.bool b') := by rw [h]
theorem stp {W a b : World} (h : Below W.heap.size W a) (hb : Below a.heap.size a b) : Below W.heap.size W b := h.trans (hb.mono h.size)
theorem stA {W a : World} (h : Below W.heap.size W a) (o : Obj) : Below W.heap.size W (a.alloc o) := h.alloc h.size o
theorem st0 (W : World) : Below W.heap.size W W := Below.refl _ _
/-! ### arguments: each reads behind the call as it did -/
theorem trodAll_below {H : Type} {enc : TypeId × Value → H} {P : Program} (hl : laidOutB P = true) {W W' : World} (hb : Below W.heap.size W W') :
    ∀ {ts : List TypeId} {vs : List Value} {ds : List (DataW H)} {ps : List MemPlace}, (∀ t ∈ ts, P.readableRec t = true ∧ t < P.types.size) → DataW.TrodAll enc P W 0 (fun _ => true) true ts vs ds ps → (∀ x ∈ ps, x.block < W.heap.size) →
      DataW.TrodAll enc P W' 0 (fun b => decide (b < W.heap.size)) true ts vs ds ps
  | [], vs, ds, ps, _, h, _ => by
    obtain ⟨rfl, rfl, rfl⟩ := trodAll_nil h
    exact trodAll_mk0
  | t :: ts, vs, ds, ps, hr, h, hlt => by
    obtain ⟨v, vs', d, ds', p, q, rfl, rfl, rfl, hd, hrest⟩ := trodAll_cons h
    exact ⟨p, q, Below.trod hl (hr t (by simp)).1 (hr t (by simp)).2 hd hb (fun x hx => hlt x (by simp [hx])), trodAll_below hl hb (fun t' ht' => hr t' (by simp [ht'])) hrest (fun x hx => hlt x (by simp [hx])), rfl⟩
theorem trodAll_below_all {H : Type} {enc : TypeId × Value → H} {P : Program} (hl : laidOutB P = true) {W W' : World} (hb : Below W.heap.size W W') {ts : List TypeId} {vs : List Value} {ds : List (DataW H)} {ps : List MemPlace}
    (hr : ts.all (fun t => P.readableRec t && decide (t < P.types.size)) = true) (h : DataW.TrodAll enc P W 0 (fun _ => true) true ts vs ds ps) (hlt : ∀ x ∈ ps, x.block < W.heap.size) :
    DataW.TrodAll enc P W' 0 (fun b => decide (b < W.heap.size)) true ts vs ds ps :=
  trodAll_below hl hb (fun t ht => by have := List.all_eq_true.1 hr t ht; simpa using this) h hlt
def sel (l : Bool) (a b : Int) : Int := if l then a else b
theorem Pl.new (w : World) (cs : Array Value) (t : TypeId) (b : Nat) (h : b = w.heap.size) {k : Nat} : (w.alloc (.cells cs t)).cell? ⟨b, k, none⟩ = cs[k]? := by subst h; exact World.cell?_alloc_new ..
theorem Pl.there_new (w : World) (cs : Array Value) (t : TypeId) (n b : Nat) (hb : b = w.heap.size) (h : cs.size = n) : (w.alloc (.cells cs t)).there b 0 n := fun j hj => by
  subst hb
  refine ⟨?_, Lib.frozen_of_heap (heap_alloc_new w _) _⟩
  rw [Pl.new _ _ _ _ rfl, Array.getElem?_eq_getElem (by omega)]
  rfl
theorem Pl.there_old {w w' : World} {b n : Nat} (h : w.there b 0 n) (hb : Below w.heap.size w w') (hlt : b < w.heap.size) : w'.there b 0 n := fun j hj => by
  have := h j hj
  rw [hb.cell (p := ⟨b, 0 + j, none⟩) hlt, hb.frozen (p := ⟨b, 0 + j, none⟩) hlt]
  exact this
theorem Pl.below {n : Nat} {a : World} {b : Nat} (hb : n ≤ b) : ∀ (vs : List Value) (o : Nat) (w : World), Below n a w → Below n a (w.setCells b o vs)
  | [], o, w, h => h
  | v :: vs, o, w, h => Pl.below hb vs (o + 1) _ (h.setCell hb v)
theorem Pl.fin {w w0 w1 : World} {b : Nat} (L : List Value) (hth : w0.there b 0 L.length) (hb0 : Below w.heap.size w w0) (hb1 : Below w0.heap.size w0 w1) (hlt : b < w0.heap.size) (hw : w.heap.size ≤ b) : Below w.heap.size w (w1.setCells b 0 L) ∧ (w1.setCells b 0 L).rangeAt b 0 L :=
  ⟨Pl.below hw L 0 w1 (stp hb0 hb1), World.rangeAt_setCells_same w1 b 0 L (Pl.there_old hth hb1 hlt)⟩
theorem Pl.cutW {P : Program} {code : Code} {Q : Exit → Act → World → Prop} {a : Act} {w : World} (K : World → Prop) (h : K w) (k : ∀ w', K w' → code.wp P Q a w') : code.wp P Q a w := k w h
theorem Pl.spot {w : World} {a : Addr} {v : Value} (h : w.cell? a = some v) : a.spot = none := by
  unfold World.cell? at h
  split at h
  · split at h
    · cases h
    · rename_i hs
      cases hh : a.spot with
      | none => rfl
      | some x => rw [hh] at hs; simp at hs
  · cases h
def isAt (k : IntKind) (w : World) (v : Value) (l : List Int) : Prop := (∃ a cap, v = .slice a 0 cap ∧ l = []) ∨ ∃ g o cap, v = .slice (some ⟨g, o, none⟩) l.length cap ∧ g < w.heap.size ∧ ∀ j x, l[j]? = some x → w.cell? ⟨g, o + j, none⟩ = some (.int k x)
theorem isAt.len {k : IntKind} {w : World} {v : Value} {l : List Int} (h : isAt k w v l) : ∃ a c, v = .slice a l.length c := by
  rcases h with ⟨a, c, h1, rfl⟩ | ⟨g, o, c, h1, _⟩
  · exact ⟨a, c, h1⟩
  · exact ⟨_, c, h1⟩
theorem isAt.at {k : IntKind} {w W : World} {a : Option Addr} {n c : Nat} {l : List Int} (h : isAt k w (.slice a n c) l) (hb : Below w.heap.size w W) {j : Nat} {x : Int} (hx : l[j]? = some x) : ∃ g o, a = some ⟨g, o, none⟩ ∧ g < w.heap.size ∧ W.cell? ⟨g, o + j, none⟩ = some (.int k x) := by
  rcases h with ⟨a', c', h1, h2⟩ | ⟨g, o, c', h1, h3, h4⟩
  · rw [h2] at hx; simp at hx
  · simp only [Value.slice.injEq] at h1
    exact ⟨g, o, h1.1, h3, (hb.cell (p := ⟨g, o + j, none⟩) h3).trans (h4 j x hx)⟩
theorem xA {α : Type} {l : List α} {i : Nat} {a : α} : l.toArray.setIfInBounds i a = (l.set i a).toArray := List.setIfInBounds_toArray _ _ _
theorem xB {α : Type} {a b : α} {l : List α} : (a :: l).set 0 b = b :: l := List.set_cons_zero
theorem xC {α : Type} {a b : α} {l : List α} {n : Nat} : (a :: l).set (n + 1) b = a :: l.set n b := List.set_cons_succ
def SaveTornWalk : Prop := ∀ (H : Type) (enc : TypeId × Value → H) (W : World) (base : Nat) (v0 v1 v2 v3 : Value) (d0 d1 d2 d3 : DataW H) (p0 p1 p2 p3 : List MemPlace),
  Value.okWide Try.prog W .any base (Try.f4.params.getD 0 0) v0 → DataW.Trod enc Try.prog W 0 (fun _ => true) true (Try.f4.params.getD 0 0) v0 d0 p0 → Value.okWide Try.prog W .any base (Try.f4.params.getD 1 0) v1 → DataW.Trod enc Try.prog W 0 (fun _ => true) true (Try.f4.params.getD 1 0) v1 d1 p1 → Value.okWide Try.prog W .any base (Try.f4.params.getD 2 0) v2 → DataW.Trod enc Try.prog W 0 (fun _ => true) true (Try.f4.params.getD 2 0) v2 d2 p2 → Value.okWide Try.prog W .any base (Try.f4.params.getD 3 0) v3 → DataW.Trod enc Try.prog W 0 (fun _ => true) true (Try.f4.params.getD 3 0) v3 d3 p3 →
  Calls Try.prog 4 #[v0, v1, v2, v3] W fun e w' => e = .returned (.bool true) ∧ Below W.heap.size W w'
theorem saveTorn_lifted (walk : SaveTornWalk) (os : Os) (started : os.Started) (H : Type) (enc : TypeId × Value → H) :
    ReturnsInHanded {} Try.checked os 4 .any (Rows.saveTornSpec.pre6 enc Try.prog Try.f4 Rows.saveTornRow.domain false) (Rows.saveTornSpec.post enc Try.prog Try.f4 false true false false) := by
  refine returnsInHanded_of_change (C := Try.checked) own started (by kernel_rfl) Try.func4
    (ChangeSpec.witness6 (enc := enc) (C := Try.checked) false ⟨#[], #[.agg #[.int .u16 0, .int .u16 0, .int .u16 0, .int .u16 0, .int .u16 0, .int .u16 0, .int .u16 0, .int .u16 0, .int .u16 0, .bool false, .bool false, .bool false, .bool false, .bool false, .bool false, .int .u16 0, .int .u16 0, .int .u16 0, .int .u16 0, .int .u16 0, .int .u16 0, .int .u16 0, .int .u16 0, .int .u16 0, .bool false, .bool false, .bool false, .bool false, .bool false, .bool false, .slice none 0 0, .slice none 0 0, .slice none 0 0, .slice none 0 0, .slice none 0 0, .int .u8 0, .bool false, .int .u8 0, .int .u8 0, .bool false, .int .u8 0, .int .u16 0, .int .u16 0, .bool false, .bool false, .int .u16 0, .int .u16 0, .int .u8 0, .bool false, .int .u16 0, .int .u16 0, .int .u16 0, .int .u8 0, .bool false, .int .u16 0, .int .u16 0, .int .u16 0, .int .u8 0, .bool false, .int .u16 0, .int .i64 0, .int .i64 0, .int .i64 0, .bool false, .int .i64 0, .int .u16 0, .int .u16 0, .bool false, .bool false, .int .u8 0, .int .u8 0, .bool false, .int .i64 0, .int .i64 0, .int .i64 0], .agg #[.int .u16 0, .int .u16 0, .int .u16 0, .int .u16 0, .int .u16 0, .int .u16 0, .int .u16 0, .int .u16 0, .int .u16 0, .bool false, .bool false, .bool false, .bool false, .bool false, .bool false, .int .u16 0, .int .u16 0, .int .u16 0, .int .u16 0, .int .u16 0, .int .u16 0, .int .u16 0, .int .u16 0, .int .u16 0, .bool false, .bool false, .bool false, .bool false, .bool false, .bool false, .slice none 0 0, .slice none 0 0, .slice none 0 0, .slice none 0 0, .slice none 0 0, .int .u8 0, .bool false, .int .u8 0, .int .u8 0, .bool false, .int .u8 0, .int .u16 0, .int .u16 0, .bool false, .bool false, .int .u16 0, .int .u16 0, .int .u8 0, .bool false, .int .u16 0, .int .u16 0, .int .u16 0, .int .u8 0, .bool false, .int .u16 0, .int .u16 0, .int .u16 0, .int .u8 0, .bool false, .int .u16 0, .int .i64 0, .int .i64 0, .int .i64 0, .bool false, .int .i64 0, .int .u16 0, .int .u16 0, .bool false, .bool false, .int .u8 0, .int .u8 0, .bool false, .int .i64 0, .int .i64 0, .int .i64 0], .int .i64 0, .int .u8 0], []⟩ 8 (by kernel_rfl) (by kernel_rfl) (by kernel_rfl) (by kernel_rfl)) ?_
  intro W base args ds gs before hval0 hW hcnd _
  have hval : ∀ (j : Nat) t v, Try.f4.params[j]? = some t → args[j]? = some v → Value.okWide Try.prog W .any base t v := hval0
  have hW' := hW
  obtain ⟨p, q, hA0, hV, rfl, _, _⟩ := hW
  have hA : DataW.TrodAll enc Try.prog W 0 (fun _ => true) true Try.f4.params.toList args.toList ds p := hA0
  have hA1 := hA
  rw [Try.params4] at hA hval
  obtain ⟨v0, vs0, d0, ds0, p0, q0, hargs, rfl, rfl, h0, r0⟩ := trodAll_cons hA
  obtain ⟨v1, vs1, d1, ds1, p1, q1, rfl, rfl, rfl, h1, r1⟩ := trodAll_cons r0
  obtain ⟨v2, vs2, d2, ds2, p2, q2, rfl, rfl, rfl, h2, r2⟩ := trodAll_cons r1
  obtain ⟨v3, vs3, d3, ds3, p3, q3, rfl, rfl, rfl, h3, r3⟩ := trodAll_cons r2
  obtain ⟨rfl, rfl, rfl⟩ := trodAll_nil r3
  obtain rfl : args = #[v0, v1, v2, v3] := by cases args; simp_all
  obtain ⟨rfl, rfl⟩ := trodVars_none hV
  have hlt := fun x hx => hW'.lt x (List.mem_append_left _ hx)
  refine (walk H enc W base v0 v1 v2 v3 d0 d1 d2 d3 _ _ _ _ (hval 0 _ v0 rfl rfl) h0 (hval 1 _ v1 rfl rfl) h1 (hval 2 _ v2 rfl rfl) h2 (hval 3 _ v3 rfl rfl) h3).mono fun e W' ⟨he, hb⟩ => ?_
  subst he
  exact ⟨_, rfl, _, _, _, [], _, [], hW', trodAll_mk1 (shut_bool Try.underlying4 _), trodAll_below_all (by kernel_rfl) hb (by kernel_rfl) hA1 hlt, rfl, hb.frame _, fun h => by cases h⟩
theorem saveTorn_row (walk : SaveTornWalk) : Rows.SaveTornSaid :=
  OpenClaim.holds_of_wide 4 Try.f4 rfl rfl rfl rfl rfl rfl rfl ⟨rfl, rfl, rfl, rfl, rfl⟩ rfl rfl rfl rfl rfl (by kernel_rfl) Try.func4 (by kernel_rfl)
    (of_decide_eq_true (by kernel_rfl)) (by unfold Func.isWrapper; first | (rw [if_pos (by decide +kernel)]; kernel_rfl) | (rw [if_neg (by decide +kernel)]; exact ⟨rfl, rfl⟩))
    (fun os started H enc _ => saveTorn_lifted walk os started H enc)
end Go.Proofs.Ytdioiilmpjckfaa
namespace Go.Proofs.Ytdioiilmpjckfaa.O
set_option linter.unusedVariables false
set_option maxRecDepth 100000
def first (op d s n : Int) : Int := op * 2048 + d * 256 + s * 32 + (n + 32) % 32
/-! ### the first word, laid in bit by bit -/
/-! ### what was written is read -/
end Go.Proofs.Ytdioiilmpjckfaa.O
namespace Go.Proofs.Ytdioiilmpjckfaa.C
set_option linter.unusedVariables false
set_option maxRecDepth 100000
structure Cpu where
  R : List Int
  PC : Int
  Z : Bool
  N : Bool
  C : Bool
  V : Bool
  May : Bool
  Waits : Bool
deriving DecidableEq
structure Mem (σ : Type) where
  rd : σ → Int → Int × σ
  wr : σ → Int → Int → σ
  fuel : σ → Nat := fun _ => 4
def Cpu.r (c : Cpu) (i : Int) : Int := c.R.getD i.toNat 0
def Cpu.set (c : Cpu) (i : Int) (x : Int) : Cpu := { c with R := c.R.set i.toNat x }
def Cpu.zero : Cpu := ⟨[0, 0, 0, 0, 0, 0, 0, 0], 0, false, false, false, false, false, false⟩
def Cpu.ok (c : Cpu) : Prop := c.R.length = 8 ∧ (∀ x ∈ c.R, 0 ≤ x ∧ x ≤ 65535) ∧ 0 ≤ c.PC ∧ c.PC ≤ 65535
section
variable {σ : Type} (m : Mem σ)
end
/-! ### what is in range stays in range -/
def Mem.ok {σ : Type} (m : Mem σ) (J : σ → Prop) : Prop := (∀ s a, J s → 0 ≤ (m.rd s a).1 ∧ (m.rd s a).1 ≤ 255 ∧ J (m.rd s a).2) ∧ ∀ s a b, J s → 0 ≤ b → b ≤ 255 → J (m.wr s a b)
end Go.Proofs.Ytdioiilmpjckfaa.C
namespace Go.Proofs.Ytdioiilmpjckfaa
open Go.ChangeShapes Go.WideShapes Go.ChangeAt Go.RowKit
set_option linter.unusedVariables false
set_option maxRecDepth 100000
def odd (x : Int) : Bool := x % 2 == 1
def shN (d : Int) (k : Nat) : Int := (d * 2 ^ k + (2 ^ k - 1)) % 256
theorem setC_size (b : Nat) : ∀ (vs : List Value) (o : Nat) (w : World), (w.setCells b o vs).heap.size = w.heap.size
  | [], o, w => rfl
  | v :: vs, o, w => (setC_size b vs (o + 1) _).trans (by simp)
structure AllW (w : World) (n : Nat) (k : Nat) (wr : World) : Prop where
  low : Below w.heap.size w wr
  c : wr.rangeAt w.heap.size 0 [.int .u8 n, .bool false, .int .u8 (shN n k)]
  f : ∀ o, wr.frozen? ⟨w.heap.size, o, none⟩ = false
  th : wr.there (w.heap.size + 1) 0 3
  lt : w.heap.size + 1 < wr.heap.size
theorem AllW.put {w w0 w1 : World} {n k : Nat} (hl : Below w.heap.size w w0) (hb : Below w0.heap.size w0 w1) (h0 : w0.there w.heap.size 0 3) (h1 : w0.there (w.heap.size + 1) 0 3) (hf : ∀ o, w0.frozen? ⟨w.heap.size, o, none⟩ = false) (hz : w.heap.size + 1 < w0.heap.size) :
    AllW w n k (w1.setCells w.heap.size 0 [.int .u8 n, .bool false, .int .u8 (shN n k)]) := by
  have hs := hb.size
  have h := Pl.fin [.int .u8 n, .bool false, .int .u8 (shN n k)] h0 hl hb (by omega) (Nat.le_refl _)
  have t1 := Pl.there_old h1 hb hz
  refine ⟨h.1, h.2, fun o => ?_, fun j hj => ?_, ?_⟩
  · rw [World.frozen?_setCells]
    exact (hb.frozen (p := ⟨w.heap.size, o, none⟩) (show w.heap.size < w0.heap.size by omega)).trans (hf o)
  · rw [World.frozen?_setCells, World.cell?_setCells_out _ _ _ _ _ (fun e => absurd e (by simp))]
    exact t1 j hj
  · have := (setC_size w.heap.size [.int .u8 n, .bool false, .int .u8 (shN n k)] 0 w1)
    omega
theorem Pl.res {P : Program} {b o : Nat} {t : TypeId} {Y : World} {v : Value} (h : (loadVar t ⟨b, o, none⟩).run P Y = .ok v Y) :
    ((Sem.run P (asAddr (Value.pointer (some ⟨b, o, none⟩))) Y).andThen fun a w' => Sem.run P (loadVar t a) w') = .ok v Y := h
/-! ### plain numbers -/
structure TM where
  r : Int
  c : Int
  on : Bool
  g : Bool
/-! ### the package -/
structure Vc where
  p : Int
  c : Int
  l : Int
  h : Bool
  n : Int
structure Vc.ok (v : Vc) : Prop where
  p : 0 ≤ v.p ∧ v.p ≤ 65535
  c : 0 ≤ v.c ∧ v.c ≤ 65535
  l : 0 ≤ v.l ∧ v.l ≤ 255
  n : 0 ≤ v.n ∧ v.n ≤ 65535
/-! ### sounds -/
structure Sd where
  a : Vc
  b : Vc
  c : Vc
  w : Int
structure Sd.ok (s : Sd) : Prop where
  a : s.a.ok
  b : s.b.ok
  c : s.c.ok
structure Sd.fit (s : Sd) : Prop extends s.ok where
  w : 0 ≤ s.w ∧ s.w ≤ 15
def ld (v : Vc) : Int := if v.h then v.l % 16 else 0
def smI (s : Sd) : Int := ld s.a + ld s.b + ld s.c
def sm (s : Sd) : UInt8 := UInt8.ofNat (smI s).toNat
def one (s : Sd) : List UInt8 := if s.w = 0 then [sm s] else []
structure Bx (W : World) (b : Nat) (L : List Value) : Prop where
  z : b < W.heap.size
  c : W.rangeAt b 0 L
  f : ∀ o, W.frozen? ⟨b, o, none⟩ = false
section
variable {W w1 : World} {b : Nat} {L : List Value}
theorem Bx.at (h : Bx W b L) (i : Nat) (v : Value) (e : L[i]? = some v) : W.cell? ⟨b, i, none⟩ = some v := by have := h.c i v e; rwa [Nat.zero_add] at this
theorem Bx.kept (h : Bx W b L) (hb : Below W.heap.size W w1) : Bx w1 b L :=
  ⟨Nat.lt_of_lt_of_le h.z hb.size, fun j v hj => (hb.cell (p := ⟨b, 0 + j, none⟩) h.z).trans (h.c j v hj), fun o => (hb.frozen (p := ⟨b, o, none⟩) h.z).trans (h.f o)⟩
theorem Bx.under {n : Nat} (h : Bx W b L) (hb : Below n W w1) (hn : b < n) : Bx w1 b L :=
  ⟨Nat.lt_of_lt_of_le h.z hb.size, fun j v hj => (hb.cell (p := ⟨b, 0 + j, none⟩) hn).trans (h.c j v hj), fun o => (hb.frozen (p := ⟨b, o, none⟩) hn).trans (h.f o)⟩
theorem Bx.over (h : Bx W b L) (o : Obj) : Bx (W.alloc o) b L := h.kept (stA (st0 W) o)
theorem Bx.drew (h : Bx W b L) : Bx W.drew b L := ⟨h.z, h.c, h.f⟩
theorem Bx.new (W : World) (L : List Value) (t : TypeId) {b : Nat} (hb : b = W.heap.size) : Bx (W.alloc (.cells L.toArray t)) b L := by
  subst hb
  exact ⟨by simp, fun j v hj => (Pl.new _ _ _ _ rfl).trans (by rw [Nat.zero_add]; simpa using hj), fun o => Lib.frozen_of_heap (heap_alloc_new W _) o⟩
theorem Bx.far (h : Bx W b L) {b' o' : Nat} (hne : b' ≠ b) (v : Value) : Bx (W.setCell ⟨b', o', none⟩ v) b L :=
  ⟨by simpa using h.z, fun j x hj => (World.cell?_setCell_far W _ _ v hne).trans (h.c j x hj), fun o => by simpa using h.f o⟩
theorem Bx.set (h : Bx W b L) (i : Nat) (v : Value) (hi : i < L.length) : Bx (W.setCell ⟨b, i, none⟩ v) b (L.set i v) := by
  refine ⟨by simpa using h.z, fun j x hj => ?_, fun o => by simpa using h.f o⟩
  rw [Nat.zero_add]
  by_cases e : i = j
  · subst e
    rw [List.getElem?_set_self hi] at hj
    have hs : (W.cell? ⟨b, i, none⟩).isSome := by rw [h.at i _ (List.getElem?_eq_getElem hi)]; rfl
    rw [← hj]
    exact World.cell?_setCell_same' _ _ _ hs
  · rw [List.getElem?_set_ne e] at hj
    exact (World.cell?_setCell_other _ _ _ _ (by intro x; exact e (congrArg Addr.off x))).trans (h.at j x hj)
def putL (L : List Value) (o : Nat) : List Value → List Value
  | [] => L
  | v :: vs => putL (L.set o v) (o + 1) vs
theorem Bx.puts (h : Bx W b L) (o : Nat) (vs : List Value) (hl : o + vs.length ≤ L.length) : Bx (W.setCells b o vs) b (putL L o vs) := by
  induction vs generalizing W L o with
  | nil => exact h
  | cons v vs ih =>
    simp only [List.length_cons] at hl
    exact ih (h.set o v (by omega)) (o + 1) (by simp; omega)
theorem Bx.fars (h : Bx W b L) {b' : Nat} (hne : b' ≠ b) (o : Nat) (vs : List Value) : Bx (W.setCells b' o vs) b L := by
  induction vs generalizing W o with
  | nil => exact h
  | cons v vs ih => exact ih (h.far hne v) (o + 1)
theorem Bx.there (h : Bx W b L) (o n : Nat) (hl : o + n ≤ L.length) : W.there b o n := fun j hj => by
  refine ⟨?_, h.f _⟩
  rw [h.at (o + j) _ (List.getElem?_eq_getElem (by omega))]
  rfl
end
theorem Bl.set {w W : World} {b o : Nat} (h : Below w.heap.size w W) (hb : w.heap.size ≤ b) (v : Value) : Below w.heap.size w (W.setCell ⟨b, o, none⟩ v) := h.setCell hb v
theorem Bl.puts {w W : World} {b o : Nat} (h : Below w.heap.size w W) (hb : w.heap.size ≤ b) (vs : List Value) : Below w.heap.size w (W.setCells b o vs) := Pl.below hb vs o W h
theorem Pl.cutL {P : Program} {ops : Array Oper} {rest : List Oper} {Q : Exit → Act → World → Prop} {a : Act} {w : World} (K : World → Prop) (h : K w) (k : ∀ w', K w' → wpList P ops Q rest a w') : wpList P ops Q rest a w := k w h
theorem Pl.cutE {F : Exit → Act → World → Prop} {e : Exit} {a : Act} {w : World} (K : World → Prop) (h : K w) (k : ∀ w', K w' → F e a w') : F e a w := k w h
abbrev vL (p c l : Int) (h : Bool) (n : Int) : List Value := [.int .u16 p, .int .u16 c, .int .u8 l, .bool h, .int .u16 n]
structure V2 (w : World) (p c l n : Int) (h : Bool) (W : World) : Prop where
  low : Below w.heap.size w W
  v : Bx W w.heap.size (vL p c l h n)
  r : Bx W (w.heap.size + 1) (vL 0 0 0 false 0)
abbrev vcs (v : Vc) : List Value := [.int .u16 v.p, .int .u16 v.c, .int .u8 v.l, .bool v.h, .int .u16 v.n]
theorem check_ok (s : Sd) (w : World) (h : 0 ≤ s.w ∧ s.w ≤ 15) :
    Calls Try.prog 18 #[(.agg #[.int .u16 s.a.p, .int .u16 s.a.c, .int .u8 s.a.l, .bool s.a.h, .int .u16 s.a.n, .int .u16 s.b.p, .int .u16 s.b.c, .int .u8 s.b.l, .bool s.b.h, .int .u16 s.b.n, .int .u16 s.c.p, .int .u16 s.c.c, .int .u8 s.c.l, .bool s.c.h, .int .u16 s.c.n, .int .i64 s.w])] w fun e w' => e = .returned (.int .i64 0) ∧ Below w.heap.size w w' := by
  go_enter Try.func18, Try.ntmps18
  go_wp2
  go_ret
  exact ⟨rfl, stA (st0 _) _⟩
theorem check_bad (s : Sd) (w : World) (h : s.w < 0 ∨ 15 < s.w) :
    Calls Try.prog 18 #[(.agg #[.int .u16 s.a.p, .int .u16 s.a.c, .int .u8 s.a.l, .bool s.a.h, .int .u16 s.a.n, .int .u16 s.b.p, .int .u16 s.b.c, .int .u8 s.b.l, .bool s.b.h, .int .u16 s.b.n, .int .u16 s.c.p, .int .u16 s.c.c, .int .u8 s.c.l, .bool s.c.h, .int .u16 s.c.n, .int .i64 s.w])] w fun e w' => e = .returned (.int .i64 3) ∧ Below w.heap.size w w' := by
  rcases h with h | h
  · go_enter Try.func18, Try.ntmps18
    go_wp2
    go_ret
    exact ⟨rfl, stA (st0 _) _⟩
  · have h' : ¬ s.w < 0 := by omega
    go_enter Try.func18, Try.ntmps18
    go_wp2
    go_ret
    exact ⟨rfl, stA (st0 _) _⟩
end Go.Proofs.Ytdioiilmpjckfaa
