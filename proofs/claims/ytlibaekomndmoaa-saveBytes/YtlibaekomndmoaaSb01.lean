/-
  Parts of a proof, joined.
-/
import Derived.Test.YtlibaekomndmoaaSb00
import Derived.Laws.EntriesVeiled
import Derived.Laws.BytesArg
import Derived.Lib.Builder
import Derived.Laws.AppendOwnNone
import Derived.Deep.AppendLies
namespace Go.Proofs.Ytlibaekomndmoaa
open Go.ChangeShapes Go.WideShapes Go.ChangeAt Go.RowKit
set_option linter.unusedVariables false
set_option maxRecDepth 100000
structure Bx (W : World) (b : Nat) (L : List Value) : Prop where
  z : b < W.heap.size
  c : W.rangeAt b 0 L
  f : ∀ o, W.frozen? ⟨b, o, none⟩ = false
section
variable {W w1 : World} {b : Nat} {L : List Value}
theorem Bx.at (h : Bx W b L) (i : Nat) (v : Value) (e : L[i]? = some v) : W.cell? ⟨b, i, none⟩ = some v := by have := h.c i v e; rwa [Nat.zero_add] at this
theorem Bx.kept (h : Bx W b L) (hb : Below W.heap.size W w1) : Bx w1 b L :=
  ⟨Nat.lt_of_lt_of_le h.z hb.size, fun j v hj => (hb.cell (p := ⟨b, 0 + j, none⟩) h.z).trans (h.c j v hj), fun o => (hb.frozen (p := ⟨b, o, none⟩) h.z).trans (h.f o)⟩
theorem Bx.under {n : Nat} (h : Bx W b L) (hb : Below n W w1) (hn : b < n) : Bx w1 b L :=
  ⟨Nat.lt_of_lt_of_le h.z hb.size, fun j v hj => (hb.cell (p := ⟨b, 0 + j, none⟩) hn).trans (h.c j v hj), fun o => (hb.frozen (p := ⟨b, o, none⟩) hn).trans (h.f o)⟩
theorem Bx.over (h : Bx W b L) (o : Obj) : Bx (W.alloc o) b L := h.kept (stA (st0 W) o)
theorem Bx.drew (h : Bx W b L) : Bx W.drew b L := ⟨h.z, h.c, h.f⟩
theorem Bx.new (W : World) (L : List Value) (t : TypeId) {b : Nat} (hb : b = W.heap.size) : Bx (W.alloc (.cells L.toArray t)) b L := by
  subst hb
  exact ⟨by simp, fun j v hj => (Pl.new _ _ _ _ rfl).trans (by rw [Nat.zero_add]; simpa using hj), fun o => Lib.frozen_of_heap (heap_alloc_new W _) o⟩
theorem Bx.far (h : Bx W b L) {b' o' : Nat} (hne : b' ≠ b) (v : Value) : Bx (W.setCell ⟨b', o', none⟩ v) b L :=
  ⟨by simpa using h.z, fun j x hj => (World.cell?_setCell_far W _ _ v hne).trans (h.c j x hj), fun o => by simpa using h.f o⟩
theorem Bx.set (h : Bx W b L) (i : Nat) (v : Value) (hi : i < L.length) : Bx (W.setCell ⟨b, i, none⟩ v) b (L.set i v) := by
  refine ⟨by simpa using h.z, fun j x hj => ?_, fun o => by simpa using h.f o⟩
  rw [Nat.zero_add]
  by_cases e : i = j
  · subst e
    rw [List.getElem?_set_self hi] at hj
    have hs : (W.cell? ⟨b, i, none⟩).isSome := by rw [h.at i _ (List.getElem?_eq_getElem hi)]; rfl
    rw [← hj]
    exact World.cell?_setCell_same' _ _ _ hs
  · rw [List.getElem?_set_ne e] at hj
    exact (World.cell?_setCell_other _ _ _ _ (by intro x; exact e (congrArg Addr.off x))).trans (h.at j x hj)
def putL (L : List Value) (o : Nat) : List Value → List Value
  | [] => L
  | v :: vs => putL (L.set o v) (o + 1) vs
theorem Bx.puts (h : Bx W b L) (o : Nat) (vs : List Value) (hl : o + vs.length ≤ L.length) : Bx (W.setCells b o vs) b (putL L o vs) := by
  induction vs generalizing W L o with
  | nil => exact h
  | cons v vs ih =>
    simp only [List.length_cons] at hl
    exact ih (h.set o v (by omega)) (o + 1) (by simp; omega)
theorem Bx.fars (h : Bx W b L) {b' : Nat} (hne : b' ≠ b) (o : Nat) (vs : List Value) : Bx (W.setCells b' o vs) b L := by
  induction vs generalizing W o with
  | nil => exact h
  | cons v vs ih => exact ih (h.far hne v) (o + 1)
theorem Bx.there (h : Bx W b L) (o n : Nat) (hl : o + n ≤ L.length) : W.there b o n := fun j hj => by
  refine ⟨?_, h.f _⟩
  rw [h.at (o + j) _ (List.getElem?_eq_getElem (by omega))]
  rfl
end
theorem Bl.set {w W : World} {b o : Nat} (h : Below w.heap.size w W) (hb : w.heap.size ≤ b) (v : Value) : Below w.heap.size w (W.setCell ⟨b, o, none⟩ v) := h.setCell hb v
theorem Bl.puts {w W : World} {b o : Nat} (h : Below w.heap.size w W) (hb : w.heap.size ≤ b) (vs : List Value) : Below w.heap.size w (W.setCells b o vs) := Pl.below hb vs o W h
theorem Pl.cutL {P : Program} {ops : Array Oper} {rest : List Oper} {Q : Exit → Act → World → Prop} {a : Act} {w : World} (K : World → Prop) (h : K w) (k : ∀ w', K w' → wpList P ops Q rest a w') : wpList P ops Q rest a w := k w h
theorem Pl.cutE {F : Exit → Act → World → Prop} {e : Exit} {a : Act} {w : World} (K : World → Prop) (h : K w) (k : ∀ w', K w' → F e a w') : F e a w := k w h
abbrev vL (p c l : Int) (h : Bool) (n : Int) : List Value := [.int .u16 p, .int .u16 c, .int .u8 l, .bool h, .int .u16 n]
structure V2 (w : World) (p c l n : Int) (h : Bool) (W : World) : Prop where
  low : Below w.heap.size w W
  v : Bx W w.heap.size (vL p c l h n)
  r : Bx W (w.heap.size + 1) (vL 0 0 0 false 0)
abbrev vcs (v : Vc) : List Value := [.int .u16 v.p, .int .u16 v.c, .int .u8 v.l, .bool v.h, .int .u16 v.n]
theorem check_ok (s : Sd) (w : World) (h : 0 ≤ s.w ∧ s.w ≤ 15) :
    Calls Try.prog 18 #[(.agg #[.int .u16 s.a.p, .int .u16 s.a.c, .int .u8 s.a.l, .bool s.a.h, .int .u16 s.a.n, .int .u16 s.b.p, .int .u16 s.b.c, .int .u8 s.b.l, .bool s.b.h, .int .u16 s.b.n, .int .u16 s.c.p, .int .u16 s.c.c, .int .u8 s.c.l, .bool s.c.h, .int .u16 s.c.n, .int .i64 s.w])] w fun e w' => e = .returned (.int .i64 0) ∧ Below w.heap.size w w' := by
  go_enter Try.func18, Try.ntmps18
  go_wp2
  go_ret
  exact ⟨rfl, stA (st0 _) _⟩
theorem check_bad (s : Sd) (w : World) (h : s.w < 0 ∨ 15 < s.w) :
    Calls Try.prog 18 #[(.agg #[.int .u16 s.a.p, .int .u16 s.a.c, .int .u8 s.a.l, .bool s.a.h, .int .u16 s.a.n, .int .u16 s.b.p, .int .u16 s.b.c, .int .u8 s.b.l, .bool s.b.h, .int .u16 s.b.n, .int .u16 s.c.p, .int .u16 s.c.c, .int .u8 s.c.l, .bool s.c.h, .int .u16 s.c.n, .int .i64 s.w])] w fun e w' => e = .returned (.int .i64 3) ∧ Below w.heap.size w w' := by
  rcases h with h | h
  · go_enter Try.func18, Try.ntmps18
    go_wp2
    go_ret
    exact ⟨rfl, stA (st0 _) _⟩
  · have h' : ¬ s.w < 0 := by omega
    go_enter Try.func18, Try.ntmps18
    go_wp2
    go_ret
    exact ⟨rfl, stA (st0 _) _⟩
def mk (l : List UInt8) : ByteArray := ⟨l.toArray⟩
theorem mk_toList (l : List UInt8) : (mk l).toList = l := by rw [ByteArray.toList_eq]; rfl
def bcs (l : List UInt8) : List Value := l.map (fun c => Value.int .u8 c.toNat)
def bytesAt (w : World) (g o : Nat) (l : List UInt8) : Prop := ∀ (j : Nat) (c : UInt8), l[j]? = some c → w.cell? ⟨g, o + j, none⟩ = some (.int .u8 c.toNat)
theorem bytesAt.kept {w w' : World} {g o B : Nat} {l : List UInt8} (h : bytesAt w g o l) (hb : Below B w w') (hB : g < B) : bytesAt w' g o l := fun j c hj => (hb.cell hB).trans (h j c hj)
def sliceAt (w : World) (v : Value) (l : List UInt8) : Prop := (∃ a cap, v = .slice a 0 cap ∧ l = []) ∨ ∃ g o cap, v = .slice (some ⟨g, o, none⟩) l.length cap ∧ l.length ≤ cap ∧ g < w.heap.size ∧ bytesAt w g o l
theorem sliceAt.kept {w w' : World} {v : Value} {l : List UInt8} (h : sliceAt w v l) (hb : Below w.heap.size w w') : sliceAt w' v l := by
  rcases h with h | ⟨g, o, cap, h1, h2, h3, h4⟩
  · exact Or.inl h
  · exact Or.inr ⟨g, o, cap, h1, h2, Nat.lt_of_lt_of_le h3 hb.size, h4.kept hb h3⟩
theorem slice_len {w : World} {v : Value} {l : List UInt8} (h : sliceAt w v l) : ∃ a c, v = .slice a l.length c := by
  rcases h with ⟨a, c, h1, rfl⟩ | ⟨g, o, c, h1, _⟩
  · exact ⟨a, c, h1⟩
  · exact ⟨_, c, h1⟩
theorem slice_of_own {w : World} {B : Nat} {v : Value} {l : List UInt8} (h : w.ownsRow B 5 1 v l.length (bcs l)) : sliceAt w v l := by
  rcases h.2 with ⟨rfl, h0⟩ | ⟨g, cap, cur, rfl, hb, hg, hn, hm, hs, ht⟩
  · exact Or.inl ⟨none, 0, rfl, List.length_eq_zero_iff.1 h0⟩
  · refine Or.inr ⟨g, 0, cap, rfl, hn, (Array.getElem?_eq_some_iff.1 hg).1, fun j c hj => ?_⟩
    have hjl := (List.getElem?_eq_some_iff.1 hj).1
    rw [Nat.zero_add, Lib.cell_of_heap hg j]
    have e : cur[j]? = (cur.toList.take (l.length * 1))[j]? := by rw [List.getElem?_take, if_pos (by omega)]; simp
    rw [e, ht, bcs, List.getElem?_map, hj]
    rfl
theorem own_of_block {w w' : World} {B : Nat} {v : Value} {n : Nat} {xs : List Value} (h : w.ownsRow B 5 1 v n xs) (e : ∀ k, v.ownBlock = some k → w'.heap[k]? = w.heap[k]?) : w'.ownsRow B 5 1 v n xs := by
  refine ⟨h.1, ?_⟩
  rcases h.2 with h2 | ⟨g, cap, cur, rfl, hb, hg, r⟩
  · exact Or.inl h2
  · exact Or.inr ⟨g, cap, cur, rfl, hb, (e g rfl).trans hg, r⟩
theorem getD_nums (l : List UInt8) (i : Nat) (hi : i < l.length) : ∃ c, l[i]? = some c ∧ (l.map (fun c => (c.toNat : Int))).getD i 0 = (c.toNat : Int) := by
  refine ⟨l[i], List.getElem?_eq_getElem hi, ?_⟩
  simp [List.getD, List.getElem?_eq_getElem hi]
theorem addr_add (g o j : Nat) : (⟨g, o, none⟩ : Addr).add j = ⟨g, o + j, none⟩ := by unfold Addr.add; split <;> simp_all
theorem mk_nums (l : List UInt8) : strOfNums (l.map (fun c => (c.toNat : Int))) = mk l := by
  unfold strOfNums mk
  rw [List.map_map]
  congr 2
  have : ((fun n : Int => UInt8.ofNat n.toNat) ∘ fun c : UInt8 => (c.toNat : Int)) = id := by funext c; simp
  rw [this, List.map_id]
theorem conv_any {w : World} {v : Value} {l : List UInt8} (h : sliceAt w v l) : (convert 26 9 v).run Try.prog w = .ok (.string (mk l)) w := by
  rcases h with ⟨a, cap, rfl, rfl⟩ | ⟨g, o, cap, rfl, h2, h3, h4⟩
  · cases a with
    | none => exact run_convert_bytes_nil w 26 5 Try.underlying26 Try.underlying5 0 cap 9 Try.underlying9
    | some a =>
      have hl : (loadCells a 0).run Try.prog w = .ok (([] : List Int).map (Value.int .u8)).toArray w := run_loadCells_list (P := Try.prog) w a [] (fun j v hj => by simp at hj)
      rw [run_convert_bytes_string w 26 9 5 _ 0 cap Try.underlying26 Try.underlying5 Try.underlying9, run_bytesToString w a 0 cap [] hl]
      rfl
  · have := run_convert_bytes_arg (P := Try.prog) w 26 5 Try.underlying26 Try.underlying5 g o l.length cap (l.map (fun c => (c.toNat : Int))) (by simp) (fun i hi => by
      obtain ⟨c, hc, hg⟩ := getD_nums l i hi
      rw [hg]; exact h4 i c hc) 9 Try.underlying9
    rw [mk_nums] at this
    exact this
theorem info_parts {i : Option TypeInfo} {z : Value} {s y : Nat} (h : i.map (fun i => (i.zero, i.size, i.bytes)) = some (some z, s, y)) : ∃ i0, i = some i0 ∧ i0.zero = some z ∧ i0.size = s ∧ i0.bytes = y := by
  cases i with
  | none => cases h
  | some i0 =>
    simp only [Option.map_some, Option.some.injEq, Prod.mk.injEq] at h
    exact ⟨i0, rfl, h.1, h.2.1, h.2.2⟩
theorem equal_any (v1 v2 : Value) (l1 l2 : List UInt8) (w : World) (h1 : sliceAt w v1 l1) (h2 : sliceAt w v2 l2) :
    Calls Try.prog 11 #[v1, v2] w fun e w' => e = .returned (.bool (l1 == l2)) ∧ w = w' := by
  have c1 := conv_any h1
  have c2 := conv_any h2
  go_enter Try.func11, Try.ntmps11
  go_wp2
  go_ret
  exact ⟨by simp [mk_toList], rfl⟩
theorem info_byte : (Try.prog.info? 5).map (fun i => (i.zero, i.size, i.bytes)) = some (some (.int .u8 0), 1, 1) := by kernel_rfl
theorem bcs_append (a b : List UInt8) : bcs a ++ bcs b = bcs (a ++ b) := by simp [bcs]
theorem appendNo (B : Nat) (i : TypeInfo) (hi : Try.prog.info? 5 = some i) (ty : TypeId) (v : Value) (n : Nat) (xs : List Value) {w : World} (hown : w.ownsRow B 5 1 v n xs) (a : Option Addr) (c : Nat) :
    (Builtin.append_ #[26, 26] ty #[v, .slice a 0 c]).run Try.prog w = .ok v w := by
  have hu := run_underlying (P := Try.prog) Try.underlying26
  have hf : (Builtin.firstCells i.size 0 (.slice a 0 c)).run Try.prog w = .ok #[] w := by
    cases a with
    | none => exact run_firstCells_none w i.size 0 0 c
    | some a => exact run_firstCells_some w i.size 0 a 0 c [] (by simp) (fun j v hj => by simp at hj)
  rcases hown.2 with ⟨rfl, rfl⟩ | ⟨g, cap, cur, rfl, _, _, hnc, _⟩
  · simp [Builtin.append_, hu, sizeOf, typeInfo, hi, Builtin.lenOf, hf]
  · simp [Builtin.append_, hu, sizeOf, typeInfo, hi, Builtin.lenOf, hf, hnc, storeCells]
theorem wpList_appSlice {ops : Array Oper} {rest : List Oper} {o : Oper} {a : Act} {w : World} {Q : Exit → Act → World → Prop} (hgd : o.guard = none) (s x : Operand) (ho : o.op = .call { callee := .builtin .append, args := #[s, x], argTypes := #[26, 26] })
    (B : Nat) (v : Value) (xs : List UInt8) (hs : a.eval s = v) (hown : w.ownsRow B 5 1 v xs.length (bcs xs)) (xv : Value) (hx : a.eval x = xv) (l : List UInt8) (hl : sliceAt w xv l) (hb : xs.length + l.length ≤ 100000) (hB : B ≤ w.heap.size)
    (h : ∀ v' w', w'.ownsRow B 5 1 v' (xs ++ l).length (bcs (xs ++ l)) → Below B w w' → wpList Try.prog ops Q rest (a.put o.dst v') w') : wpList Try.prog ops Q (o :: rest) a w := by
  obtain ⟨i0, hi0, hz0, hz1, hz2⟩ := info_parts info_byte
  by_cases hl0 : l = []
  · subst hl0
    have hxv : ∃ ad c, xv = .slice ad 0 c := by
      rcases hl with ⟨ad, c, h1, _⟩ | ⟨g, o', c, h1, _⟩
      · exact ⟨ad, c, h1⟩
      · exact ⟨_, c, h1⟩
    obtain ⟨ad, c, rfl⟩ := hxv
    refine wpList_plain hgd fun K hK => ?_
    have hrun := appendNo B i0 hi0 o.type v xs.length (bcs xs) hown ad c
    unfold Oper.wp
    simp [execOp, ho, resolve, invoke, builtin, hs, hx, hrun, Result.andThen]
    exact hK _ _ (h v w (by simpa using hown) (Below.refl _ _))
  · rcases hl with ⟨ad, c, _, h2⟩ | ⟨g, o', c, h1, h2, h3, h4⟩
    · exact absurd h2 hl0
    · have hlen : 0 < l.length := by cases l with | nil => exact absurd rfl hl0 | cons _ _ => simp
      refine wpList_append_lies _ hgd s x _ ho B 5 i0 _ 1 1 Try.underlying26 hi0 hz0 hz1 hz2 rfl (by omega) v xs.length (bcs xs) hs hown ⟨g, o', none⟩ l.length c (bcs l) (hx.trans h1) (by simp [bcs]) (fun j u hj => ?_) (fun u hu => ?_) hlen (by unfold maxLen; omega) (by omega) hB w.heap.size rfl ?_
      · simp only [bcs, List.getElem?_map, Option.map_eq_some_iff] at hj
        obtain ⟨cc, hc1, hc2⟩ := hj
        rw [← hc2, show (⟨g, o', none⟩ : Addr).add j = ⟨g, o' + j, none⟩ by unfold Addr.add; split <;> simp_all]
        exact h4 j cc hc1
      · simp only [bcs, List.mem_map] at hu
        obtain ⟨cc, _, rfl⟩ := hu
        rfl
      · intro g' cap w' hown' hgrow _ _
        refine h _ w' ?_ ((Below.refl B w).grown hgrow hB (fun k hk => (hown.lt k hk).1))
        rw [List.length_append, ← bcs_append]; exact hown'
abbrev scs (s : Sd) : List Value := [.int .u16 s.a.p, .int .u16 s.a.c, .int .u8 s.a.l, .bool s.a.h, .int .u16 s.a.n, .int .u16 s.b.p, .int .u16 s.b.c, .int .u8 s.b.l, .bool s.b.h, .int .u16 s.b.n, .int .u16 s.c.p, .int .u16 s.c.c, .int .u8 s.c.l, .bool s.c.h, .int .u16 s.c.n, .int .i64 s.w]
abbrev zs : List Value := [.int .u16 0, .int .u16 0, .int .u8 0, .bool false, .int .u16 0, .int .u16 0, .int .u16 0, .int .u8 0, .bool false, .int .u16 0, .int .u16 0, .int .u16 0, .int .u8 0, .bool false, .int .u16 0, .int .i64 0]
theorem own_kept {w w' : World} {B n : Nat} {v : Value} {xs : List Value} (h : w.ownsRow B 5 1 v n xs) (hb : Below w.heap.size w w') : w'.ownsRow B 5 1 v n xs := own_of_block h (fun k hk => hb.block k (h.lt k hk).2)
theorem bl_grown {w w' : World} {B : Nat} {x : Option Nat} (h : w.grownBy w' x) (hB : B ≤ w.heap.size) (hx : ∀ k, x = some k → B ≤ k) : Below B w w' := (Below.refl B w).grown h hB hx
theorem info_sound : (Try.prog.info? 36).map (·.size) = some 16 := by kernel_rfl
theorem under_three : Try.prog.underlying 34 = some (.array 3 33) := by kernel_rfl
section
variable {w W w1 : World} {x : Sd} {l : List UInt8} {v : Value}
end
theorem bytes_any (a : Int) (w : World) (h : 0 ≤ a ∧ a ≤ 65535) :
    Calls Try.prog 69 #[.int .u16 a] w fun e w' => e = .returned (.tuple #[.int .u8 (a / 256), .int .u8 (a % 256)]) ∧ w = w' := by
  go_enter Try.func69, Try.ntmps69
  go_wp2
  go_ret2
  exact ⟨rfl, rfl⟩
theorem of_any (a b : Int) (w : World) (ha : 0 ≤ a ∧ a ≤ 255) (hb : 0 ≤ b ∧ b ≤ 255) :
    Calls Try.prog 60 #[.int .u8 a, .int .u8 b] w fun e w' => e = .returned (.int .u16 (a * 256 + b)) ∧ w = w' := by
  have e := M.joined a b ha.1 ha.2 hb.1 hb.2
  go_enter Try.func60, Try.ntmps60
  go_wp2
  go_ret
  exact ⟨by first | rfl | (simp [e]; done) | (rw [e]), rfl⟩
def Vc.put (v : Vc) (k : Nat) (b : Int) : Vc :=
  if k = 0 then ⟨b * 256 + v.p % 256, v.c, v.l, v.h, v.n⟩ else if k = 1 then ⟨v.p / 256 * 256 + b, v.c, v.l, v.h, v.n⟩ else if k = 2 then ⟨v.p, v.c, b % 16, v.h, v.n⟩
  else if k = 3 then ⟨v.p, v.c, v.l, v.h, b * 256 + v.n % 256⟩ else if k = 4 then ⟨v.p, v.c, v.l, v.h, v.n / 256 * 256 + b⟩ else v
def Sd.put (s : Sd) (k : Nat) (b : Int) : Sd := if k < 8 then ⟨s.a.put (k % 8) b, s.b, s.c, s.w⟩ else if k < 16 then ⟨s.a, s.b.put (k % 8) b, s.c, s.w⟩ else ⟨s.a, s.b, s.c.put (k % 8) b, s.w⟩
end Go.Proofs.Ytlibaekomndmoaa
