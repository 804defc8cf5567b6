/-
  Parts of a proof, joined.
-/
import Derived.Test.YtdioiilmpjckfaaZt05
import Derived.Test.YtdioiilmpjckfaaZt03
import Derived.Deep.DeepCutAuto
import Derived.Test.YtdioiilmpjckfaaZt02
import Derived.Test.YtdioiilmpjckfaaZt01
import Derived.ChangeKeysEq
import Derived.Deep.RegionHeld3
import Derived.Test.YtdioiilmpjckfaaZt04
namespace Go.Proofs.Ytdioiilmpjckfaa
open Go.ChangeShapes Go.WideShapes Go.ChangeAt Go.RowKit
set_option linter.unusedVariables false
set_option maxRecDepth 100000
def zeroM : Mach := ⟨C.Cpu.zero, C.Cpu.zero, [], [], [], [], [], ⟨0, false, 0⟩, ⟨0, false, 0⟩, ⟨0, 0, false, false⟩, ⟨⟨0, 0, 0, false, 0⟩, ⟨0, 0, 0, false, 0⟩, ⟨0, 0, 0, false, 0⟩, 0⟩, ⟨0, 0, false, 0⟩, 0, 0, false, false, 0, 0, false, 0, 0, 0⟩
def nilS : Sl := ⟨.slice none 0 0, .slice none 0 0, .slice none 0 0, .slice none 0 0, .slice none 0 0⟩
def OwnAt (B : Nat) (M : Mach) (S : Sl) (Y : World) (j : Nat) : Prop := (S.get j = .slice none 0 0 ∧ M.byt j = []) ∨ ∃ b cap, S.get j = .slice (some ⟨b, 0, none⟩) (M.byt j).length cap ∧ (M.byt j).length ≤ cap ∧ B ≤ b ∧ Bx Y b (bcs (M.byt j))
structure OwnK (B : Nat) (M : Mach) (S : Sl) (k : Nat) (Y : World) : Prop where
  own : ∀ j, j < k → OwnAt B M S Y j
  dist : ∀ i j b b' n c n' c', i < k → j < k → i ≠ j → S.get i = .slice (some ⟨b, 0, none⟩) n c → S.get j = .slice (some ⟨b', 0, none⟩) n' c' → b ≠ b'
theorem OwnAt.same {B : Nat} {M : Mach} {S : Sl} {Y Y' : World} {j : Nat} (h : OwnAt B M S Y j) (hz : Y.heap.size ≤ Y'.heap.size) (e : ∀ b, B ≤ b → b < Y.heap.size → Y'.heap[b]? = Y.heap[b]?) : OwnAt B M S Y' j := by
  rcases h with h | ⟨b, cap, h1, h2, h3, h4⟩
  · exact Or.inl h
  · exact Or.inr ⟨b, cap, h1, h2, h3, h4.same hz (e b h3 h4.z)⟩
theorem OwnK.same {B : Nat} {M : Mach} {S : Sl} {k : Nat} {Y Y' : World} (h : OwnK B M S k Y) (hz : Y.heap.size ≤ Y'.heap.size) (e : ∀ b, B ≤ b → b < Y.heap.size → Y'.heap[b]? = Y.heap[b]?) : OwnK B M S k Y' :=
  ⟨fun j hj => (h.own j hj).same hz e, h.dist⟩
theorem OwnK.isSl {B : Nat} {M : Mach} {S : Sl} {Y : World} (h : OwnK B M S 5 Y) : S.isSl := fun j hj => by
  rcases h.own j hj with ⟨e, _⟩ | ⟨b, cap, e, _⟩
  · exact ⟨_, _, _, e⟩
  · exact ⟨_, _, _, e⟩
structure CP (w : World) (M : Mach) (S0 : Sl) (k : Nat) (S : Sl) (Y : World) : Prop where
  low : Below w.heap.size w Y
  bx : Bx Y w.heap.size (machL M S)
  res : Bx Y (w.heap.size + 1) (machL zeroM nilS)
  ptr : Bx Y (w.heap.size + 2) [pt w.heap.size 30, pt w.heap.size 31, pt w.heap.size 32, pt w.heap.size 33, pt w.heap.size 34]
  own : OwnK (w.heap.size + 3) M S k Y
  todo : ∀ j, j < 5 → k ≤ j → S.get j = S0.get j
theorem CP.next {w Y w1 : World} {M : Mach} {S0 S : Sl} {k : Nat} {v : Value} (h : CP w M S0 k S Y) (hk : k < 5) (ho : w1.ownsRow Y.heap.size 5 1 v (M.byt k).length (bcs (M.byt k))) (hb : Below Y.heap.size Y w1) :
    CP w M S0 (k + 1) (S.set k v) (w1.setCell ⟨w.heap.size, 30 + k, none⟩ v) := by
  have hz := h.ptr.z
  have hz1 := hb.size
  have hsame : ∀ b, w.heap.size + 3 ≤ b → b < Y.heap.size → (w1.setCell ⟨w.heap.size, 30 + k, none⟩ v).heap[b]? = Y.heap[b]? := fun b h1 h2 => (heap_set_far (by omega)).trans (hb.block b h2)
  have hold := h.own.same (Y' := w1.setCell ⟨w.heap.size, 30 + k, none⟩ v) (by rw [size_set]; exact hz1) hsame
  have hlen : 30 + k < (machL M S).length := by rw [machL_len]; omega
  refine ⟨(stp h.low hb).setCell (Nat.le_refl _) _, ?_, (h.res.kept hb).far (by omega) _, (h.ptr.kept hb).far (by omega) _, ⟨fun j hj => ?_, fun i j b b' n c n' c' hi hj hij e1 e2 => ?_⟩, fun j hj hkj => ?_⟩
  · rw [← machL_set M S k v hk]
    exact (h.bx.kept hb).set _ _ hlen
  · unfold OwnAt
    rw [S.get_set k j v hk (by omega)]
    by_cases e : j = k
    · subst e
      rw [if_pos rfl]
      rcases own_rw ho with ⟨e1, e2⟩ | ⟨b, cap, e1, e2, e3, e4⟩
      · exact Or.inl ⟨e1, e2⟩
      · exact Or.inr ⟨b, cap, e1, e2, by omega, e4.far (by omega) _⟩
    · rw [if_neg e]
      exact hold.own j (by omega)
  · rw [S.get_set k i v hk (by omega)] at e1
    rw [S.get_set k j v hk (by omega)] at e2
    by_cases ei : i = k
    · by_cases ej : j = k
      · omega
      · rw [if_pos ei] at e1
        rw [if_neg ej] at e2
        have hbn : Y.heap.size ≤ b := by
          rcases own_rw ho with ⟨x1, _⟩ | ⟨bb, cap, x1, _, x3, _⟩
          · rw [x1] at e1; cases e1
          · rw [x1] at e1; cases e1; exact x3
        rcases h.own.own j (by omega) with ⟨x1, _⟩ | ⟨bb, cap, x1, _, _, x4⟩
        · rw [x1] at e2; cases e2
        · rw [x1] at e2; cases e2; have := x4.z; omega
    · rw [if_neg ei] at e1
      by_cases ej : j = k
      · rw [if_pos ej] at e2
        have hbn : Y.heap.size ≤ b' := by
          rcases own_rw ho with ⟨x1, _⟩ | ⟨bb, cap, x1, _, x3, _⟩
          · rw [x1] at e2; cases e2
          · rw [x1] at e2; cases e2; exact x3
        rcases h.own.own i (by omega) with ⟨x1, _⟩ | ⟨bb, cap, x1, _, _, x4⟩
        · rw [x1] at e1; cases e1
        · rw [x1] at e1; cases e1; have := x4.z; omega
      · rw [if_neg ej] at e2
        exact h.own.dist i j b b' n c n' c' (by omega) (by omega) hij e1 e2
  · rw [S.get_set k j v hk hj, if_neg (by omega)]
    exact h.todo j hj (by omega)
theorem ptr_at (z k : Nat) (hk : k < 5) : ([pt z 30, pt z 31, pt z 32, pt z 33, pt z 34] : List Value)[k]? = some (pt z (30 + k)) := by
  rcases five hk with rfl | rfl | rfl | rfl | rfl <;> rfl
theorem zero_sl : nilS.isSl := fun j hj => by rcases five hj with rfl | rfl | rfl | rfl | rfl <;> exact ⟨_, _, _, rfl⟩
theorem CP.start (w : World) (M : Mach) (S : Sl) (o1 o2 o3 : TypeId) : CP w M S 0 S (((w.alloc (.cells (machL M S).toArray o1)).alloc (.cells (machL zeroM nilS).toArray o2)).alloc (.cells #[pt w.heap.size 30, pt w.heap.size 31, pt w.heap.size 32, pt w.heap.size 33, pt w.heap.size 34] o3)) :=
  ⟨stA (stA (stA (st0 w) _) _) _, ((Bx.new w (machL M S) o1 rfl).over _).over _, (Bx.new (w.alloc _) (machL zeroM nilS) o2 (by simp)).over _, Bx.new _ [pt w.heap.size 30, pt w.heap.size 31, pt w.heap.size 32, pt w.heap.size 33, pt w.heap.size 34] o3 (by simp), ⟨fun j hj => by omega, fun i j b b' n c n' c' hi => by omega⟩, fun j _ _ => rfl⟩
theorem own_sl {w : World} {B : Nat} {v : Value} {l : List UInt8} (h : w.ownsRow B 5 1 v l.length (bcs l)) : ∃ a n c, v = .slice a n c := by
  rcases own_rw h with ⟨e, _⟩ | ⟨k, cap, e, _⟩
  · exact ⟨_, _, _, e⟩
  · exact ⟨_, _, _, e⟩
theorem cp_two {Y w1 : World} {x o : Nat} {v : Value} (hb : Below Y.heap.size Y w1) (hc : Y.cell? ⟨x, o, none⟩ = some v) (hf : Y.frozen? ⟨x, o, none⟩ = false) (hz : x < Y.heap.size) : w1.cell? ⟨x, o, none⟩ = some v ∧ w1.frozen? ⟨x, o, none⟩ = false ∧ x < w1.heap.size :=
  ⟨(hb.cell (p := ⟨x, o, none⟩) hz).trans hc, (hb.frozen (p := ⟨x, o, none⟩) hz).trans hf, Nat.lt_of_lt_of_le hz hb.size⟩
theorem putL_whole (L L' : List Value) (h : L'.length = L.length) : putL L 0 L' = L' := by
  have := putL_mid [] L' L [] h
  simpa using this
set_option maxHeartbeats 800000 in
theorem Bu.copy_any (M : Mach) (S : Sl) (w : World) (hs : ∀ j, j < 5 → sliceAt w (S.get j) (M.byt j)) (hl : ∀ j, j < 5 → (M.byt j).length ≤ 100000) :
    Calls Try.prog 31 #[.agg (machL M S).toArray] w fun e w' => ∃ S', e = .returned (.agg (machL M S').toArray) ∧ OwnK (w.heap.size + 3) M S' 5 w' ∧ Below w.heap.size w w' := by
  go_enter Try.func31, Try.ntmps31
  go_wp2
  refine Pl.cutW (CP w M S 0 S) (CP.start w M S _ _ _) ?_
  intro Y hY
  have HY := hid hY
  clear hY
  go_loopw [12] (fun i wr => ∃ (k : Nat) (S1 : Sl), k ≤ 5 ∧ i = .int .i64 k ∧ CP w M S k S1 wr) (fun i _ => 5 - (intOf i).toNat)
  case atStart => exact ⟨0, S, by omega, rfl, HY.out⟩
  case round =>
    obtain ⟨k, S1, hk, rfl, hC⟩ := hrel
    clear HY
    by_cases hlt : k < 5
    · have hlt2 : (k : Int) < 5 := by omega
      have c1 := hC.ptr.at k _ (ptr_at _ k hlt)
      have c2 := hC.bx.at (30 + k) _ (machL_at M S1 k hlt)
      have e0 := hC.todo k hlt (Nat.le_refl _)
      rw [e0] at c2
      have z1 := hC.ptr.z
      have z0 := hC.bx.z
      have hsl := hid ((hs k hlt).kept hC.low)
      have hll := hl k hlt
      have HC := hid hC
      clear hC e0 hs hl
      go_wp2_with (go_at_call 39; refine (Bu.clone_any _ (M.byt k) _ hsl.out hll).mono ?_; rintro e w1 ⟨v', rfl, hown, hb1⟩; obtain ⟨av, nv, cv, rfl⟩ := own_sl hown; have HO := hid hown; have HB := hid hb1; obtain ⟨d1, d2, d3⟩ := cp_two hb1 c2 (HC.out.bx.f (30 + k)) z0; clear hown hb1)
      go_roundw
      case rel => exact ⟨k + 1, S1.set k (.slice av nv cv), by omega, by go_num, HC.out.next hlt HO.out HB.out⟩
      case measure => simp [intOf]; omega
    · obtain rfl : k = 5 := by omega
      have z0 := hC.bx.z
      have z1 := hC.res.z
      have HC := hid hC
      have HONE := hid (machL_one M S1 hC.own.isSl)
      clear hC hs hl
      go_wp2_with (first
        | (refine wpList_load_mid rfl 41 _ rfl w.heap.size 0 rfl (machL M S1) _ HC.out.bx.c Try.underlying41 rfl info_mach ?_)
        | (refine wpList_store_mid rfl 41 _ _ rfl (w.heap.size + 1) 0 (machL M S1).toArray rfl rfl (HC.out.res.there 0 75 (by rw [machL_len]; omega)) info_mach HONE.out ?_
           refine Pl.cutL (fun X => Below w.heap.size w X ∧ Bx X (w.heap.size + 1) (machL M S1) ∧ OwnK (w.heap.size + 3) M S1 5 X) ⟨?_, ?_, ?_⟩ ?_
           · exact Bl.puts HC.out.low (by omega) _
           · have hx := HC.out.res.puts 0 (machL M S1) (by rw [machL_len, machL_len]; omega)
             rw [putL_whole _ _ (by rw [machL_len, machL_len])] at hx
             exact hx
           · exact HC.out.own.same (Nat.le_of_eq (size_sets _ _ _ _).symm) (fun b h1 h2 => heap_sets_far (by omega) _ _ _)
           rintro X ⟨hX1, hX2, hX3⟩
           have HX1 := hid hX1
           have HX2 := hid hX2
           have HX3 := hid hX3
           clear hX1 hX2 hX3))
      exact bodyPost_ret (v := .agg (machL M S1).toArray) (by simp only [results, Try.results31]; simp; exact Pl.res (load_mach M S1 HX2.out.c)) rfl ⟨S1, rfl, HX3.out, HX1.out⟩
theorem eqv (v : Vc) (d : Nat) (w : World) : (Op.equalIn (d + 2) 33 (.agg #[.int .u16 v.p, .int .u16 v.c, .int .u8 v.l, .bool v.h, .int .u16 v.n]) (.agg #[.int .u16 v.p, .int .u16 v.c, .int .u8 v.l, .bool v.h, .int .u16 v.n])).run Try.prog w = .ok true w := by
  have u3 := Try.underlying22
  have a3 := Try.isAgg22
  have z3 := Try.sizeOf22
  have u4 := Try.underlying4
  have a4 := Try.isAgg4
  have z4 := Try.sizeOf4
  have u5 := Try.underlying5
  have a5 := Try.isAgg5
  have z5 := Try.sizeOf5
  have hS : Try.prog.underlying 33 = some (.struct (Try.prog.fieldsOf 33)) := by kernel_rfl
  have hp : Try.prog.stoodInHeld 33 = false := by kernel_rfl
  rw [run_equalIn_agg w (d + 1) 33 _ _ hS hp]
  simp only [Program.fieldsOf, Try.underlying33]
  go_simp
theorem eq_three (s : Sd) (d : Nat) (w : World) : (Op.equalIn (d + 3) 34 (.agg #[.int .u16 s.a.p, .int .u16 s.a.c, .int .u8 s.a.l, .bool s.a.h, .int .u16 s.a.n, .int .u16 s.b.p, .int .u16 s.b.c, .int .u8 s.b.l, .bool s.b.h, .int .u16 s.b.n, .int .u16 s.c.p, .int .u16 s.c.c, .int .u8 s.c.l, .bool s.c.h, .int .u16 s.c.n]) (.agg #[.int .u16 s.a.p, .int .u16 s.a.c, .int .u8 s.a.l, .bool s.a.h, .int .u16 s.a.n, .int .u16 s.b.p, .int .u16 s.b.c, .int .u8 s.b.l, .bool s.b.h, .int .u16 s.b.n, .int .u16 s.c.p, .int .u16 s.c.c, .int .u8 s.c.l, .bool s.c.h, .int .u16 s.c.n])).run Try.prog w = .ok true w := by
  have h0 := eqv s.a d
  have h1 := eqv s.b d
  have h2 := eqv s.c d
  have a3 := Try.isAgg33
  have z3 := Try.sizeOf33
  have hU : Try.prog.cellsOf 33 = 5 := by kernel_rfl
  have hs : (Try.prog.info? 33).isSome = true := by kernel_rfl
  obtain ⟨i, hi⟩ := Option.isSome_iff_exists.1 hs
  rw [run_equalIn_array w (d + 2) _ _ under_three hi, hU]
  simp only [List.range, List.range.loop, Op.eqItems]
  go_simp
theorem eq_sound (s : Sd) (w : World) : (binOp .eql 36 (.agg #[.int .u16 s.a.p, .int .u16 s.a.c, .int .u8 s.a.l, .bool s.a.h, .int .u16 s.a.n, .int .u16 s.b.p, .int .u16 s.b.c, .int .u8 s.b.l, .bool s.b.h, .int .u16 s.b.n, .int .u16 s.c.p, .int .u16 s.c.c, .int .u8 s.c.l, .bool s.c.h, .int .u16 s.c.n, .int .i64 s.w]) (.agg #[.int .u16 s.a.p, .int .u16 s.a.c, .int .u8 s.a.l, .bool s.a.h, .int .u16 s.a.n, .int .u16 s.b.p, .int .u16 s.b.c, .int .u8 s.b.l, .bool s.b.h, .int .u16 s.b.n, .int .u16 s.c.p, .int .u16 s.c.c, .int .u8 s.c.l, .bool s.c.h, .int .u16 s.c.n, .int .i64 s.w])).run Try.prog w = .ok (.bool true) w := by
  have u3 := Try.underlying3
  have x3 := Try.isAgg3
  have z3 := Try.sizeOf3
  have x5 := Try.isAgg34
  have z5 := Try.sizeOf34
  have ha := eq_three s 9996
  have hS : Try.prog.underlying 36 = some (.struct (Try.prog.fieldsOf 36)) := by kernel_rfl
  have hp : Try.prog.stoodInHeld 36 = false := by kernel_rfl
  rw [run_eql_struct, show (10000 : Nat) = 9999 + 1 from rfl, run_equalIn_agg w 9999 36 _ _ hS hp]
  simp only [Program.fieldsOf, Try.underlying36]
  go_simp
theorem Bx.w0 {W : World} {b : Nat} {x : Sd} (h : Bx W b (scs x)) : W.cell? ⟨b, 0, none⟩ = some (.int .u16 x.a.p) ∧ W.cell? ⟨b, 1, none⟩ = some (.int .u16 x.a.c) ∧ W.cell? ⟨b, 2, none⟩ = some (.int .u8 x.a.l) ∧ W.cell? ⟨b, 3, none⟩ = some (.bool x.a.h) ∧ W.cell? ⟨b, 4, none⟩ = some (.int .u16 x.a.n) ∧ b < W.heap.size ∧ ∀ o, W.frozen? ⟨b, o, none⟩ = false :=
  ⟨h.at 0 _ rfl, h.at 1 _ rfl, h.at 2 _ rfl, h.at 3 _ rfl, h.at 4 _ rfl, h.z, h.f⟩
theorem Bx.w1 {W : World} {b : Nat} {x : Sd} (h : Bx W b (scs x)) : W.cell? ⟨b, 5, none⟩ = some (.int .u16 x.b.p) ∧ W.cell? ⟨b, 6, none⟩ = some (.int .u16 x.b.c) ∧ W.cell? ⟨b, 7, none⟩ = some (.int .u8 x.b.l) ∧ W.cell? ⟨b, 8, none⟩ = some (.bool x.b.h) ∧ W.cell? ⟨b, 9, none⟩ = some (.int .u16 x.b.n) ∧ b < W.heap.size ∧ ∀ o, W.frozen? ⟨b, o, none⟩ = false :=
  ⟨h.at 5 _ rfl, h.at 6 _ rfl, h.at 7 _ rfl, h.at 8 _ rfl, h.at 9 _ rfl, h.z, h.f⟩
def Mach.chk (M : Mach) : Int :=
  if M.mrom.length ≤ 1024 ∧ M.arom.length ≤ 1024 then
    if M.ram.length = 128 ∧ M.own.length = 64 ∧ M.video.length = 256 then
      if 0 ≤ M.s.w ∧ M.s.w ≤ 15 then
        if bok M.b.l M.b.a M.b.f then
          if (0 ≤ M.clock ∧ M.clock ≤ 200000) ∧ (0 ≤ M.mready ∧ M.mready ≤ M.clock + 20000) ∧ (0 ≤ M.aready ∧ M.aready ≤ M.clock + 20000) then 0 else 3
        else 3
      else 3
    else 4
  else 2
theorem chk_fit {M : Mach} (hok : M.ok) (h : M.chk = 0) : M.fit := by
  unfold Mach.chk at h
  split at h
  · rename_i h1
    split at h
    · rename_i h2
      split at h
      · rename_i h3
        split at h
        · rename_i h4
          split at h
          · rename_i h5
            exact ⟨hok, h1.1, h1.2, h2.1, h2.2.1, h2.2.2, h3, (bok_iff _ _ _).1 h4, h5.1, h5.2.1, h5.2.2⟩
          · cases h
        · cases h
      · cases h
    · cases h
  · cases h
theorem fit_chk {M : Mach} (h : M.fit) : M.chk = 0 := by
  unfold Mach.chk
  rw [if_pos ⟨h.mrom, h.arom⟩, if_pos ⟨h.ram, h.own, h.video⟩, if_pos h.w, if_pos ((bok_iff _ _ _).2 h.b), if_pos ⟨h.clock, h.mready, h.aready⟩]
def Sl.lens (S : Sl) (M : Mach) : Prop := ∀ j, j < 5 → ∃ a c, S.get j = .slice a (M.byt j).length c
theorem Bx.sndR {Y : World} {b : Nat} {M : Mach} {S : Sl} (h : Bx Y b (machL M S)) : Y.rangeAt b 45 (sndL M.s) := fun i v hi => by
  refine h.at (45 + i) v ?_
  have hl := (List.getElem?_eq_some_iff.1 hi).1
  have hc : i = 0 ∨ i = 1 ∨ i = 2 ∨ i = 3 ∨ i = 4 ∨ i = 5 ∨ i = 6 ∨ i = 7 ∨ i = 8 ∨ i = 9 ∨ i = 10 ∨ i = 11 ∨ i = 12 ∨ i = 13 ∨ i = 14 ∨ i = 15 := by simp [sndL] at hl; omega
  rcases hc with rfl | rfl | rfl | rfl | rfl | rfl | rfl | rfl | rfl | rfl | rfl | rfl | rfl | rfl | rfl | rfl <;> exact hi
def halfL (M : Mach) (S : Sl) (A B : List Value) : List Value := machL M S ++ ([.int .i64 0, .slice none 0 0] ++ (A ++ B))
def nil66 : List Value := .pointer none :: .nilFunc :: List.replicate 64 .nilFunc
theorem nil66_len : nil66.length = 66 := by simp [nil66]
theorem halfL_len (M : Mach) (S : Sl) (A B : List Value) (hA : A.length = 66) (hB : B.length = 66) : (halfL M S A B).length = 209 := by
  unfold halfL
  simp only [List.length_append, machL_len, hA, hB]
  rfl
theorem halfL_put1 (M : Mach) (S : Sl) (A A' B : List Value) (h : A'.length = A.length) : putL (halfL M S A B) 77 A' = halfL M S A' B := by
  have e : ∀ X : List Value, halfL M S X B = (machL M S ++ [.int .i64 0, .slice none 0 0]) ++ (X ++ B) := fun X => by unfold halfL; simp only [List.append_assoc]
  rw [e A, e A']
  exact putL_mid B A' A (machL M S ++ [.int .i64 0, .slice none 0 0]) h
theorem halfL_put2 (M : Mach) (S : Sl) (A B B' : List Value) (hA : A.length = 66) (h : B'.length = B.length) : putL (halfL M S A B) 143 B' = halfL M S A B' := by
  have e : ∀ X : List Value, halfL M S A X = ((machL M S ++ [.int .i64 0, .slice none 0 0]) ++ A) ++ (X ++ []) := fun X => by unfold halfL; simp only [List.append_assoc, List.append_nil]
  rw [e B, e B']
  have hl : ((machL M S ++ [Value.int .i64 0, .slice none 0 0]) ++ A).length = 143 := by simp only [List.length_append, machL_len, hA]; rfl
  rw [← hl]
  exact putL_mid [] B' B _ h
theorem info_side : (Try.prog.info? 96).map (·.size) = some 66 := by kernel_rfl
def boE (n : Nat) (a : Nat) : Env := { mE n with ab := a, sb := fun k => a + 3 + 2 * k, sa := fun k => a + 4 + 2 * k }
theorem wpList_build {P : Program} {ops : Array Oper} {rest : List Oper} {op : Oper} {a : Act} {w : World} {Q : Exit → Act → World → Prop} (hgd : op.guard = none) (t : TypeId) (parts : Array (Nat × Operand)) (ho : op.op = .build t parts) (v : Value)
    (hrun : (Instr.build t (parts.map fun (i, x) => (i, a.eval x))).run P w = .ok v w) (h : wpList P ops Q rest (a.put op.dst v) w) : wpList P ops Q (op :: rest) a w :=
  wpList_plain hgd fun K hK => by
    unfold Oper.wp execOp
    simp only [ho, Sem.run_bind, hrun, Result.andThen_ok, Sem.run_pure]
    exact hK _ _ h
theorem run_board (M : Mach) (S : Sl) (w : World) : (Instr.build 98 #[(0, .agg (machL M S).toArray)]).run Try.prog w = .ok (.agg (halfL M S nil66 nil66).toArray) w := by kernel_rfl
end Go.Proofs.Ytdioiilmpjckfaa
