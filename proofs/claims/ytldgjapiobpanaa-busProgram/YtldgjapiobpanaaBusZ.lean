/-
  Package bus: copyOf.
-/
import Derived.Test.YtldgjapiobpanaaBusY
namespace Go.Proofs.Ytldgjapiobpanaa
open Go.ChangeShapes Go.WideShapes Go.ChangeAt Go.RowKit
set_option linter.unusedVariables false
set_option maxRecDepth 100000

def zeroM : Mach := ⟨C.Cpu.zero, C.Cpu.zero, [], [], [], [], [], ⟨0, false, 0⟩, ⟨0, false, 0⟩, ⟨0, 0, false, false⟩, ⟨⟨0, 0, 0, false, 0⟩, ⟨0, 0, 0, false, 0⟩, ⟨0, 0, 0, false, 0⟩, 0⟩, ⟨0, 0, false, 0⟩, 0, 0, false, false, 0, 0, false, 0, 0, 0⟩
def nilS : Sl := ⟨.slice none 0 0, .slice none 0 0, .slice none 0 0, .slice none 0 0, .slice none 0 0⟩
/-- One of a machine's slices is its own. -/
def OwnAt (B : Nat) (M : Mach) (S : Sl) (Y : World) (j : Nat) : Prop := (S.get j = .slice none 0 0 ∧ M.byt j = []) ∨ ∃ b cap, S.get j = .slice (some ⟨b, 0, none⟩) (M.byt j).length cap ∧ (M.byt j).length ≤ cap ∧ B ≤ b ∧ Bx Y b (bcs (M.byt j))
/-- The first of a machine's slices are its own, each in a block of its own. -/
structure OwnK (B : Nat) (M : Mach) (S : Sl) (k : Nat) (Y : World) : Prop where
  own : ∀ j, j < k → OwnAt B M S Y j
  dist : ∀ i j b b' n c n' c', i < k → j < k → i ≠ j → S.get i = .slice (some ⟨b, 0, none⟩) n c → S.get j = .slice (some ⟨b', 0, none⟩) n' c' → b ≠ b'
theorem OwnAt.same {B : Nat} {M : Mach} {S : Sl} {Y Y' : World} {j : Nat} (h : OwnAt B M S Y j) (hz : Y.heap.size ≤ Y'.heap.size) (e : ∀ b, B ≤ b → b < Y.heap.size → Y'.heap[b]? = Y.heap[b]?) : OwnAt B M S Y' j := by
  rcases h with h | ⟨b, cap, h1, h2, h3, h4⟩
  · exact Or.inl h
  · exact Or.inr ⟨b, cap, h1, h2, h3, h4.same hz (e b h3 h4.z)⟩
theorem OwnK.same {B : Nat} {M : Mach} {S : Sl} {k : Nat} {Y Y' : World} (h : OwnK B M S k Y) (hz : Y.heap.size ≤ Y'.heap.size) (e : ∀ b, B ≤ b → b < Y.heap.size → Y'.heap[b]? = Y.heap[b]?) : OwnK B M S k Y' :=
  ⟨fun j hj => (h.own j hj).same hz e, h.dist⟩
theorem OwnK.isSl {B : Nat} {M : Mach} {S : Sl} {Y : World} (h : OwnK B M S 5 Y) : S.isSl := fun j hj => by
  rcases h.own j hj with ⟨e, _⟩ | ⟨b, cap, e, _⟩
  · exact ⟨_, _, _, e⟩
  · exact ⟨_, _, _, e⟩
/-- In the midst of copying. -/
structure CP (w : World) (M : Mach) (S0 : Sl) (k : Nat) (S : Sl) (Y : World) : Prop where
  low : Below w.heap.size w Y
  bx : Bx Y w.heap.size (machL M S)
  res : Bx Y (w.heap.size + 1) (machL zeroM nilS)
  ptr : Bx Y (w.heap.size + 2) [pt w.heap.size 30, pt w.heap.size 31, pt w.heap.size 32, pt w.heap.size 33, pt w.heap.size 34]
  own : OwnK (w.heap.size + 3) M S k Y
  todo : ∀ j, j < 5 → k ≤ j → S.get j = S0.get j
theorem CP.next {w Y w1 : World} {M : Mach} {S0 S : Sl} {k : Nat} {v : Value} (h : CP w M S0 k S Y) (hk : k < 5) (ho : w1.ownsRow Y.heap.size 5 1 v (M.byt k).length (bcs (M.byt k))) (hb : Below Y.heap.size Y w1) :
    CP w M S0 (k + 1) (S.set k v) (w1.setCell ⟨w.heap.size, 30 + k, none⟩ v) := by
  have hz := h.ptr.z
  have hz1 := hb.size
  have hsame : ∀ b, w.heap.size + 3 ≤ b → b < Y.heap.size → (w1.setCell ⟨w.heap.size, 30 + k, none⟩ v).heap[b]? = Y.heap[b]? := fun b h1 h2 => (heap_set_far (by omega)).trans (hb.block b h2)
  have hold := h.own.same (Y' := w1.setCell ⟨w.heap.size, 30 + k, none⟩ v) (by rw [size_set]; exact hz1) hsame
  have hlen : 30 + k < (machL M S).length := by rw [machL_len]; omega
  refine ⟨(stp h.low hb).setCell (Nat.le_refl _) _, ?_, (h.res.kept hb).far (by omega) _, (h.ptr.kept hb).far (by omega) _, ⟨fun j hj => ?_, fun i j b b' n c n' c' hi hj hij e1 e2 => ?_⟩, fun j hj hkj => ?_⟩
  · rw [← machL_set M S k v hk]
    exact (h.bx.kept hb).set _ _ hlen
  · unfold OwnAt
    rw [S.get_set k j v hk (by omega)]
    by_cases e : j = k
    · subst e
      rw [if_pos rfl]
      rcases own_rw ho with ⟨e1, e2⟩ | ⟨b, cap, e1, e2, e3, e4⟩
      · exact Or.inl ⟨e1, e2⟩
      · exact Or.inr ⟨b, cap, e1, e2, by omega, e4.far (by omega) _⟩
    · rw [if_neg e]
      exact hold.own j (by omega)
  · rw [S.get_set k i v hk (by omega)] at e1
    rw [S.get_set k j v hk (by omega)] at e2
    by_cases ei : i = k
    · by_cases ej : j = k
      · omega
      · rw [if_pos ei] at e1
        rw [if_neg ej] at e2
        have hbn : Y.heap.size ≤ b := by
          rcases own_rw ho with ⟨x1, _⟩ | ⟨bb, cap, x1, _, x3, _⟩
          · rw [x1] at e1; cases e1
          · rw [x1] at e1; cases e1; exact x3
        rcases h.own.own j (by omega) with ⟨x1, _⟩ | ⟨bb, cap, x1, _, _, x4⟩
        · rw [x1] at e2; cases e2
        · rw [x1] at e2; cases e2; have := x4.z; omega
    · rw [if_neg ei] at e1
      by_cases ej : j = k
      · rw [if_pos ej] at e2
        have hbn : Y.heap.size ≤ b' := by
          rcases own_rw ho with ⟨x1, _⟩ | ⟨bb, cap, x1, _, x3, _⟩
          · rw [x1] at e2; cases e2
          · rw [x1] at e2; cases e2; exact x3
        rcases h.own.own i (by omega) with ⟨x1, _⟩ | ⟨bb, cap, x1, _, _, x4⟩
        · rw [x1] at e1; cases e1
        · rw [x1] at e1; cases e1; have := x4.z; omega
      · rw [if_neg ej] at e2
        exact h.own.dist i j b b' n c n' c' (by omega) (by omega) hij e1 e2
  · rw [S.get_set k j v hk hj, if_neg (by omega)]
    exact h.todo j hj (by omega)
theorem ptr_at (z k : Nat) (hk : k < 5) : ([pt z 30, pt z 31, pt z 32, pt z 33, pt z 34] : List Value)[k]? = some (pt z (30 + k)) := by
  rcases five hk with rfl | rfl | rfl | rfl | rfl <;> rfl
theorem zero_sl : nilS.isSl := fun j hj => by rcases five hj with rfl | rfl | rfl | rfl | rfl <;> exact ⟨_, _, _, rfl⟩
theorem CP.start (w : World) (M : Mach) (S : Sl) (o1 o2 o3 : TypeId) : CP w M S 0 S (((w.alloc (.cells (machL M S).toArray o1)).alloc (.cells (machL zeroM nilS).toArray o2)).alloc (.cells #[pt w.heap.size 30, pt w.heap.size 31, pt w.heap.size 32, pt w.heap.size 33, pt w.heap.size 34] o3)) :=
  ⟨stA (stA (stA (st0 w) _) _) _, ((Bx.new w (machL M S) o1 rfl).over _).over _, (Bx.new (w.alloc _) (machL zeroM nilS) o2 (by simp)).over _, Bx.new _ [pt w.heap.size 30, pt w.heap.size 31, pt w.heap.size 32, pt w.heap.size 33, pt w.heap.size 34] o3 (by simp), ⟨fun j hj => by omega, fun i j b b' n c n' c' hi => by omega⟩, fun j _ _ => rfl⟩
theorem own_sl {w : World} {B : Nat} {v : Value} {l : List UInt8} (h : w.ownsRow B 5 1 v l.length (bcs l)) : ∃ a n c, v = .slice a n c := by
  rcases own_rw h with ⟨e, _⟩ | ⟨k, cap, e, _⟩
  · exact ⟨_, _, _, e⟩
  · exact ⟨_, _, _, e⟩
theorem cp_two {Y w1 : World} {x o : Nat} {v : Value} (hb : Below Y.heap.size Y w1) (hc : Y.cell? ⟨x, o, none⟩ = some v) (hf : Y.frozen? ⟨x, o, none⟩ = false) (hz : x < Y.heap.size) : w1.cell? ⟨x, o, none⟩ = some v ∧ w1.frozen? ⟨x, o, none⟩ = false ∧ x < w1.heap.size :=
  ⟨(hb.cell (p := ⟨x, o, none⟩) hz).trans hc, (hb.frozen (p := ⟨x, o, none⟩) hz).trans hf, Nat.lt_of_lt_of_le hz hb.size⟩
theorem putL_whole (L L' : List Value) (h : L'.length = L.length) : putL L 0 L' = L' := by
  have := putL_mid [] L' L [] h
  simpa using this
set_option maxHeartbeats 800000 in
theorem Bu.copy_any (M : Mach) (S : Sl) (w : World) (hs : ∀ j, j < 5 → sliceAt w (S.get j) (M.byt j)) (hl : ∀ j, j < 5 → (M.byt j).length ≤ 100000) :
    Calls Try.prog 44 #[.agg (machL M S).toArray] w fun e w' => ∃ S', e = .returned (.agg (machL M S').toArray) ∧ OwnK (w.heap.size + 3) M S' 5 w' ∧ Below w.heap.size w w' := by
  go_enter Try.func44, Try.ntmps44
  go_wp2
  refine Pl.cutW (CP w M S 0 S) (CP.start w M S _ _ _) ?_
  intro Y hY
  have HY := hid hY
  clear hY
  go_loopw [12] (fun i wr => ∃ (k : Nat) (S1 : Sl), k ≤ 5 ∧ i = .int .i64 k ∧ CP w M S k S1 wr) (fun i _ => 5 - (intOf i).toNat)
  case atStart => exact ⟨0, S, by omega, rfl, HY.out⟩
  case round =>
    obtain ⟨k, S1, hk, rfl, hC⟩ := hrel
    clear HY
    by_cases hlt : k < 5
    · have hlt2 : (k : Int) < 5 := by omega
      have c1 := hC.ptr.at k _ (ptr_at _ k hlt)
      have c2 := hC.bx.at (30 + k) _ (machL_at M S1 k hlt)
      have e0 := hC.todo k hlt (Nat.le_refl _)
      rw [e0] at c2
      have z1 := hC.ptr.z
      have z0 := hC.bx.z
      have hsl := hid ((hs k hlt).kept hC.low)
      have hll := hl k hlt
      have HC := hid hC
      clear hC e0 hs hl
      go_wp2_with (go_at_call 55; refine (Bu.clone_any _ (M.byt k) _ hsl.out hll).mono ?_; rintro e w1 ⟨v', rfl, hown, hb1⟩; obtain ⟨av, nv, cv, rfl⟩ := own_sl hown; have HO := hid hown; have HB := hid hb1; obtain ⟨d1, d2, d3⟩ := cp_two hb1 c2 (HC.out.bx.f (30 + k)) z0; clear hown hb1)
      go_roundw
      case rel => exact ⟨k + 1, S1.set k (.slice av nv cv), by omega, by go_num, HC.out.next hlt HO.out HB.out⟩
      case measure => simp [intOf]; omega
    · obtain rfl : k = 5 := by omega
      have z0 := hC.bx.z
      have z1 := hC.res.z
      have HC := hid hC
      have HONE := hid (machL_one M S1 hC.own.isSl)
      clear hC hs hl
      go_wp2_with (first
        | (refine wpList_load_mid rfl 41 _ rfl w.heap.size 0 rfl (machL M S1) _ HC.out.bx.c Try.underlying41 rfl info_mach ?_)
        | (refine wpList_store_mid rfl 41 _ _ rfl (w.heap.size + 1) 0 (machL M S1).toArray rfl rfl (HC.out.res.there 0 75 (by rw [machL_len]; omega)) info_mach HONE.out ?_
           refine Pl.cutL (fun X => Below w.heap.size w X ∧ Bx X (w.heap.size + 1) (machL M S1) ∧ OwnK (w.heap.size + 3) M S1 5 X) ⟨?_, ?_, ?_⟩ ?_
           · exact Bl.puts HC.out.low (by omega) _
           · have hx := HC.out.res.puts 0 (machL M S1) (by rw [machL_len, machL_len]; omega)
             rw [putL_whole _ _ (by rw [machL_len, machL_len])] at hx
             exact hx
           · exact HC.out.own.same (Nat.le_of_eq (size_sets _ _ _ _).symm) (fun b h1 h2 => heap_sets_far (by omega) _ _ _)
           rintro X ⟨hX1, hX2, hX3⟩
           have HX1 := hid hX1
           have HX2 := hid hX2
           have HX3 := hid hX3
           clear hX1 hX2 hX3))
      exact bodyPost_ret (v := .agg (machL M S1).toArray) (by simp only [results, Try.results44]; simp; exact Pl.res (load_mach M S1 HX2.out.c)) rfl ⟨S1, rfl, HX3.out, HX1.out⟩
end Go.Proofs.Ytldgjapiobpanaa
