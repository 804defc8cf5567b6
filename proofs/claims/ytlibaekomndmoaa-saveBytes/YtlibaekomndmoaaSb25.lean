/-
  Parts of a proof, joined.
-/
import Derived.Test.YtlibaekomndmoaaSb23
import Derived.Test.YtlibaekomndmoaaSb13
import Derived.Test.YtlibaekomndmoaaSb24
import Derived.Test.YtlibaekomndmoaaSb19
namespace Go.Proofs.Ytlibaekomndmoaa
open Go.ChangeShapes Go.WideShapes Go.ChangeAt Go.RowKit
set_option linter.unusedVariables false
set_option maxRecDepth 100000
def apW (n g i k : Nat) : Value := if k < i then fval 74 #[pt (n + 3 + 2 * k) 0, pt (n + 4 + 2 * k) 0] else if k = 24 then fval 57 #[pt n 0] else .nilFunc
def apR (g k : Nat) : Value := if k = 24 then mval 56 g 0 else .nilFunc
theorem portsN_congr (r w w' : Nat → Value) : ∀ n, (∀ k, k < n → w k = w' k) → portsN r w n = portsN r w' n
  | 0, _ => rfl
  | n + 1, h => by rw [portsN, portsN, portsN_congr r w w' n (fun k hk => h k (by omega)), h n (by omega)]
theorem portsN_set (r w : Nat → Value) (v : Value) (i : Nat) : ∀ n, i < n → (portsN r w n).set (2 * i + 1) v = portsN r (fun k => if k = i then v else w k) n
  | 0, h => by omega
  | n + 1, h => by
    rw [portsN, portsN]
    by_cases e : i < n
    · rw [List.set_append_left _ _ (by rw [portsN_len]; omega), portsN_set r w v i n e]
      rw [if_neg (by omega)]
    · obtain rfl : i = n := by omega
      rw [List.set_append_right _ _ (by rw [portsN_len]; omega), portsN_len, show 2 * i + 1 - 2 * i = 1 by omega, if_pos rfl]
      have : portsN r (fun k => if k = i then v else w k) i = portsN r w i := portsN_congr r _ _ i (fun k hk => if_neg (by omega))
      rw [this]
      rfl
theorem apW_next (n g i : Nat) (hi : i < 24) : (fun k => if k = i then fval 74 #[pt (n + 3 + 2 * i) 0, pt (n + 4 + 2 * i) 0] else apW n g i k) = apW n g (i + 1) := by
  funext k
  unfold apW
  by_cases e : k = i
  · subst e; rw [if_pos rfl, if_pos (by omega)]
  · rw [if_neg e]
    by_cases e2 : k < i
    · rw [if_pos e2, if_pos (by omega)]
    · simp only [if_neg e2, if_neg (show ¬ k < i + 1 by omega)]
def apL (n g i : Nat) : List Value := portsN (apR g) (apW n g i) 32
theorem apL_len (n g i : Nat) : (apL n g i).length = 64 := portsN_len _ _ 32
structure AP (w : World) (g i : Nat) (Y : World) : Prop where
  low : Below w.heap.size w Y
  sz : Y.heap.size = w.heap.size + 3 + 2 * i
  b : Bx Y w.heap.size [pt g 0]
  r : Bx Y (w.heap.size + 1) (List.replicate 64 .nilFunc)
  l : Bx Y (w.heap.size + 2) (apL w.heap.size g i)
  sb : ∀ k, k < i → Bx Y (w.heap.size + 3 + 2 * k) [pt g 0] ∧ Bx Y (w.heap.size + 4 + 2 * k) [.int .i64 k]
theorem AP.next {w Y : World} {g i : Nat} (h : AP w g i Y) (hi : i < 24) (o1 o2 : TypeId) :
    AP w g (i + 1) (((Y.alloc (.cells #[pt g 0] o1)).alloc (.cells #[.int .i64 (i : Int)] o2)).setCell ⟨w.heap.size + 2, 2 * i + 1, none⟩ (fval 74 #[pt (w.heap.size + 3 + 2 * i) 0, pt (w.heap.size + 4 + 2 * i) 0])) := by
  have hz := h.sz
  have hlow := stA (stA h.low (.cells #[pt g 0] o1)) (.cells #[.int .i64 (i : Int)] o2)
  refine ⟨hlow.setCell (Nat.le_add_right _ _) _, ?_, ((h.b.over _).over _).far (by omega) _, ((h.r.over _).over _).far (by omega) _, ?_, fun k hk => ?_⟩
  · rw [size_set]; simp; omega
  · have := ((h.l.over (.cells #[pt g 0] o1)).over (.cells #[.int .i64 (i : Int)] o2)).set (2 * i + 1) (fval 74 #[pt (w.heap.size + 3 + 2 * i) 0, pt (w.heap.size + 4 + 2 * i) 0]) (by rw [apL_len]; omega)
    unfold apL at this
    rw [portsN_set _ _ _ i 32 (by omega), apW_next _ _ _ hi] at this
    exact this
  · by_cases e : k < i
    · obtain ⟨h1, h2⟩ := h.sb k e
      exact ⟨((h1.over _).over _).far (by omega) _, ((h2.over _).over _).far (by omega) _⟩
    · obtain rfl : k = i := by omega
      refine ⟨((Bx.new Y [pt g 0] o1 (by omega)).over _).far (by omega) _, (Bx.new (Y.alloc (.cells #[pt g 0] o1)) [.int .i64 (k : Int)] o2 (by simp; omega)).far (by omega) _⟩
theorem load64 {Y : World} {b : Nat} {L : List Value} (hl : L.length = 64) (h : Bx Y b L) : (loadVar 94 ⟨b, 0, none⟩).run Try.prog Y = .ok (.agg L.toArray) Y :=
  run_loadVar_mid Y b 0 94 _ _ h.c Try.underlying94 rfl (info_ports.trans (by rw [hl]))
theorem ap_one (n g i : Nat) : (apL n g i).toArray.all (·.oneCell') = true := by
  refine all_oneCell_toArray (fun v hv => ?_)
  have key : ∀ m, v ∈ portsN (apR g) (apW n g i) m → v.oneCell' = true := by
    intro m
    induction m with
    | zero => intro h; simp [portsN] at h
    | succ m ih =>
      intro h
      simp only [portsN, List.mem_append, List.mem_cons, List.not_mem_nil, or_false] at h
      rcases h with h | rfl | rfl
      · exact ih h
      · unfold apR; split <;> rfl
      · unfold apW; split
        · rfl
        · split <;> rfl
  exact key 32 hv
theorem AP.next' {w Y : World} {g i : Nat} (h : AP w g i Y) (hi : i < 24) (o1 o2 : TypeId) :
    AP w g (i + 1) (((Y.alloc (.cells #[pt g 0] o1)).alloc (.cells #[.int .i64 (i : Int)] o2)).setCell ⟨w.heap.size + 1 + 1, i * 2 + 1, none⟩ (fval 74 #[pt Y.heap.size 0, pt (Y.heap.size + 1) 0])) := by
  have hn := h.next hi o1 o2
  rw [show w.heap.size + 4 + 2 * i = w.heap.size + 3 + 2 * i + 1 by omega, ← h.sz, show 2 * i + 1 = i * 2 + 1 by omega] at hn
  exact hn
theorem ap_two {W w1 : World} {a b : Obj} {x o : Nat} {v : Value} (hw : w1 = (W.alloc a).alloc b) (hc : W.cell? ⟨x, o, none⟩ = some v) (hf : W.frozen? ⟨x, o, none⟩ = false) (hz : x < W.heap.size) : w1.cell? ⟨x, o, none⟩ = some v ∧ w1.frozen? ⟨x, o, none⟩ = false ∧ x < w1.heap.size := by
  subst hw
  have hb := stA (stA (st0 W) a) b
  exact ⟨(hb.cell (p := ⟨x, o, none⟩) hz).trans hc, (hb.frozen (p := ⟨x, o, none⟩) hz).trans hf, Nat.lt_of_lt_of_le hz hb.size⟩
def ap0L (n g : Nat) : List Value := [.nilFunc, .nilFunc, .nilFunc, .nilFunc, .nilFunc, .nilFunc, .nilFunc, .nilFunc, .nilFunc, .nilFunc, .nilFunc, .nilFunc, .nilFunc, .nilFunc, .nilFunc, .nilFunc, .nilFunc, .nilFunc, .nilFunc, .nilFunc, .nilFunc, .nilFunc, .nilFunc, .nilFunc, .nilFunc, .nilFunc, .nilFunc, .nilFunc, .nilFunc, .nilFunc, .nilFunc, .nilFunc, .nilFunc, .nilFunc, .nilFunc, .nilFunc, .nilFunc, .nilFunc, .nilFunc, .nilFunc, .nilFunc, .nilFunc, .nilFunc, .nilFunc, .nilFunc, .nilFunc, .nilFunc, .nilFunc, mval 56 g 0, fval 57 #[pt n 0], .nilFunc, .nilFunc, .nilFunc, .nilFunc, .nilFunc, .nilFunc, .nilFunc, .nilFunc, .nilFunc, .nilFunc, .nilFunc, .nilFunc, .nilFunc, .nilFunc]
theorem ap0_eq (n g : Nat) : ap0L n g = apL n g 0 := by kernel_rfl
theorem ap0_one (n g : Nat) : (ap0L n g).toArray.all (·.oneCell') = true := by rw [ap0_eq]; exact ap_one n g 0
theorem putL_al (L L' : List Value) (h : L'.length = L.length) : putL L 0 L' = L' := by
  have := putL_mid [] L' L [] h
  simpa using this
theorem AP.start {w : World} {g : Nat} (o1 o2 o3 : TypeId) : AP w g 0 (((((w.alloc (.cells #[pt g 0] o1)).alloc (.cells (List.replicate 64 Value.nilFunc).toArray o2)).alloc (.cells (List.replicate 64 Value.nilFunc).toArray o3))).setCells (w.heap.size + 2) 0 (ap0L w.heap.size g)) := by
  have hx := (Bx.new ((w.alloc (.cells #[pt g 0] o1)).alloc (.cells (List.replicate 64 Value.nilFunc).toArray o2)) (List.replicate 64 .nilFunc) o3 (b := w.heap.size + 2) (by simp)).puts 0 (ap0L w.heap.size g) (by simp [ap0L])
  rw [putL_al _ _ (by simp [ap0L])] at hx
  refine ⟨Bl.puts (stA (stA (stA (st0 w) _) _) _) (by omega) _, by rw [size_sets]; simp, (((Bx.new w [pt g 0] o1 rfl).over _).over _).fars (by omega) _ _, ((Bx.new (w.alloc _) (List.replicate 64 .nilFunc) o2 (by simp)).over _).fars (by omega) _ _, by rw [← ap0_eq]; exact hx, fun k hk => by omega⟩
theorem ap_th {w : World} {g : Nat} (o1 o2 o3 : TypeId) : (((w.alloc (.cells #[pt g 0] o1)).alloc (.cells (List.replicate 64 Value.nilFunc).toArray o2)).alloc (.cells (List.replicate 64 Value.nilFunc).toArray o3)).there (w.heap.size + 2) 0 64 :=
  (Bx.new _ (List.replicate 64 .nilFunc) o3 (b := w.heap.size + 2) (by simp)).there 0 64 (by simp)
set_option maxHeartbeats 800000 in
theorem Bu.aports_any (g : Nat) (w : World) : Calls Try.prog 35 #[pt g 0] w fun e w' =>
    e = .returned (.agg (apL w.heap.size g 24).toArray) ∧ ∃ Y, AP w g 24 Y ∧ Below w.heap.size w w' ∧ (∀ k, k ≠ w.heap.size + 1 → w'.heap[k]? = Y.heap[k]?) ∧ Y.heap.size = w'.heap.size := by
  go_enter Try.func35, Try.ntmps35
  go_wp2_with (first
    | (refine wpList_store_mid rfl 94 _ _ rfl (w.heap.size + 2) 0 _ rfl rfl (ap_th 78 94 94) info_ports (ap0_one w.heap.size g) ?_
       refine Pl.cutL (AP w g 0) (AP.start 78 94 94) ?_
       intro Y hY
       have HY := hid hY
       clear hY))
  go_loopw [10] (fun i wr => ∃ k : Nat, k ≤ 24 ∧ i = .int .i64 k ∧ AP w g k wr) (fun i _ => 24 - (intOf i).toNat)
  case atStart => exact ⟨0, by omega, rfl, HY.out⟩
  case round =>
    obtain ⟨k, hk, rfl, hA⟩ := hrel
    by_cases hlt : k < 24
    · have hlt2 : (k : Int) < 24 := by omega
      have hlt3 : (k : Int) < 32 := by omega
      have c1 := hA.b.at 0 (pt g 0) rfl
      have z1 := hA.b.z
      have z2 := hA.l.z
      obtain ⟨v0, hv0⟩ : ∃ v, (apL w.heap.size g k)[k * 2 + 1]? = some v := ⟨_, by rw [Nat.mul_comm]; exact (portsN_at _ _ 32 k (by omega)).2⟩
      have c2 : wr.cell? ⟨w.heap.size + 1 + 1, k * 2 + 1, none⟩ = some v0 := hA.l.at _ _ hv0
      have f2 : wr.frozen? ⟨w.heap.size + 1 + 1, k * 2 + 1, none⟩ = false := hA.l.f (k * 2 + 1)
      have z3 : w.heap.size + 1 + 1 < wr.heap.size := z2
      have HA := hid hA
      clear hA hv0
      go_wp2_with (go_at_call 58; refine (Bu.sound_n g k _).mono ?_; rintro e w1 ⟨rfl, hw⟩; obtain ⟨c3, f3, z4⟩ := ap_two hw c2 f2 z3; have HW := hid hw; clear hw c2 f2 z3 z2)
      go_roundw
      case rel =>
        refine ⟨k + 1, by omega, by go_num, ?_⟩
        rw [HW.out]
        exact HA.out.next' hlt _ _
      case measure => simp [intOf]; omega
    · obtain rfl : k = 24 := by omega
      have HA := hid hA
      have z2 := hA.l.z
      have HR := hid hA.r
      have HL := hid hA.l
      have hL := apL_len w.heap.size g 24
      have HO := hid (ap_one w.heap.size g 24)
      clear hA HY
      generalize hLL : apL w.heap.size g 24 = L at HL hL HO
      have HLL := hid hLL
      have hsz : L.toArray.size = 64 := by simp [hL]
      have HTH : Hid (wr.there (w.heap.size + 1) 0 L.toArray.size) := hid (by rw [hsz]; exact HR.out.there 0 64 (by simp))
      have HIN : Hid ((Try.prog.info? 94).map (·.size) = some L.toArray.size) := hid (by rw [hsz]; exact info_ports)
      clear hLL hsz
      go_wp2_with (first
        | (refine wpList_load_mid rfl 94 _ rfl (w.heap.size + 2) 0 rfl L _ HL.out.c Try.underlying94 rfl (info_ports.trans (by rw [hL])) ?_)
        | (refine wpList_store_mid rfl 94 _ _ rfl (w.heap.size + 1) 0 L.toArray rfl rfl HTH.out HIN.out HO.out ?_
           refine Pl.cutL (fun X => Below w.heap.size w X ∧ (∀ k, k ≠ w.heap.size + 1 → X.heap[k]? = wr.heap[k]?) ∧ wr.heap.size = X.heap.size ∧ Bx X (w.heap.size + 1) L) ⟨?_, ?_, ?_, ?_⟩ ?_
           · exact Bl.puts HA.out.low (by omega) _
           · exact fun k hk => heap_sets_far hk _ _ _
           · exact (size_sets _ _ _ _).symm
           · have hx := HR.out.puts 0 L (by rw [hL]; simp)
             rw [putL_al _ _ (by rw [hL]; simp)] at hx
             exact hx
           rintro X ⟨hX1, hX2, hX3, hX4⟩
           have HX1 := hid hX1
           have HX2 := hid hX2
           have HX3 := hid hX3
           have HX4 := hid hX4
           clear hX1 hX2 hX3 hX4))
      exact bodyPost_ret (v := .agg L.toArray) (by simp only [results, Try.results35]; simp; exact Pl.res (load64 hL HX4.out)) rfl ⟨by rw [HLL.out], wr, HA.out, HX1.out, HX2.out, HX3.out⟩
def halfL (M : Mach) (S : Sl) (A B : List Value) : List Value := machL M S ++ ([.int .i64 0, .slice none 0 0] ++ (A ++ B))
def nil66 : List Value := .pointer none :: .nilFunc :: List.replicate 64 .nilFunc
theorem nil66_len : nil66.length = 66 := by simp [nil66]
theorem halfL_len (M : Mach) (S : Sl) (A B : List Value) (hA : A.length = 66) (hB : B.length = 66) : (halfL M S A B).length = 209 := by
  unfold halfL
  simp only [List.length_append, machL_len, hA, hB]
  rfl
theorem halfL_put1 (M : Mach) (S : Sl) (A A' B : List Value) (h : A'.length = A.length) : putL (halfL M S A B) 77 A' = halfL M S A' B := by
  have e : ∀ X : List Value, halfL M S X B = (machL M S ++ [.int .i64 0, .slice none 0 0]) ++ (X ++ B) := fun X => by unfold halfL; simp only [List.append_assoc]
  rw [e A, e A']
  exact putL_mid B A' A (machL M S ++ [.int .i64 0, .slice none 0 0]) h
theorem halfL_put2 (M : Mach) (S : Sl) (A B B' : List Value) (hA : A.length = 66) (h : B'.length = B.length) : putL (halfL M S A B) 143 B' = halfL M S A B' := by
  have e : ∀ X : List Value, halfL M S A X = ((machL M S ++ [.int .i64 0, .slice none 0 0]) ++ A) ++ (X ++ []) := fun X => by unfold halfL; simp only [List.append_assoc, List.append_nil]
  rw [e B, e B']
  have hl : ((machL M S ++ [Value.int .i64 0, .slice none 0 0]) ++ A).length = 143 := by simp only [List.length_append, machL_len, hA]; rfl
  rw [← hl]
  exact putL_mid [] B' B _ h
theorem info_side : (Try.prog.info? 96).map (·.size) = some 66 := by kernel_rfl
def boE (n : Nat) (a : Nat) : Env := { mE n with ab := a, sb := fun k => a + 3 + 2 * k, sa := fun k => a + 4 + 2 * k }
theorem wpList_build {P : Program} {ops : Array Oper} {rest : List Oper} {op : Oper} {a : Act} {w : World} {Q : Exit → Act → World → Prop} (hgd : op.guard = none) (t : TypeId) (parts : Array (Nat × Operand)) (ho : op.op = .build t parts) (v : Value)
    (hrun : (Instr.build t (parts.map fun (i, x) => (i, a.eval x))).run P w = .ok v w) (h : wpList P ops Q rest (a.put op.dst v) w) : wpList P ops Q (op :: rest) a w :=
  wpList_plain hgd fun K hK => by
    unfold Oper.wp execOp
    simp only [ho, Sem.run_bind, hrun, Result.andThen_ok, Sem.run_pure]
    exact hK _ _ h
theorem run_board (M : Mach) (S : Sl) (w : World) : (Instr.build 98 #[(0, .agg (machL M S).toArray)]).run Try.prog w = .ok (.agg (halfL M S nil66 nil66).toArray) w := by kernel_rfl
end Go.Proofs.Ytlibaekomndmoaa
