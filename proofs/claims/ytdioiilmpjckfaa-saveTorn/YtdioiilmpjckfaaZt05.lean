/-
  Parts of a proof, joined.
-/
import Derived.Test.YtdioiilmpjckfaaZt02
import Derived.Test.YtdioiilmpjckfaaZt03
namespace Go.Proofs.Ytdioiilmpjckfaa
open Go.ChangeShapes Go.WideShapes Go.ChangeAt Go.RowKit
set_option linter.unusedVariables false
set_option maxRecDepth 100000
def apW (n g i k : Nat) : Value := if k < i then fval 74 #[pt (n + 3 + 2 * k) 0, pt (n + 4 + 2 * k) 0] else if k = 24 then fval 57 #[pt n 0] else .nilFunc
def apR (g k : Nat) : Value := if k = 24 then mval 56 g 0 else .nilFunc
theorem portsN_congr (r w w' : Nat → Value) : ∀ n, (∀ k, k < n → w k = w' k) → portsN r w n = portsN r w' n
  | 0, _ => rfl
  | n + 1, h => by rw [portsN, portsN, portsN_congr r w w' n (fun k hk => h k (by omega)), h n (by omega)]
theorem portsN_set (r w : Nat → Value) (v : Value) (i : Nat) : ∀ n, i < n → (portsN r w n).set (2 * i + 1) v = portsN r (fun k => if k = i then v else w k) n
  | 0, h => by omega
  | n + 1, h => by
    rw [portsN, portsN]
    by_cases e : i < n
    · rw [List.set_append_left _ _ (by rw [portsN_len]; omega), portsN_set r w v i n e]
      rw [if_neg (by omega)]
    · obtain rfl : i = n := by omega
      rw [List.set_append_right _ _ (by rw [portsN_len]; omega), portsN_len, show 2 * i + 1 - 2 * i = 1 by omega, if_pos rfl]
      have : portsN r (fun k => if k = i then v else w k) i = portsN r w i := portsN_congr r _ _ i (fun k hk => if_neg (by omega))
      rw [this]
      rfl
theorem apW_next (n g i : Nat) (hi : i < 24) : (fun k => if k = i then fval 74 #[pt (n + 3 + 2 * i) 0, pt (n + 4 + 2 * i) 0] else apW n g i k) = apW n g (i + 1) := by
  funext k
  unfold apW
  by_cases e : k = i
  · subst e; rw [if_pos rfl, if_pos (by omega)]
  · rw [if_neg e]
    by_cases e2 : k < i
    · rw [if_pos e2, if_pos (by omega)]
    · simp only [if_neg e2, if_neg (show ¬ k < i + 1 by omega)]
def apL (n g i : Nat) : List Value := portsN (apR g) (apW n g i) 32
theorem apL_len (n g i : Nat) : (apL n g i).length = 64 := portsN_len _ _ 32
structure AP (w : World) (g i : Nat) (Y : World) : Prop where
  low : Below w.heap.size w Y
  sz : Y.heap.size = w.heap.size + 3 + 2 * i
  b : Bx Y w.heap.size [pt g 0]
  r : Bx Y (w.heap.size + 1) (List.replicate 64 .nilFunc)
  l : Bx Y (w.heap.size + 2) (apL w.heap.size g i)
  sb : ∀ k, k < i → Bx Y (w.heap.size + 3 + 2 * k) [pt g 0] ∧ Bx Y (w.heap.size + 4 + 2 * k) [.int .i64 k]
theorem AP.next {w Y : World} {g i : Nat} (h : AP w g i Y) (hi : i < 24) (o1 o2 : TypeId) :
    AP w g (i + 1) (((Y.alloc (.cells #[pt g 0] o1)).alloc (.cells #[.int .i64 (i : Int)] o2)).setCell ⟨w.heap.size + 2, 2 * i + 1, none⟩ (fval 74 #[pt (w.heap.size + 3 + 2 * i) 0, pt (w.heap.size + 4 + 2 * i) 0])) := by
  have hz := h.sz
  have hlow := stA (stA h.low (.cells #[pt g 0] o1)) (.cells #[.int .i64 (i : Int)] o2)
  refine ⟨hlow.setCell (Nat.le_add_right _ _) _, ?_, ((h.b.over _).over _).far (by omega) _, ((h.r.over _).over _).far (by omega) _, ?_, fun k hk => ?_⟩
  · rw [size_set]; simp; omega
  · have := ((h.l.over (.cells #[pt g 0] o1)).over (.cells #[.int .i64 (i : Int)] o2)).set (2 * i + 1) (fval 74 #[pt (w.heap.size + 3 + 2 * i) 0, pt (w.heap.size + 4 + 2 * i) 0]) (by rw [apL_len]; omega)
    unfold apL at this
    rw [portsN_set _ _ _ i 32 (by omega), apW_next _ _ _ hi] at this
    exact this
  · by_cases e : k < i
    · obtain ⟨h1, h2⟩ := h.sb k e
      exact ⟨((h1.over _).over _).far (by omega) _, ((h2.over _).over _).far (by omega) _⟩
    · obtain rfl : k = i := by omega
      refine ⟨((Bx.new Y [pt g 0] o1 (by omega)).over _).far (by omega) _, (Bx.new (Y.alloc (.cells #[pt g 0] o1)) [.int .i64 (k : Int)] o2 (by simp; omega)).far (by omega) _⟩
theorem load64 {Y : World} {b : Nat} {L : List Value} (hl : L.length = 64) (h : Bx Y b L) : (loadVar 94 ⟨b, 0, none⟩).run Try.prog Y = .ok (.agg L.toArray) Y :=
  run_loadVar_mid Y b 0 94 _ _ h.c Try.underlying94 rfl (info_ports.trans (by rw [hl]))
theorem ap_one (n g i : Nat) : (apL n g i).toArray.all (·.oneCell') = true := by
  refine all_oneCell_toArray (fun v hv => ?_)
  have key : ∀ m, v ∈ portsN (apR g) (apW n g i) m → v.oneCell' = true := by
    intro m
    induction m with
    | zero => intro h; simp [portsN] at h
    | succ m ih =>
      intro h
      simp only [portsN, List.mem_append, List.mem_cons, List.not_mem_nil, or_false] at h
      rcases h with h | rfl | rfl
      · exact ih h
      · unfold apR; split <;> rfl
      · unfold apW; split
        · rfl
        · split <;> rfl
  exact key 32 hv
theorem AP.next' {w Y : World} {g i : Nat} (h : AP w g i Y) (hi : i < 24) (o1 o2 : TypeId) :
    AP w g (i + 1) (((Y.alloc (.cells #[pt g 0] o1)).alloc (.cells #[.int .i64 (i : Int)] o2)).setCell ⟨w.heap.size + 1 + 1, i * 2 + 1, none⟩ (fval 74 #[pt Y.heap.size 0, pt (Y.heap.size + 1) 0])) := by
  have hn := h.next hi o1 o2
  rw [show w.heap.size + 4 + 2 * i = w.heap.size + 3 + 2 * i + 1 by omega, ← h.sz, show 2 * i + 1 = i * 2 + 1 by omega] at hn
  exact hn
theorem ap_two {W w1 : World} {a b : Obj} {x o : Nat} {v : Value} (hw : w1 = (W.alloc a).alloc b) (hc : W.cell? ⟨x, o, none⟩ = some v) (hf : W.frozen? ⟨x, o, none⟩ = false) (hz : x < W.heap.size) : w1.cell? ⟨x, o, none⟩ = some v ∧ w1.frozen? ⟨x, o, none⟩ = false ∧ x < w1.heap.size := by
  subst hw
  have hb := stA (stA (st0 W) a) b
  exact ⟨(hb.cell (p := ⟨x, o, none⟩) hz).trans hc, (hb.frozen (p := ⟨x, o, none⟩) hz).trans hf, Nat.lt_of_lt_of_le hz hb.size⟩
def ap0L (n g : Nat) : List Value := [.nilFunc, .nilFunc, .nilFunc, .nilFunc, .nilFunc, .nilFunc, .nilFunc, .nilFunc, .nilFunc, .nilFunc, .nilFunc, .nilFunc, .nilFunc, .nilFunc, .nilFunc, .nilFunc, .nilFunc, .nilFunc, .nilFunc, .nilFunc, .nilFunc, .nilFunc, .nilFunc, .nilFunc, .nilFunc, .nilFunc, .nilFunc, .nilFunc, .nilFunc, .nilFunc, .nilFunc, .nilFunc, .nilFunc, .nilFunc, .nilFunc, .nilFunc, .nilFunc, .nilFunc, .nilFunc, .nilFunc, .nilFunc, .nilFunc, .nilFunc, .nilFunc, .nilFunc, .nilFunc, .nilFunc, .nilFunc, mval 56 g 0, fval 57 #[pt n 0], .nilFunc, .nilFunc, .nilFunc, .nilFunc, .nilFunc, .nilFunc, .nilFunc, .nilFunc, .nilFunc, .nilFunc, .nilFunc, .nilFunc, .nilFunc, .nilFunc]
theorem ap0_eq (n g : Nat) : ap0L n g = apL n g 0 := by kernel_rfl
theorem ap0_one (n g : Nat) : (ap0L n g).toArray.all (·.oneCell') = true := by rw [ap0_eq]; exact ap_one n g 0
theorem putL_al (L L' : List Value) (h : L'.length = L.length) : putL L 0 L' = L' := by
  have := putL_mid [] L' L [] h
  simpa using this
theorem AP.start {w : World} {g : Nat} (o1 o2 o3 : TypeId) : AP w g 0 (((((w.alloc (.cells #[pt g 0] o1)).alloc (.cells (List.replicate 64 Value.nilFunc).toArray o2)).alloc (.cells (List.replicate 64 Value.nilFunc).toArray o3))).setCells (w.heap.size + 2) 0 (ap0L w.heap.size g)) := by
  have hx := (Bx.new ((w.alloc (.cells #[pt g 0] o1)).alloc (.cells (List.replicate 64 Value.nilFunc).toArray o2)) (List.replicate 64 .nilFunc) o3 (b := w.heap.size + 2) (by simp)).puts 0 (ap0L w.heap.size g) (by simp [ap0L])
  rw [putL_al _ _ (by simp [ap0L])] at hx
  refine ⟨Bl.puts (stA (stA (stA (st0 w) _) _) _) (by omega) _, by rw [size_sets]; simp, (((Bx.new w [pt g 0] o1 rfl).over _).over _).fars (by omega) _ _, ((Bx.new (w.alloc _) (List.replicate 64 .nilFunc) o2 (by simp)).over _).fars (by omega) _ _, by rw [← ap0_eq]; exact hx, fun k hk => by omega⟩
theorem ap_th {w : World} {g : Nat} (o1 o2 o3 : TypeId) : (((w.alloc (.cells #[pt g 0] o1)).alloc (.cells (List.replicate 64 Value.nilFunc).toArray o2)).alloc (.cells (List.replicate 64 Value.nilFunc).toArray o3)).there (w.heap.size + 2) 0 64 :=
  (Bx.new _ (List.replicate 64 .nilFunc) o3 (b := w.heap.size + 2) (by simp)).there 0 64 (by simp)
set_option maxHeartbeats 800000 in
theorem Bu.aports_any (g : Nat) (w : World) : Calls Try.prog 35 #[pt g 0] w fun e w' =>
    e = .returned (.agg (apL w.heap.size g 24).toArray) ∧ ∃ Y, AP w g 24 Y ∧ Below w.heap.size w w' ∧ (∀ k, k ≠ w.heap.size + 1 → w'.heap[k]? = Y.heap[k]?) ∧ Y.heap.size = w'.heap.size := by
  go_enter Try.func35, Try.ntmps35
  go_wp2_with (first
    | (refine wpList_store_mid rfl 94 _ _ rfl (w.heap.size + 2) 0 _ rfl rfl (ap_th 78 94 94) info_ports (ap0_one w.heap.size g) ?_
       refine Pl.cutL (AP w g 0) (AP.start 78 94 94) ?_
       intro Y hY
       have HY := hid hY
       clear hY))
  go_loopw [10] (fun i wr => ∃ k : Nat, k ≤ 24 ∧ i = .int .i64 k ∧ AP w g k wr) (fun i _ => 24 - (intOf i).toNat)
  case atStart => exact ⟨0, by omega, rfl, HY.out⟩
  case round =>
    obtain ⟨k, hk, rfl, hA⟩ := hrel
    by_cases hlt : k < 24
    · have hlt2 : (k : Int) < 24 := by omega
      have hlt3 : (k : Int) < 32 := by omega
      have c1 := hA.b.at 0 (pt g 0) rfl
      have z1 := hA.b.z
      have z2 := hA.l.z
      obtain ⟨v0, hv0⟩ : ∃ v, (apL w.heap.size g k)[k * 2 + 1]? = some v := ⟨_, by rw [Nat.mul_comm]; exact (portsN_at _ _ 32 k (by omega)).2⟩
      have c2 : wr.cell? ⟨w.heap.size + 1 + 1, k * 2 + 1, none⟩ = some v0 := hA.l.at _ _ hv0
      have f2 : wr.frozen? ⟨w.heap.size + 1 + 1, k * 2 + 1, none⟩ = false := hA.l.f (k * 2 + 1)
      have z3 : w.heap.size + 1 + 1 < wr.heap.size := z2
      have HA := hid hA
      clear hA hv0
      go_wp2_with (go_at_call 58; refine (Bu.sound_n g k _).mono ?_; rintro e w1 ⟨rfl, hw⟩; obtain ⟨c3, f3, z4⟩ := ap_two hw c2 f2 z3; have HW := hid hw; clear hw c2 f2 z3 z2)
      go_roundw
      case rel =>
        refine ⟨k + 1, by omega, by go_num, ?_⟩
        rw [HW.out]
        exact HA.out.next' hlt _ _
      case measure => simp [intOf]; omega
    · obtain rfl : k = 24 := by omega
      have HA := hid hA
      have z2 := hA.l.z
      have HR := hid hA.r
      have HL := hid hA.l
      have hL := apL_len w.heap.size g 24
      have HO := hid (ap_one w.heap.size g 24)
      clear hA HY
      generalize hLL : apL w.heap.size g 24 = L at HL hL HO
      have HLL := hid hLL
      have hsz : L.toArray.size = 64 := by simp [hL]
      have HTH : Hid (wr.there (w.heap.size + 1) 0 L.toArray.size) := hid (by rw [hsz]; exact HR.out.there 0 64 (by simp))
      have HIN : Hid ((Try.prog.info? 94).map (·.size) = some L.toArray.size) := hid (by rw [hsz]; exact info_ports)
      clear hLL hsz
      go_wp2_with (first
        | (refine wpList_load_mid rfl 94 _ rfl (w.heap.size + 2) 0 rfl L _ HL.out.c Try.underlying94 rfl (info_ports.trans (by rw [hL])) ?_)
        | (refine wpList_store_mid rfl 94 _ _ rfl (w.heap.size + 1) 0 L.toArray rfl rfl HTH.out HIN.out HO.out ?_
           refine Pl.cutL (fun X => Below w.heap.size w X ∧ (∀ k, k ≠ w.heap.size + 1 → X.heap[k]? = wr.heap[k]?) ∧ wr.heap.size = X.heap.size ∧ Bx X (w.heap.size + 1) L) ⟨?_, ?_, ?_, ?_⟩ ?_
           · exact Bl.puts HA.out.low (by omega) _
           · exact fun k hk => heap_sets_far hk _ _ _
           · exact (size_sets _ _ _ _).symm
           · have hx := HR.out.puts 0 L (by rw [hL]; simp)
             rw [putL_al _ _ (by rw [hL]; simp)] at hx
             exact hx
           rintro X ⟨hX1, hX2, hX3, hX4⟩
           have HX1 := hid hX1
           have HX2 := hid hX2
           have HX3 := hid hX3
           have HX4 := hid hX4
           clear hX1 hX2 hX3 hX4))
      exact bodyPost_ret (v := .agg L.toArray) (by simp only [results, Try.results35]; simp; exact Pl.res (load64 hL HX4.out)) rfl ⟨by rw [HLL.out], wr, HA.out, HX1.out, HX2.out, HX3.out⟩
theorem own_emptyB {w : World} {g B : Nat} (hg : w.heap[g]? = some (.cells #[] 5 (0, 0))) (hB : B ≤ g) : w.ownsRow B 5 1 (.slice (some ⟨g, 0, none⟩) 0 0) ([] : List UInt8).length (bcs []) :=
  ⟨rfl, Or.inr ⟨g, 0, #[], rfl, hB, hg, Nat.le_refl _, by decide, by simp, by simp [bcs]⟩⟩
theorem own_rw {w : World} {B : Nat} {v : Value} {l : List UInt8} (h : w.ownsRow B 5 1 v l.length (bcs l)) : (v = .slice none 0 0 ∧ l = []) ∨ ∃ k cap, v = .slice (some ⟨k, 0, none⟩) l.length cap ∧ l.length ≤ cap ∧ B ≤ k ∧ Bx w k (bcs l) := by
  rcases h.2 with ⟨rfl, h0⟩ | ⟨g, cap, cur, rfl, hb, hg, hn, hm, hs, ht⟩
  · exact Or.inl ⟨rfl, List.length_eq_zero_iff.1 h0⟩
  · refine Or.inr ⟨g, cap, rfl, hn, hb, (Array.getElem?_eq_some_iff.1 hg).1, fun j c hj => ?_, fun o => Lib.frozen_of_heap hg o⟩
    have hjl := (List.getElem?_eq_some_iff.1 hj).1
    rw [bcs_len] at hjl
    rw [Nat.zero_add, Lib.cell_of_heap hg j]
    have e : cur[j]? = (cur.toList.take (l.length * 1))[j]? := by rw [List.getElem?_take, if_pos (by omega)]; simp
    rw [e, ht, hj]
theorem nil_eq2 (n c : Nat) (w : World) : (binOp .eql 26 (.slice none n c) (.slice none 0 0)).run Try.prog w = .ok (.bool true) w := by kernel_rfl
theorem nil_ne (a : Addr) (n c : Nat) (w : World) : (binOp .eql 26 (.slice (some a) n c) (.slice none 0 0)).run Try.prog w = .ok (.bool false) w := by kernel_rfl
theorem Bu.clone_any (v : Value) (l : List UInt8) (w : World) (h : sliceAt w v l) (hl : l.length ≤ 100000) :
    Calls Try.prog 39 #[v] w fun e w' => ∃ v', e = .returned v' ∧ w'.ownsRow w.heap.size 5 1 v' l.length (bcs l) ∧ Below w.heap.size w w' := by
  obtain ⟨a, c, rfl⟩ := slice_len h
  cases a with
  | none =>
    have h0 : l = [] := by
      rcases h with ⟨_, _, _, h2⟩ | ⟨g, o, cap, h1, _⟩
      · exact h2
      · cases h1
    subst h0
    have hn := nil_eq2 0 c
    go_enter Try.func39, Try.ntmps39
    go_wp2
    go_ret
    exact ⟨_, rfl, ⟨rfl, Or.inl ⟨rfl, rfl⟩⟩, st0 _⟩
  | some a =>
    have hn := nil_ne a l.length c
    have H := hid h
    clear h
    go_enter Try.func39, Try.ntmps39
    go_wp2_with (at_builtin; refine wpList_appSlice (by rfl) _ _ (by rfl) w.heap.size _ ([] : List UInt8) (by rfl) (own_emptyB (heap_alloc_new w _) (Nat.le_refl _)) _ (by rfl) l (H.out.kept (stA (st0 w) _)) (by simp; exact hl) (by simp) ?_; intro v' w' hown' hb')
    go_ret
    exact ⟨_, rfl, by simpa using hown', (stA (st0 w) _).trans hb'⟩
def Sl.get (S : Sl) (j : Nat) : Value := match j with | 0 => S.mr | 1 => S.ar | 2 => S.ra | 3 => S.ow | _ => S.vi
def Sl.set (S : Sl) (j : Nat) (v : Value) : Sl := match j with | 0 => { S with mr := v } | 1 => { S with ar := v } | 2 => { S with ra := v } | 3 => { S with ow := v } | _ => { S with vi := v }
def Mach.byt (M : Mach) (j : Nat) : List UInt8 := match j with | 0 => M.mrom | 1 => M.arom | 2 => M.ram | 3 => M.own | _ => M.video
theorem five {j : Nat} (h : j < 5) : j = 0 ∨ j = 1 ∨ j = 2 ∨ j = 3 ∨ j = 4 := by omega
theorem Sl.get_set (S : Sl) (i j : Nat) (v : Value) (hi : i < 5) (hj : j < 5) : (S.set i v).get j = if j = i then v else S.get j := by
  rcases five hi with rfl | rfl | rfl | rfl | rfl <;> rcases five hj with rfl | rfl | rfl | rfl | rfl <;> rfl
theorem machL_at (M : Mach) (S : Sl) (j : Nat) (hj : j < 5) : (machL M S)[30 + j]? = some (S.get j) := by
  rcases five hj with rfl | rfl | rfl | rfl | rfl <;> rfl
theorem machL_set (M : Mach) (S : Sl) (j : Nat) (v : Value) (hj : j < 5) : (machL M S).set (30 + j) v = machL M (S.set j v) := by
  rcases five hj with rfl | rfl | rfl | rfl | rfl <;> rfl
theorem info_mach : (Try.prog.info? 41).map (·.size) = some 75 := by kernel_rfl
theorem load_mach {Y : World} {b o : Nat} (M : Mach) (S : Sl) (h : Y.rangeAt b o (machL M S)) : (loadVar 41 ⟨b, o, none⟩).run Try.prog Y = .ok (.agg (machL M S).toArray) Y :=
  run_loadVar_mid Y b o 41 _ _ h Try.underlying41 rfl info_mach
def Sl.isSl (S : Sl) : Prop := ∀ j, j < 5 → ∃ a n c, S.get j = .slice a n c
theorem machL_one (M : Mach) (S : Sl) (h : S.isSl) : (machL M S).toArray.all (·.oneCell') = true := by
  obtain ⟨a0, n0, c0, e0⟩ := h 0 (by omega)
  obtain ⟨a1, n1, c1, e1⟩ := h 1 (by omega)
  obtain ⟨a2, n2, c2, e2⟩ := h 2 (by omega)
  obtain ⟨a3, n3, c3, e3⟩ := h 3 (by omega)
  obtain ⟨a4, n4, c4, e4⟩ := h 4 (by omega)
  simp only [Sl.get] at e0 e1 e2 e3 e4
  unfold machL cpuL slL restL
  rw [e0, e1, e2, e3, e4]
  simp [Value.oneCell']
end Go.Proofs.Ytdioiilmpjckfaa
