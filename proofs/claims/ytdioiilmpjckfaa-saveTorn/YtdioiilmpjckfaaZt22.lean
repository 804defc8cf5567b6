/-
  Parts of a proof, joined.
-/
import Derived.Test.YtdioiilmpjckfaaZt21
import Derived.Test.YtdioiilmpjckfaaZt06
namespace Go.Proofs.Ytdioiilmpjckfaa
open Go.ChangeShapes Go.WideShapes Go.ChangeAt Go.RowKit
set_option linter.unusedVariables false
set_option maxRecDepth 100000
theorem machC_len (M : Mach) : (machC M).length = 75 := rfl
theorem mach_val (M : Mach) (S : Sl) : ∀ i, i < 75 → ∀ c, (machC M)[i]? = some c → c.kd ≠ .lst → (machL M S)[i]? = some c.val
  | 0, _, c, h, _ | 1, _, c, h, _ | 2, _, c, h, _ | 3, _, c, h, _ | 4, _, c, h, _ | 5, _, c, h, _ | 6, _, c, h, _ | 7, _, c, h, _ | 8, _, c, h, _ | 9, _, c, h, _
  | 10, _, c, h, _ | 11, _, c, h, _ | 12, _, c, h, _ | 13, _, c, h, _ | 14, _, c, h, _ | 15, _, c, h, _ | 16, _, c, h, _ | 17, _, c, h, _ | 18, _, c, h, _ | 19, _, c, h, _
  | 20, _, c, h, _ | 21, _, c, h, _ | 22, _, c, h, _ | 23, _, c, h, _ | 24, _, c, h, _ | 25, _, c, h, _ | 26, _, c, h, _ | 27, _, c, h, _ | 28, _, c, h, _ | 29, _, c, h, _
  | 35, _, c, h, _ | 36, _, c, h, _ | 37, _, c, h, _ | 38, _, c, h, _ | 39, _, c, h, _
  | 40, _, c, h, _ | 41, _, c, h, _ | 42, _, c, h, _ | 43, _, c, h, _ | 44, _, c, h, _ | 45, _, c, h, _ | 46, _, c, h, _ | 47, _, c, h, _ | 48, _, c, h, _ | 49, _, c, h, _
  | 50, _, c, h, _ | 51, _, c, h, _ | 52, _, c, h, _ | 53, _, c, h, _ | 54, _, c, h, _ | 55, _, c, h, _ | 56, _, c, h, _ | 57, _, c, h, _ | 58, _, c, h, _ | 59, _, c, h, _
  | 60, _, c, h, _ | 61, _, c, h, _ | 62, _, c, h, _ | 63, _, c, h, _ | 64, _, c, h, _ | 65, _, c, h, _ | 66, _, c, h, _ | 67, _, c, h, _ | 68, _, c, h, _ | 69, _, c, h, _
  | 70, _, c, h, _ | 71, _, c, h, _ | 72, _, c, h, _ | 73, _, c, h, _ | 74, _, c, h, _ => by
    have h' := Option.some.inj h
    subst h'
    rfl
  | 30, _, c, h, hk | 31, _, c, h, hk | 32, _, c, h, hk | 33, _, c, h, hk | 34, _, c, h, hk => by
    have h' := Option.some.inj h
    subst h'
    exact absurd rfl hk
  | n + 75, h, _, _, _ => by omega
theorem svI_lt : ∀ i ∈ svI, i < 75 := by decide
theorem svX_at {M : Mach} {j i : Nat} (h : svI[j]? = some i) : ∃ c, (svX M)[j]? = some c ∧ (machC M)[i]? = some c := by
  have hi := svI_lt i (List.mem_of_getElem? h)
  obtain ⟨c, hc⟩ : ∃ c, (machC M)[i]? = some c := ⟨_, List.getElem?_eq_getElem (by rw [machC_len]; exact hi)⟩
  refine ⟨c, ?_, hc⟩
  unfold svX
  rw [List.getElem?_map, h]
  simp [List.getD, hc]
theorem svK_at {j : Nat} {k : Kd} {M : Mach} {c : Ct} (h : svK[j]? = some k) (hc : (svX M)[j]? = some c) : c.kd = k := by
  have e := svX_kd M
  rw [← e, List.getElem?_map, hc] at h
  exact Option.some.inj h
def Mach.wok (M : Mach) : Prop := (∀ c ∈ svX M, c.ok) ∧ (enc M).length ≤ 4000
structure Src (M : Mach) (S : Sl) (m g : Nat) (W0 : World) : Prop where
  bx : Bx W0 m (machL M S)
  lt : m < g
  s : ∀ j, j < 5 → SlUn g W0 (S.get j) (M.byt j)
  ok : M.wok
theorem Src.kept {M : Mach} {S : Sl} {m g : Nat} {W0 W : World} (h : Src M S m g W0) (hb : Below g W0 W) : Src M S m g W := ⟨h.bx.under hb h.lt, h.lt, fun j hj => (h.s j hj).kept hb, h.ok⟩
structure StW (M : Mach) (g : Nat) (W0 : World) (n : Nat) (W : World) : Prop where
  w : ∃ v, Wr g (wrL ((svX M).take n)) v W
  low : Below g W0 W
theorem enc_take (M : Mach) (n : Nat) : (wrL ((svX M).take n)).length ≤ (enc M).length := by
  have e : svX M = (svX M).take n ++ (svX M).drop n := (List.take_append_drop _ _).symm
  have e2 : (enc M).length = (wrL ((svX M).take n)).length + (wrL ((svX M).drop n)).length := by
    unfold enc
    rw [← List.length_append, ← wrL_app, List.take_append_drop]
  omega
theorem take_at {α : Type} {l : List α} {n k j : Nat} {x : α} (h : ((l.drop n).take k)[j]? = some x) : l[n + j]? = some x ∧ j < k := by
  have hj := (List.getElem?_eq_some_iff.1 h).1
  rw [List.length_take] at hj
  rw [List.getElem?_take_of_lt (by omega), List.getElem?_drop] at h
  exact ⟨h, by omega⟩
theorem rep_at {α : Type} {k j : Nat} {a : α} (h : j < k) : (List.replicate k a)[j]? = some a := by rw [List.getElem?_replicate, if_pos h]
theorem ptrs_at {m : Nat} {l : List Nat} {j : Nat} {i : Nat} (h : l[j]? = some i) : (ptrs m l)[j]? = some (pt m i) := by unfold ptrs; rw [List.getElem?_map, h]; rfl
section
variable {M : Mach} {S : Sl} {m g : Nat} {W0 W : World}
theorem cts_take (n k : Nat) : cts (((svI.drop n).take k).map (fun i => (⟨m, i, (machC M).getD i (.u8 0)⟩ : Pc))) = ((svX M).drop n).take k := by
  unfold cts svX
  rw [List.map_map, List.map_take, List.map_drop]
  rfl
theorem Sv.wstep (K : Kd) (f : Nat) (t : TypeId) (hK : K ≠ .lst)
    (H : ∀ (k cap : Nat) (xs : List UInt8) (v : Value) (ps : List Pc) (W : World), Wr g xs v W → ¬ Tw g v k → (∀ j p, ps[j]? = some p → Pc.at K (Tw g v) k j W p) → xs.length + K.len * ps.length ≤ 50000 → Calls Try.prog f #[pt g 0, .slice (some ⟨k, 0, none⟩) ps.length cap] W fun e w' => e = .returned (.tuple #[]) ∧ ∃ v', Wr g (xs ++ wrL (cts ps)) v' w' ∧ Mv g (Tw g v) (Tw g v') W w')
    (hs : Src M S m g W0) (n k : Nat) (W : World) (h : StW M g W0 n W) (hk : (svK.drop n).take k = List.replicate k K) :
    Calls Try.prog f #[pt g 0, .slice (some ⟨W.heap.size, 0, none⟩) k k] (W.alloc (.cells (ptrs m ((svI.drop n).take k)).toArray t)) (Stp (StW M g W0) (fun _ => False) (n + k)) := by
  obtain ⟨v, hw⟩ := h.w
  have hsW := hs.kept h.low
  have hln : ((svI.drop n).take k).length = k := by
    have e : ((svK.drop n).take k).length = k := by rw [hk, List.length_replicate]
    have e2 : svK.length = svI.length := by rfl
    rw [List.length_take, List.length_drop] at e ⊢
    omega
  let ps : List Pc := ((svI.drop n).take k).map (fun i => ⟨m, i, (machC M).getD i (.u8 0)⟩)
  have hpl : ps.length = k := by show (List.map _ _).length = k; rw [List.length_map, hln]
  have hct : cts ps = ((svX M).drop n).take k := cts_take n k
  have hp : ∀ j p, ps[j]? = some p → Pc.at K (Tw g v) W.heap.size j (W.alloc (.cells (ptrs m ((svI.drop n).take k)).toArray t)) p := fun j p hj => by
    rw [List.getElem?_map, Option.map_eq_some_iff] at hj
    obtain ⟨i, hi, rfl⟩ := hj
    obtain ⟨hi2, hjk⟩ := take_at hi
    obtain ⟨c, hc1, hc2⟩ := svX_at (M := M) hi2
    have hkd : c.kd = K := by
      have h2 : ((svK.drop n).take k)[j]? = some K := by rw [hk]; exact rep_at hjk
      exact svK_at (take_at h2).1 hc1
    have hd : (machC M).getD i (.u8 0) = c := by simp [List.getD, hc2]
    have hi75 := svI_lt i (List.mem_of_getElem? hi2)
    refine ⟨?_, ?_, ?_, ?_, ?_⟩
    · refine (cell_new _ _ _ _ _ rfl).trans ?_
      simpa using ptrs_at (m := m) hi
    · show (W.alloc _).cell? ⟨m, i, none⟩ = some ((machC M).getD i (.u8 0)).val
      rw [hd]
      exact cell_over _ _ (hsW.bx.at i _ (mach_val M S i hi75 c hc2 (by rw [hkd]; exact hK)))
    · exact hw.low hs.lt
    · show ((machC M).getD i (.u8 0)).ok
      rw [hd]; exact hs.ok.1 c (List.mem_of_getElem? hc1)
    · show ((machC M).getD i (.u8 0)).kd = K
      rw [hd]; exact hkd
  have hkd2 : ∀ c ∈ cts ps, c.kd = K := fun c hc => by
    obtain ⟨p, hp1, rfl⟩ := List.mem_map.1 hc
    obtain ⟨i, hi⟩ := List.mem_iff_getElem?.1 hp1
    exact (hp i p hi).kd
  have hlen : (wrL ((svX M).take n)).length + K.len * ps.length ≤ 50000 := by
    have h1 := enc_take M (n + k)
    rw [← svX_take, List.length_append, ← hct, wrL_len hK _ hkd2] at h1
    have h2 := hs.ok.2
    simp only [cts, List.length_map] at h1
    omega
  have hc := H W.heap.size k _ v ps _ (hw.over (.cells (ptrs m ((svI.drop n).take k)).toArray t)) (hw.new (Nat.le_refl _)) hp hlen
  rw [hpl] at hc
  refine hc.mono fun e w' ⟨he, v', h1, h2⟩ => Or.inr ⟨he, ⟨v', ?_⟩, ?_⟩
  · rw [hct, svX_take] at h1
    exact h1
  · exact h.low.trans (((stA (st0 W) _).mono (Nat.le_of_lt hw.b.z)).trans h2.below)
theorem Sv.wstepL (f : Nat) (t : TypeId)
    (H : ∀ (k cap : Nat) (xs : List UInt8) (v : Value) (ps : List Ps) (W : World), Wr g xs v W → ¬ Tw g v k → (∀ j p, ps[j]? = some p → Ps.at g k j W p) → xs.length + (wrL (lts ps)).length ≤ 50000 → ps.length ≤ 100 → Calls Try.prog f #[pt g 0, .slice (some ⟨k, 0, none⟩) ps.length cap] W fun e w' => e = .returned (.tuple #[]) ∧ ∃ v', Wr g (xs ++ wrL (lts ps)) v' w' ∧ Mv g (Tw g v) (Tw g v') W w')
    (hs : Src M S m g W0) (W : World) (h : StW M g W0 30 W) :
    Calls Try.prog f #[pt g 0, .slice (some ⟨W.heap.size, 0, none⟩) 5 5] (W.alloc (.cells (ptrs m ((svI.drop 30).take 5)).toArray t)) (Stp (StW M g W0) (fun _ => False) 35) := by
  obtain ⟨v, hw⟩ := h.w
  have hsW := hs.kept h.low
  let ps : List Ps := [⟨m, 30, M.mrom⟩, ⟨m, 31, M.arom⟩, ⟨m, 32, M.ram⟩, ⟨m, 33, M.own⟩, ⟨m, 34, M.video⟩]
  have hct : lts ps = ((svX M).drop 30).take 5 := rfl
  have hok : ∀ c ∈ lts ps, c.ok := fun c hc => hs.ok.1 c (by rw [hct] at hc; exact List.mem_of_mem_drop (List.mem_of_mem_take hc))
  have hlt : W.heap.size ≤ (W.alloc (.cells (ptrs m ((svI.drop 30).take 5)).toArray t)).heap.size := by simp
  have hone : ∀ j (hj : j < 5) (l : List UInt8), M.byt j = l → (Ct.lst l).ok → Ps.at g W.heap.size j (W.alloc (.cells (ptrs m ((svI.drop 30).take 5)).toArray t)) ⟨m, 30 + j, l⟩ := fun j hj l hl hlo => by
    refine ⟨?_, ⟨S.get j, cell_over _ _ (hsW.bx.at (30 + j) _ (machL_at M S j hj)), ?_⟩, hs.lt, hlo⟩
    · refine (cell_new _ _ _ _ _ rfl).trans ?_
      rcases five hj with rfl | rfl | rfl | rfl | rfl <;> rfl
    · rw [← hl]
      exact (hsW.s j hj).kept ((stA (st0 W) _).mono (Nat.le_of_lt hw.b.z))
  have hp : ∀ j p, ps[j]? = some p → Ps.at g W.heap.size j (W.alloc (.cells (ptrs m ((svI.drop 30).take 5)).toArray t)) p := fun j p hj => by
    match j, hj with
    | 0, hj => cases hj; exact hone 0 (by omega) _ rfl (hok _ (by simp [lts, ps]))
    | 1, hj => cases hj; exact hone 1 (by omega) _ rfl (hok _ (by simp [lts, ps]))
    | 2, hj => cases hj; exact hone 2 (by omega) _ rfl (hok _ (by simp [lts, ps]))
    | 3, hj => cases hj; exact hone 3 (by omega) _ rfl (hok _ (by simp [lts, ps]))
    | 4, hj => cases hj; exact hone 4 (by omega) _ rfl (hok _ (by simp [lts, ps]))
    | j + 5, hj => cases hj
  have hlen : (wrL ((svX M).take 30)).length + (wrL (lts ps)).length ≤ 50000 := by
    have h1 := enc_take M (30 + 5)
    rw [← svX_take, List.length_append, ← hct] at h1
    have h2 := hs.ok.2
    omega
  have hc := H W.heap.size 5 _ v ps _ (hw.over (.cells (ptrs m ((svI.drop 30).take 5)).toArray t)) (hw.new (Nat.le_refl _)) hp hlen (by simp [ps])
  refine hc.mono fun e w' ⟨he, v', h1, h2⟩ => Or.inr ⟨he, ⟨v', ?_⟩, ?_⟩
  · rw [hct, svX_take] at h1
    exact h1
  · exact h.low.trans (((stA (st0 W) _).mono (Nat.le_of_lt hw.b.z)).trans h2.below)
theorem Sv.wcar (hs : Src M S m g W0) : Car 70 g m 104 103 107 106 105 (StW M g W0) (fun _ => False) where
  drew := fun n W h => ⟨h.w.elim fun v hv => ⟨v, hv.drew⟩, h.low.drew⟩
  eb := fun _ _ => rfl
  eo := fun _ _ => rfl
  ew := fun _ _ => rfl
  en := fun _ _ => rfl
  el := fun _ _ => rfl
  mb := fun _ => by kernel_rfl
  mo := fun _ => by kernel_rfl
  mw := fun _ => by kernel_rfl
  mn := fun _ => by kernel_rfl
  ml := fun _ => by kernel_rfl
  nb := fun _ => by kernel_rfl
  no := fun _ => by kernel_rfl
  nw := fun _ => by kernel_rfl
  nn := fun _ => by kernel_rfl
  nl := fun _ => by kernel_rfl
  sb := Sv.wstep .u8 _ _ (by intro h; cases h) (fun k cap xs v ps W h hk hp hl => Sv.wbyte g k cap xs v ps W h hk hp (by simpa [Kd.len] using hl)) hs
  so := Sv.wstep .bo _ _ (by intro h; cases h) (fun k cap xs v ps W h hk hp hl => Sv.wbools g k cap xs v ps W h hk hp hl) hs
  sw := Sv.wstep .u16 _ _ (by intro h; cases h) (fun k cap xs v ps W h hk hp hl => Sv.wwords g k cap xs v ps W h hk hp hl) hs
  sn := Sv.wstep .num _ _ (by intro h; cases h) (fun k cap xs v ps W h hk hp hl => Sv.wnumbers g k cap xs v ps W h hk hp hl) hs
  sl := Sv.wstepL _ _ (fun k cap xs v ps W h hk hp hl h1 => Sv.wlists g k cap xs v ps W h hk hp hl h1) hs
end
end Go.Proofs.Ytdioiilmpjckfaa
