/-
  Package tape: Buttons and OfButtons.
-/
import Derived.Test.YtbfflipcmciapaaDoorTapA
import Derived.Lib.ConvBytes
import Derived.Lib.SmallJoins
import Derived.Lib.UnsafeStr
namespace Go.Proofs.YtbfflipcmciapaaDoor
open Go.ChangeShapes Go.WideShapes Go.ChangeAt Go.RowKit
set_option linter.unusedVariables false
set_option maxRecDepth 100000

theorem Tp.eight {i : Nat} (h : i < 8) : i = 0 ∨ i = 1 ∨ i = 2 ∨ i = 3 ∨ i = 4 ∨ i = 5 ∨ i = 6 ∨ i = 7 := by omega
theorem Tp.bit_any (i : Nat) (h : i < 8) (w : World) : Calls Tryd.prog 28 #[.int .i64 i] w fun e w' => e = .returned (.int .u8 ((128 / 2 ^ i : Nat) : Int)) ∧ w = w' := by
  rcases Tp.eight h with rfl | rfl | rfl | rfl | rfl | rfl | rfl | rfl
  all_goals
    go_enter Tryd.func28, Tryd.ntmps28
    go_wp2
    go_ret
    exact ⟨rfl, rfl⟩
/-- The letters' bytes as a new row. -/
def Tp.W0 (w : World) : World := (w.alloc (.cells (bcs Tp.lts).toArray 5)).freeze ⟨w.heap.size, 8, none⟩ 1
theorem Tp.conv_mark (w : World) : (convert 51 51 (.slice (some ⟨w.heap.size, 0, none⟩) 8 8)).run Tryd.prog (w.alloc (.cells (bcs Tp.lts).toArray 5)) = .ok (.slice (some ⟨w.heap.size, 0, none⟩) 8 8) (Tp.W0 w) := by
  have hsh : (w.alloc (.cells (bcs Tp.lts).toArray 5)).shape? w.heap.size = some (5, 8) := by
    simp [World.shape?, World.alloc, -World.alloc_eq]
    exact rfl
  simp [convert, run_underlying Tryd.underlying51, run_underlying Tryd.underlying5, markStringish, hsh, Result.andThen]
  rfl
theorem Tp.w0_new (w : World) : (Tp.W0 w).heap[w.heap.size]? = some (.cells (bcs Tp.lts).toArray 5 (8, 9)) := by
  simp [Tp.W0, World.freeze, World.alloc, -World.alloc_eq]
  rw [Array.getElem_modify_self]
  simp
theorem Tp.w0_below (w : World) : Below w.heap.size w (Tp.W0 w) :=
  Lib.below_freeze (stA (st0 w) _) (p := ⟨w.heap.size, _, none⟩) (Nat.le_refl _) 1
theorem Tp.w0_row (w : World) : Tp.Row (Tp.W0 w) w.heap.size (bcs Tp.lts) := by
  refine ⟨?_, fun j v hj => ?_, fun o ho => ?_⟩
  · have := (Array.getElem?_eq_some_iff.1 (Tp.w0_new w)).1
    exact this
  · rw [Nat.zero_add]
    simp only [World.cell?, Tp.w0_new w]
    simpa using hj
  · have hl : o < 8 := ho
    simp only [World.frozen?, Tp.w0_new w]
    simp
    omega
theorem Tp.set_same {l : List UInt8} {i : Nat} {x : UInt8} (h : l[i]? = some x) : l.set i x = l := by
  obtain ⟨hi, e⟩ := List.getElem?_eq_some_iff.1 h
  rw [← e]
  exact List.set_getElem_self hi
set_option maxHeartbeats 1600000 in
theorem Tp.buttons_any (d : Nat) (hd : d < 256) (w : World) : Calls Tryd.prog 11 #[.int .u8 d] w fun e w' => e = .returned (.string (mk (Tp.btn d))) ∧ Below w.heap.size w w' := by
  have cv := Tp.conv_mark w
  have HR : Hid (Tp.Row (Tp.W0 w) w.heap.size (bcs (Tp.pre d 0))) := hid (Tp.w0_row w)
  have HB := hid (Tp.w0_below w)
  generalize Tp.W0 w = w0 at *
  change (convert _ _ _).run _ (w.alloc (.cells #[.int .u8 117, .int .u8 100, .int .u8 108, .int .u8 114, .int .u8 97, .int .u8 98, .int .u8 115, .int .u8 116] _)) = _ at cv
  go_enter Tryd.func11, Tryd.ntmps11
  go_wp2
  go_loopw [7] (fun i wr => ∃ j : Nat, j ≤ 8 ∧ i = .int .i64 j ∧ Tp.Row wr w.heap.size (bcs (Tp.pre d j)) ∧ Below w.heap.size w wr) (fun i _ => 8 - (intOf i).toNat)
  case atStart => exact ⟨0, by omega, rfl, HR.out, HB.out⟩
  case round =>
    obtain ⟨j, hj, rfl, hx, hb⟩ := hrel
    have HX := hid hx
    have HB2 := hid hb
    by_cases hlt : j < 8
    · have hji : (j : Int) < 8 := by omega
      have hj0 : (0 : Int) ≤ j := by omega
      have hz := hx.z
      have hz2 := hb.size
      obtain ⟨an, an2⟩ := Tp.and_bit ⟨j, hlt⟩ ⟨d, hd⟩
      simp only at an an2
      have hfr := hx.f j (by unfold bcs; rw [List.length_map, Tp.pre_len]; exact hlt)
      have hcl := hx.at j (.int .u8 (Tp.lt j).toNat) (by unfold bcs; rw [List.getElem?_map, (Tp.pre_next ⟨j, hlt⟩ ⟨d, hd⟩).2]; rfl)
      have HE := hid (Tp.pre_next ⟨j, hlt⟩ ⟨d, hd⟩).1
      by_cases hbt : Tp.bt d j = 46
      · have hbt2 : (bits .and .u8 (d : Int) ((128 / 2 ^ j : Nat) : Int) == 0) = true := by rw [an, hbt]; rfl
        generalize hk : ((128 / 2 ^ j : Nat) : Int) = k at *
        clear hx hb an an2
        go_wp2_with (go_at_call 28; refine (Tp.bit_any j hlt _).mono ?_; rw [hk]; rintro e w1 ⟨rfl, rfl⟩)
        refine ⟨⟨j + 1, by omega, by simp, ?_, ?_⟩, by simp [intOf]; omega⟩
        · have := HX.out.set j (.int .u8 46) (by unfold bcs; rw [List.length_map, Tp.pre_len]; exact hlt)
          rw [HE.out, hbt]
          unfold bcs at this ⊢
          rw [List.map_set]
          exact this
        · exact Pl.below (Nat.le_refl _) [.int .u8 46] j wr HB2.out
      · have hbt2 : (bits .and .u8 (d : Int) ((128 / 2 ^ j : Nat) : Int) == 0) = false := by rw [an]; simpa using hbt
        have hbt3 := an2 hbt2
        generalize hk : ((128 / 2 ^ j : Nat) : Int) = k at *
        clear hx hb an an2
        go_wp2_with (go_at_call 28; refine (Tp.bit_any j hlt _).mono ?_; rw [hk]; rintro e w1 ⟨rfl, rfl⟩)
        refine ⟨⟨j + 1, by omega, by simp, ?_, HB2.out⟩, by simp [intOf]; omega⟩
        rw [HE.out, hbt3, Tp.set_same (Tp.pre_next ⟨j, hlt⟩ ⟨d, hd⟩).2]
        exact HX.out
    · have hj8 : j = 8 := by omega
      subst hj8
      have cs : sliceAt wr (.slice (some ⟨w.heap.size, 0, none⟩) 8 8) (Tp.btn d) := Or.inr ⟨w.heap.size, 0, 8, rfl, Nat.le_refl _, hx.z, fun k c hk => by rw [Nat.zero_add]; exact hx.at k _ (by rw [Tp.pre_8]; unfold bcs; rw [List.getElem?_map, hk]; rfl)⟩
      have cv2 := conv_any cs
      clear hx hb
      go_wp2
      go_ret
      exact ⟨rfl, HB2.out⟩
/-- Back: each byte is its letter, or none. -/
theorem Tp.ofb_bad {l : List UInt8} {i : Nat} (hi : i < 8) {c : UInt8} (hc : l[i]? = some c) (h1 : c ≠ 46) (h2 : c ≠ Tp.lt i) : Tp.ofb l = none :=
  Tp.ofb_no fun d _ e => by
    rw [← e, Tp.btn_at d i hi] at hc
    rcases Tp.bt_two d i with h | h
    · exact h1 ((Option.some.inj hc).symm.trans h)
    · exact h2 ((Option.some.inj hc).symm.trans h)
theorem Tp.ofb_len {l : List UInt8} (h : l.length ≠ 8) : Tp.ofb l = none := Tp.ofb_no fun d _ e => h (by rw [← e]; rfl)
theorem Tp.ofb_all {l : List UInt8} {d : Nat} (hl : l.length = 8) (hd : d < 256) (h : ∀ j, j < 8 → l[j]? = some (Tp.bt d j)) : Tp.ofb l = some d := by
  have : l = Tp.btn d := List.ext_getElem? fun j => by
    by_cases hj : j < 8
    · rw [h j hj, Tp.btn_at d j hj]
    · rw [List.getElem?_eq_none (by omega), List.getElem?_eq_none (by rw [Tp.btn_len]; omega)]
  rw [this, Tp.ofb_btn hd]
/-- What OfButtons tells. -/
def Tp.ofbN (l : List UInt8) : Int := ((Tp.ofb l).getD 0 : Nat)
def Tp.ofbE (l : List UInt8) : Int := if (Tp.ofb l).isSome then 0 else 1
theorem Tp.mk_at {l : List UInt8} {i : Nat} {c : UInt8} (h : l[i]? = some c) : ∀ h', (mk l)[i]'h' = c := by
  intro h'
  have hl : i < l.length := h'
  rw [List.getElem?_eq_getElem hl] at h
  exact Option.some.inj h
theorem Tp.ne_nat {a b : UInt8} (h : a ≠ b) : ¬ (a.toNat : Int) = b.toNat := fun e => h (UInt8.toNat_inj.1 (by omega))
set_option maxHeartbeats 3200000 in
theorem Tp.ofButtons_any (l : List UInt8) (w : World) : Calls Tryd.prog 8 #[.string (mk l)] w fun e w' => e = .returned (.tuple #[.int .u8 (Tp.ofbN l), .int .i64 (Tp.ofbE l)]) ∧ w = w' := by
  by_cases hl : l.length = 8
  · have hs : (mk l).size = 8 := hl
    go_enter Tryd.func8, Tryd.ntmps8
    go_wp2
    go_loopw [9, 4] (fun i dn wr => ∃ (j d : Nat), j ≤ 8 ∧ i = .int .i64 j ∧ dn = .int .u8 d ∧ d < 256 ∧ d % 2 ^ (8 - j) = 0 ∧ (∀ k, k < j → l[k]? = some (Tp.bt d k)) ∧ w = wr) (fun i _ _ => 8 - (intOf i).toNat)
    case atStart => exact ⟨0, 0, by omega, rfl, rfl, by omega, by omega, fun k hk => absurd hk (by omega), rfl⟩
    case round =>
      obtain ⟨j, d, hj, rfl, rfl, hd, hdm, hk, rfl⟩ := hrel
      have HK := hid hk
      clear hk
      by_cases hlt : j < 8
      · obtain ⟨c, hc⟩ : ∃ c, l[j]? = some c := ⟨_, List.getElem?_eq_getElem (by omega)⟩
        have hji : (j : Int) < 8 := by omega
        have hj0 : (0 : Int) ≤ j := by omega
        have hsj := Tp.mk_at hc
        obtain ⟨o1, o2, o3, o4, o5, o6, o7⟩ := Tp.or_more ⟨j, hlt⟩ ⟨d, hd⟩ hdm
        simp only at o1 o2 o3 o4 o5 o6 o7
        have HC := hid hc
        have HO := hid o7
        clear hc o7
        have hdn : d % 2 ^ (8 - (j + 1)) = 0 := by rw [show 8 - (j + 1) = 7 - j by omega]; exact o6
        by_cases h1 : c = Tp.lt j
        · have hdn2 : (d + 128 / 2 ^ j) % 2 ^ (8 - (j + 1)) = 0 := by rw [show 8 - (j + 1) = 7 - j by omega]; exact o3
          have hnext : Hid (∀ k, k < j + 1 → l[k]? = some (Tp.bt (d + 128 / 2 ^ j) k)) := fun k hk => by
            by_cases e : k = j
            · subst e; rw [HC.out, o4, h1]
            · rw [HO.out ⟨k, by omega⟩ (by simp only; omega)]; exact HK.out k (by omega)
          generalize h128 : 128 / 2 ^ j = q at *
          clear o3 o4 o5 o6 hdm hdn
          subst h1
          rcases Tp.eight hlt with rfl | rfl | rfl | rfl | rfl | rfl | rfl | rfl
          all_goals
            go_wp2_with (go_at_call 28; refine (Tp.bit_any _ hlt _).mono ?_; rw [h128]; rintro e w1 ⟨rfl, rfl⟩)
            exact ⟨⟨_, d + q, by omega, by simp, rfl, o2, hdn2, hnext.out, (by first | rfl | trivial)⟩, by simp [intOf]⟩
        · by_cases h2 : c = 46
          · subst h2
            have hnext : Hid (∀ k, k < j + 1 → l[k]? = some (Tp.bt d k)) := fun k hk => by
              by_cases e : k = j
              · subst e; rw [HC.out, o5]
              · exact HK.out k (by omega)
            clear o1 o2 o3 o4 o5 o6 hdm
            rcases Tp.eight hlt with rfl | rfl | rfl | rfl | rfl | rfl | rfl | rfl
            all_goals
              go_wp2
              exact ⟨⟨_, d, by omega, by simp, rfl, hd, hdn, hnext.out, (by first | rfl | trivial)⟩, by simp [intOf]⟩
          · have e := Tp.ofb_bad hlt HC.out h2 h1
            have e1 : Tp.ofbN l = 0 := by unfold Tp.ofbN; rw [e]; rfl
            have e2 : Tp.ofbE l = 1 := by unfold Tp.ofbE; rw [e]; rfl
            have HE := hid (And.intro e1 e2)
            have h3 := Tp.ne_nat h1
            have h4 : ¬ (c.toNat : Int) = 46 := Tp.ne_nat h2
            clear e e1 e2 o1 o2 o3 o4 o5 o6 hdm hdn h1 h2
            rcases Tp.eight hlt with rfl | rfl | rfl | rfl | rfl | rfl | rfl | rfl
            · change ¬ (c.toNat : Int) = 117 at h3
              have hL : ∀ h, (⟨#[117, 100, 108, 114, 97, 98, 115, 116]⟩ : ByteArray)[0]'h = 117 := fun _ => rfl
              go_wp2
              go_ret2
              rw [HE.out.1, HE.out.2]
              exact ⟨rfl, rfl⟩
            · change ¬ (c.toNat : Int) = 100 at h3
              have hL : ∀ h, (⟨#[117, 100, 108, 114, 97, 98, 115, 116]⟩ : ByteArray)[1]'h = 100 := fun _ => rfl
              go_wp2
              go_ret2
              rw [HE.out.1, HE.out.2]
              exact ⟨rfl, rfl⟩
            · change ¬ (c.toNat : Int) = 108 at h3
              have hL : ∀ h, (⟨#[117, 100, 108, 114, 97, 98, 115, 116]⟩ : ByteArray)[2]'h = 108 := fun _ => rfl
              go_wp2
              go_ret2
              rw [HE.out.1, HE.out.2]
              exact ⟨rfl, rfl⟩
            · change ¬ (c.toNat : Int) = 114 at h3
              have hL : ∀ h, (⟨#[117, 100, 108, 114, 97, 98, 115, 116]⟩ : ByteArray)[3]'h = 114 := fun _ => rfl
              go_wp2
              go_ret2
              rw [HE.out.1, HE.out.2]
              exact ⟨rfl, rfl⟩
            · change ¬ (c.toNat : Int) = 97 at h3
              have hL : ∀ h, (⟨#[117, 100, 108, 114, 97, 98, 115, 116]⟩ : ByteArray)[4]'h = 97 := fun _ => rfl
              go_wp2
              go_ret2
              rw [HE.out.1, HE.out.2]
              exact ⟨rfl, rfl⟩
            · change ¬ (c.toNat : Int) = 98 at h3
              have hL : ∀ h, (⟨#[117, 100, 108, 114, 97, 98, 115, 116]⟩ : ByteArray)[5]'h = 98 := fun _ => rfl
              go_wp2
              go_ret2
              rw [HE.out.1, HE.out.2]
              exact ⟨rfl, rfl⟩
            · change ¬ (c.toNat : Int) = 115 at h3
              have hL : ∀ h, (⟨#[117, 100, 108, 114, 97, 98, 115, 116]⟩ : ByteArray)[6]'h = 115 := fun _ => rfl
              go_wp2
              go_ret2
              rw [HE.out.1, HE.out.2]
              exact ⟨rfl, rfl⟩
            · change ¬ (c.toNat : Int) = 116 at h3
              have hL : ∀ h, (⟨#[117, 100, 108, 114, 97, 98, 115, 116]⟩ : ByteArray)[7]'h = 116 := fun _ => rfl
              go_wp2
              go_ret2
              rw [HE.out.1, HE.out.2]
              exact ⟨rfl, rfl⟩
      · have hj8 : j = 8 := by omega
        subst hj8
        have e := Tp.ofb_all hl hd HK.out
        have e1 : Tp.ofbN l = d := by unfold Tp.ofbN; rw [e]; rfl
        have e2 : Tp.ofbE l = 0 := by unfold Tp.ofbE; rw [e]; rfl
        have HE := hid (And.intro e1 e2)
        clear e e1 e2
        go_wp2
        go_ret2
        rw [HE.out.1, HE.out.2]
        exact ⟨rfl, rfl⟩
  · have hs : ¬ (mk l).size = 8 := hl
    have hs2 : ((mk l).size : Int) ≠ 8 := by omega
    unfold Tp.ofbN Tp.ofbE
    rw [Tp.ofb_len hl]
    go_enter Tryd.func8, Tryd.ntmps8
    go_wp2
    go_ret2
    exact ⟨rfl, rfl⟩
end Go.Proofs.YtbfflipcmciapaaDoor
