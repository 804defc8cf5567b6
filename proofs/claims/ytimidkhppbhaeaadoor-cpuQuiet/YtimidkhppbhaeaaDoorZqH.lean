/-
  For every processor, every space and either ring the law CpuQuiet of the program returns true and leaves its arguments as they were; no condition but the row's own.
-/
import Derived.Test.YtimidkhppbhaeaaDoorShapes
import Derived.Test.YtimidkhppbhaeaaDoorCards
import Derived.Test.YtimidkhppbhaeaaDoorTie
import Derived.SevenTiedAt
import Derived.Test.YtimidkhppbhaeaaDoorZqE
import Derived.Test.YtimidkhppbhaeaaDoorZqF
import Derived.Test.YtimidkhppbhaeaaDoorZqG
namespace Go.Proofs.YtimidkhppbhaeaaDoor
open Go.ChangeShapes Go.WideShapes Go.ChangeAt Go.RowKit
set_option linter.unusedVariables false

def CpuQuietWalk : Prop := ∀ (H : Type) (enc : TypeId × Value → H) (W : World) (base : Nat) (v0 v1 v2 : Value) (d0 d1 d2 : DataW H) (p0 p1 p2 : List MemPlace), shapesAt W →
  Value.okWide Tryd.prog W .any base (Tryd.f5.params.getD 0 0) v0 → DataW.Trod enc Tryd.prog W 0 (fun _ => true) true (Tryd.f5.params.getD 0 0) v0 d0 p0 → Value.okWide Tryd.prog W .any base (Tryd.f5.params.getD 1 0) v1 → DataW.Trod enc Tryd.prog W 0 (fun _ => true) true (Tryd.f5.params.getD 1 0) v1 d1 p1 → Value.okWide Tryd.prog W .any base (Tryd.f5.params.getD 2 0) v2 → DataW.Trod enc Tryd.prog W 0 (fun _ => true) true (Tryd.f5.params.getD 2 0) v2 d2 p2 →
  Calls Tryd.prog 5 #[v0, v1, v2] W fun e w' => e = .returned (.bool true) ∧ Below W.heap.size W w'
set_option maxRecDepth 100000 in
theorem cpuQuiet_lifted (walk : CpuQuietWalk) (os : Os) (started : os.Started) (H : Type) (enc : TypeId × Value → H) :
    ReturnsInHanded {} Tryd.checked os 5 .any (fun w args => (Rows.cpuQuietSpec.pre enc Tryd.prog Tryd.f5 [] false w args ∧ laidMetH Tryd.prog Rows.cpuQuietRow.laid w) ∧ sizedMet enc Tryd.prog Tryd.f5 (OpenSpec.ofChange Rows.cpuQuietSpec) false w args)
      (Rows.cpuQuietSpec.post enc Tryd.prog Tryd.f5 false true false false) := by
  refine returns_and_shaped (C := Tryd.checked) (X := fun w _ => laidMetH Tryd.prog Rows.cpuQuietRow.laid w) (fun _ _ _ hh h => h.of_heap hh) own started (by kernel_rfl) Tryd.func5
    (ChangeSpec.witness_shaped (enc := enc) (C := Tryd.checked) (os := os) (X := fun w _ => laidMetH Tryd.prog Rows.cpuQuietRow.laid w) false (World.laidAll Tryd.prog os Rows.cpuQuietRow.laid) #[.agg #[.int .u16 0, .int .u16 0, .int .u16 0, .int .u16 0, .int .u16 0, .int .u16 0, .int .u16 0, .int .u16 0, .int .u16 0, .bool false, .bool false, .bool false, .bool false, .bool false, .bool false], .agg #[.slice none 0 0, .slice none 0 0], .bool false] 8 (World.laidAll_os _ _ _)
      (World.shaped_of_ZipB (by kernel_rfl) (by kernel_rfl)) (by kernel_rfl) (by kernel_rfl) (by kernel_rfl)
      (by rw [MakeChecks.laidMetH_plain _ _ _ (by kernel_rfl)]; exact laidMet_laidAll _ (by kernel_rfl) (by kernel_rfl))) ?_
  intro W base args ds gs before hval0 hW _ _ hL hsh _
  have hval : ∀ (j : Nat) t v, Tryd.f5.params[j]? = some t → args[j]? = some v → Value.okWide Tryd.prog W .any base t v := hval0
  have hW' := hW
  obtain ⟨p, q, hA0, hV, rfl, _, _⟩ := hW
  have hA : DataW.TrodAll enc Tryd.prog W 0 (fun _ => true) true Tryd.f5.params.toList args.toList ds p := hA0
  have hA1 := hA
  rw [Tryd.params5] at hA hval
  obtain ⟨v0, vs0, d0, ds0, p0, q0, hargs, rfl, rfl, h0, r0⟩ := trodAll_cons hA
  obtain ⟨v1, vs1, d1, ds1, p1, q1, rfl, rfl, rfl, h1, r1⟩ := trodAll_cons r0
  obtain ⟨v2, vs2, d2, ds2, p2, q2, rfl, rfl, rfl, h2, r2⟩ := trodAll_cons r1
  obtain ⟨rfl, rfl, rfl⟩ := trodAll_nil r2
  obtain rfl : args = #[v0, v1, v2] := by cases args; simp_all
  obtain ⟨rfl, rfl⟩ := trodVars_none hV
  rw [MakeChecks.laidMetH_plain _ _ _ (by kernel_rfl)] at hL
  have hlt := fun x hx => hW'.lt x (List.mem_append_left _ hx)
  refine (walk H enc W base v0 v1 v2 d0 d1 d2 _ _ _ (shapes_of_laid hL (by simp [Rows.cpuQuietRow])) (hval 0 _ v0 rfl rfl) h0 (hval 1 _ v1 rfl rfl) h1 (hval 2 _ v2 rfl rfl) h2).mono fun e W' ⟨he, hb⟩ => ?_
  subst he
  exact ⟨_, rfl, _, _, _, [], _, [], hW', trodAll_mk1 (shut_bool Tryd.underlying4 _), trodAll_below_all (by kernel_rfl) hb (by kernel_rfl) hA1 hlt, rfl, hb.frame _, fun h => by cases h⟩
theorem cpuQuiet_row (walk : CpuQuietWalk) : Rows.CpuQuietSaid :=
  OpenClaim.holds_of_wide 5 Tryd.f5 rfl rfl rfl rfl rfl rfl rfl ⟨rfl, rfl, rfl, rfl, rfl⟩ rfl rfl rfl rfl rfl (by kernel_rfl) Tryd.func5 (by kernel_rfl)
    (of_decide_eq_true (by kernel_rfl)) (by unfold Func.isWrapper; first | (rw [if_pos (by decide +kernel)]; kernel_rfl) | (rw [if_neg (by decide +kernel)]; exact ⟨rfl, rfl⟩))
    (fun os started H enc _ => cpuQuiet_lifted walk os started H enc)
theorem cpuQuiet_card (walk : CpuQuietWalk) : Rows.CpuQuietCardSaid :=
  Claim7.holds_tied_plain_at .later [] _ true _ false (cpuQuiet_row walk) (fun _ h => by cases h) (by kernel_rfl) (fun _ h => by cases h) cpuQuiet_row_tie rfl ⟨rfl, rfl⟩ (by kernel_rfl) rfl
    (fun f fn hf hfn => by
      obtain rfl : f = 5 := Option.some.inj ((show Tryd.prog.funcNamed "marquee/marqueelaw.CpuQuiet" = some 5 by kernel_rfl).symm.trans hf) |>.symm
      obtain rfl : fn = Tryd.f5 := (Option.some.inj (Tryd.func5.symm.trans hfn)).symm
      exact ⟨by kernel_rfl, fun j t ht => by
        have hm : t ∈ Tryd.f5.params.toList := List.mem_of_getElem? (i := j) (by rw [Array.getElem?_toList]; exact ht)
        have hall : Tryd.f5.params.toList.all (fun t => !(Tryd.prog.wantsStandIn t)) = true := by kernel_rfl
        have := List.all_eq_true.1 hall t hm
        exact Bool.not_eq_true' _ ▸ this⟩)
    (by kernel_rfl)
theorem quiet_any (c : C.Cpu) (hc : c.ok) (v1 v2 : Value) (rom ram : List UInt8) (r : Bool) (w : World) (h1 : sliceAt w v1 rom) (h2 : sliceAt w v2 ram) (hs : shapesAt w) :
    Calls Tryd.prog 5 #[cpuV c, .agg #[v1, v2], .bool r] w fun e w' => e = .returned (.bool true) ∧ Below w.heap.size w w' := by
  by_cases hl : 1024 < rom.length ∨ 256 < ram.length
  · exact quiet_err c v1 v2 rom ram r w h1 h2 hl hs
  · have hl1 : rom.length ≤ 1024 := by omega
    have hl2 : ram.length ≤ 256 := by omega
    cases hr : r
    · cases hw : c.Waits
      · exact quiet_in c hc v1 v2 rom ram false w h1 h2 hl1 hl2 hs rfl hw
      · exact quiet_waits c hc v1 v2 rom ram false w h1 h2 hl1 hl2 hs rfl hw
    · cases hm : c.May
      · cases hw : c.Waits
        · exact quiet_on c hc v1 v2 rom ram true w h1 h2 hl1 hl2 hs ⟨rfl, hm⟩ hw
        · exact quiet_waits2 c hc v1 v2 rom ram true w h1 h2 hl1 hl2 hs ⟨rfl, hm⟩ hw
      · exact quiet_rung c hc v1 v2 rom ram true w h1 h2 hl1 hl2 hs rfl hm
set_option maxRecDepth 100000 in
theorem cpuQuiet_walk : CpuQuietWalk := by
  intro H enc W base v0 v1 v2 d0 d1 d2 p0 p1 p2 hs k0 t0 k1 t1 k2 t2
  obtain ⟨c, rfl, hc⟩ := open_cpu k0 t0
  obtain ⟨u1, u2, rom, ram, rfl, h1, h2, _, _⟩ := open_space k1 t1
  obtain ⟨r, rfl, _⟩ := open_bool Tryd.underlying4 k2 t2
  exact quiet_any c hc u1 u2 rom ram r W h1 h2 hs
theorem cpuQuiet_holds : Rows.CpuQuietCardSaid := cpuQuiet_card cpuQuiet_walk
end Go.Proofs.YtimidkhppbhaeaaDoor
