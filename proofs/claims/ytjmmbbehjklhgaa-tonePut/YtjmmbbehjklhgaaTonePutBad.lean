/-
  The Go text of the law TonePut returns true where there is no such port.
-/
import Derived.Test.YtjmmbbehjklhgaaTonQ
import Derived.Test.YtjmmbbehjklhgaaTonR
import Derived.Deep.DeepCutAuto
namespace Go.Proofs.Ytjmmbbehjklhgaa
open Go.ChangeShapes Go.WideShapes Go.ChangeAt Go.RowKit
set_option linter.unusedVariables false

set_option maxRecDepth 100000 in
set_option maxHeartbeats 800000 in
theorem put_law_bad (s : Sd) (n b : Int) (w : World) (hn : n < 0 ∨ 23 < n) :
    Calls Try.prog 4 #[(.agg #[.int .u16 s.a.p, .int .u16 s.a.c, .int .u8 s.a.l, .bool s.a.h, .int .u16 s.a.n, .int .u16 s.b.p, .int .u16 s.b.c, .int .u8 s.b.l, .bool s.b.h, .int .u16 s.b.n, .int .u16 s.c.p, .int .u16 s.c.c, .int .u8 s.c.l, .bool s.c.h, .int .u16 s.c.n, .int .i64 s.w]), .int .i64 n, .int .u8 b] w fun e w' => e = .returned (.bool true) ∧ Below w.heap.size w w' := by
  have he := eq_zero
  have hp := fun W => put_bad s n b W hn
  rcases hn with h | h
  · go_enter Try.func4, Try.ntmps4
    go_upto_region 3 with (first
      | (go_at_call 16; refine (hp _).mono ?_; rintro e w1 ⟨rfl, hb1⟩)
      | (go_at_call 9; refine (sounded_any _).mono ?_; rintro e w2 ⟨rfl, hb2⟩))
    have HB := hid ((Bx.new w1 zs 27 rfl).kept hb2)
    have HL := hid (stp (stA (stp (stA (st0 w) _) hb1) _) hb2)
    generalize w1.heap.size = bx at *
    refine Pl.cutW (fun W => Below w.heap.size w W ∧ Bx W bx zs) ⟨HL.out, HB.out⟩ ?_
    rintro W ⟨hlow, hbx⟩
    clear HB HL hb1 hb2
    have HLO := hid hlow
    have HBX := hid hbx
    clear hlow hbx
    go_wp2_with (go_at_call 9; refine (sounded_any _).mono ?_; rintro e w3 ⟨rfl, hb3⟩; obtain ⟨z0, z1, z2, z3, z4, z5, z6, z7, z8, z9, z10, z11, z12, z13, z14, z15⟩ := (HBX.out.kept hb3).zall)
    go_ret
    exact ⟨rfl, stp HLO.out hb3⟩
  · have h' : ¬ n < 0 := by omega
    go_enter Try.func4, Try.ntmps4
    go_upto_region 3 with (first
      | (go_at_call 16; refine (hp _).mono ?_; rintro e w1 ⟨rfl, hb1⟩)
      | (go_at_call 9; refine (sounded_any _).mono ?_; rintro e w2 ⟨rfl, hb2⟩))
    have HB := hid ((Bx.new w1 zs 27 rfl).kept hb2)
    have HL := hid (stp (stA (stp (stA (st0 w) _) hb1) _) hb2)
    generalize w1.heap.size = bx at *
    refine Pl.cutW (fun W => Below w.heap.size w W ∧ Bx W bx zs) ⟨HL.out, HB.out⟩ ?_
    rintro W ⟨hlow, hbx⟩
    clear HB HL hb1 hb2
    have HLO := hid hlow
    have HBX := hid hbx
    clear hlow hbx
    go_wp2_with (go_at_call 9; refine (sounded_any _).mono ?_; rintro e w3 ⟨rfl, hb3⟩; obtain ⟨z0, z1, z2, z3, z4, z5, z6, z7, z8, z9, z10, z11, z12, z13, z14, z15⟩ := (HBX.out.kept hb3).zall)
    go_ret
    exact ⟨rfl, stp HLO.out hb3⟩
end Go.Proofs.Ytjmmbbehjklhgaa
