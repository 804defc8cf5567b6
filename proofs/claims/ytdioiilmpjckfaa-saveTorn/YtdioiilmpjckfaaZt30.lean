/-
  Parts of a proof, joined.
-/
import Derived.Test.YtdioiilmpjckfaaZt29
namespace Go.Proofs.Ytdioiilmpjckfaa
open Go.ChangeShapes Go.WideShapes Go.ChangeAt Go.RowKit
set_option linter.unusedVariables false
set_option maxRecDepth 100000
theorem Sv.bytes_some (N : Mach) (S : Sl) (w : World) (hs : SlAt w S N) (hok : N.ok) (hz : ∀ j, j < 5 → (N.byt j).length ≤ 9223372036854775807) :
    Calls Try.prog 5 #[.agg (machL N S).toArray] w fun e w' => ∃ a n c x, e = .returned (.tuple #[.slice a n c, .int .i64 x]) ∧ Below w.heap.size w w' := by
  by_cases hc : N.chk = 0
  · exact (Sv.bytes_ok N S w hs hok hc).mono fun e w' ⟨v, he, hv, hb⟩ => by
      obtain ⟨a, n, c, ev⟩ := sl_form hv
      subst ev
      exact ⟨a, n, c, 0, he, hb⟩
  · exact (Sv.bytes_bad N S w hs hz hc).mono fun e w' ⟨he, hb⟩ => ⟨none, 0, 0, _, he, hb⟩
structure TW (w : World) (M N : Mach) (S S' : Sl) (Y : World) : Prop where
  low : Below w.heap.size w Y
  m : Bx Y w.heap.size (machL M S)
  n : Bx Y (w.heap.size + 1) (machL N S')
  sm : SlAt Y S M
  sn : SlAt Y S' N
theorem TW.kept {w : World} {M N : Mach} {S S' : Sl} {Y Y' : World} (h : TW w M N S S' Y) (hb : Below Y.heap.size Y Y') : TW w M N S S' Y' := ⟨stp h.low hb, h.m.kept hb, h.n.kept hb, h.sm.kept hb, h.sn.kept hb⟩
theorem TW.start {w : World} {M N : Mach} {S S' : Sl} (h1 : SlAt w S M) (h2 : SlAt w S' N) (t t' : TypeId) : TW w M N S S' ((w.alloc (.cells (machL M S).toArray t)).alloc (.cells (machL N S').toArray t')) :=
  ⟨stA (stA (st0 w) _) _, (Bx.new w _ _ rfl).over _, Bx.new _ _ _ (by simp), h1.kept (stA (stA (st0 w) _) _), h2.kept (stA (stA (st0 w) _) _)⟩
set_option maxHeartbeats 3200000 in
theorem Sv.torn_bad (M N : Mach) (S S' : Sl) (cut more : Int) (w : World) (h1 : SlAt w S M) (h2 : SlAt w S' N) (hok : N.ok) (hz1 : ∀ j, j < 5 → (M.byt j).length ≤ 9223372036854775807) (hz2 : ∀ j, j < 5 → (N.byt j).length ≤ 9223372036854775807) (hc : M.chk ≠ 0) :
    Calls Try.prog 4 #[.agg (machL M S).toArray, .agg (machL N S').toArray, .int .i64 cut, .int .u8 more] w fun e w' => e = .returned (.bool true) ∧ Below w.heap.size w w' := by
  have HY0 := hid (TW.start (w := w) h1 h2 41 41)
  have HB := hid (Sv.bytes_bad M S _ HY0.out.sm hz1 hc)
  have HN : Hid (∀ W, SlAt W S' N → Calls Try.prog 5 #[.agg (machL N S').toArray] W fun e w' => ∃ a n c x, e = .returned (.tuple #[.slice a n c, .int .i64 x]) ∧ Below W.heap.size W w') := hid (fun W h => Sv.bytes_some N S' W h hok hz2)
  have hne : (M.chk != 0) = true := by simpa using hc
  generalize M.chk = x at *
  clear h1 h2 hok hz1 hz2 hc
  go_enter Try.func4, Try.ntmps4
  go_wp2_with (first
    | (go_at_call 7; have hq4 := HY4.out.low; clear hq4; refine (Sv.saved _).mono ?_; rintro e w5 ⟨rfl, hb5⟩; have HY5 := hid (HY4.out.kept hb5); clear hb5)
    | (go_at_call 7; refine (Sv.saved _).mono ?_; rintro e w4 ⟨rfl, hb4⟩; have HY4 := hid (HY3.out.kept hb4); clear hb4)
    | (go_at_call 5; have hq1 := HY1.out.low; clear hq1; refine (HN.out _ HY1.out.sn).mono ?_; rintro e w3 ⟨na, nn, nc, nx, rfl, hb3⟩; have HY3 := hid (HY1.out.kept hb3); clear hb3)
    | (refine wpList_load_mid rfl 41 _ rfl (w.heap.size + 1) 0 rfl (machL N S') _ HY1.out.n.c Try.underlying41 rfl info_mach ?_)
    | (go_at_call 5; refine HB.out.mono ?_; rintro e w1 ⟨rfl, hb1⟩; have HY1 := hid (HY0.out.kept hb1); clear hb1)
    | (refine wpList_load_mid rfl 41 _ rfl w.heap.size 0 rfl (machL M S) _ HY0.out.m.c Try.underlying41 rfl info_mach ?_))
  go_ret
  exact ⟨rfl, HY5.out.low⟩
end Go.Proofs.Ytdioiilmpjckfaa
