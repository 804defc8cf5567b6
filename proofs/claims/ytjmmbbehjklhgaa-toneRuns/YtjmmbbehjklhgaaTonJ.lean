/-
  Samples where something is wrong; the closed fact on sounds.
-/
import Derived.Test.YtjmmbbehjklhgaaTonE
import Derived.Test.YtjmmbbehjklhgaaTonK
import Derived.Test.YtjmmbbehjklhgaaTonH
namespace Go.Proofs.Ytjmmbbehjklhgaa
open Go.ChangeShapes Go.WideShapes Go.ChangeAt Go.RowKit
set_option linter.unusedVariables false

theorem allZ : (#[.int .u16 0, .int .u16 0, .int .u8 0, .bool false, .int .u16 0, .int .u16 0, .int .u16 0, .int .u8 0, .bool false, .int .u16 0, .int .u16 0, .int .u16 0, .int .u8 0, .bool false, .int .u16 0, .int .i64 0] : Array Value).all (·.oneCell') = true := by simp [Value.oneCell']
theorem loadZ {W : World} {b : Nat} (h : Bx W b zs) : (loadVar 27 ⟨b, 0, none⟩).run Try.prog W = .ok (.agg #[.int .u16 0, .int .u16 0, .int .u8 0, .bool false, .int .u16 0, .int .u16 0, .int .u16 0, .int .u8 0, .bool false, .int .u16 0, .int .u16 0, .int .u16 0, .int .u8 0, .bool false, .int .u16 0, .int .i64 0]) W :=
  run_loadVar_mid W b 0 27 _ _ h.c Try.underlying27 rfl info_sound
set_option maxRecDepth 100000 in
set_option maxHeartbeats 1600000 in
theorem samples_check (s : Sd) (n : Int) (w : World) (h : s.w < 0 ∨ 15 < s.w) :
    Calls Try.prog 8 #[(.agg #[.int .u16 s.a.p, .int .u16 s.a.c, .int .u8 s.a.l, .bool s.a.h, .int .u16 s.a.n, .int .u16 s.b.p, .int .u16 s.b.c, .int .u8 s.b.l, .bool s.b.h, .int .u16 s.b.n, .int .u16 s.c.p, .int .u16 s.c.c, .int .u8 s.c.l, .bool s.c.h, .int .u16 s.c.n, .int .i64 s.w]), .int .i64 n] w fun e w' => e = .returned (.tuple #[.slice none 0 0, .agg #[.int .u16 0, .int .u16 0, .int .u8 0, .bool false, .int .u16 0, .int .u16 0, .int .u16 0, .int .u8 0, .bool false, .int .u16 0, .int .u16 0, .int .u16 0, .int .u8 0, .bool false, .int .u16 0, .int .i64 0], .int .i64 3]) ∧ Below w.heap.size w w' := by
  have HH := hid h
  clear h
  go_enter Try.func8, Try.ntmps8
  go_wp2_with (first
    | (go_at_call 12; refine (check_bad s _ HH.out).mono ?_; rintro e w0 ⟨rfl, hb0⟩; have HB := hid ((Bx.new (w.alloc (.cells #[.int .u16 s.a.p, .int .u16 s.a.c, .int .u8 s.a.l, .bool s.a.h, .int .u16 s.a.n, .int .u16 s.b.p, .int .u16 s.b.c, .int .u8 s.b.l, .bool s.b.h, .int .u16 s.b.n, .int .u16 s.c.p, .int .u16 s.c.c, .int .u8 s.c.l, .bool s.c.h, .int .u16 s.c.n, .int .i64 s.w] 27)) zs 27 (b := w.heap.size + 1) (by simp)).kept hb0); have HL := hid (stp (stA (stA (st0 w) _) _) hb0))
    | (refine wpList_store_mid rfl 27 _ _ rfl (w.heap.size + 1) 0 _ rfl rfl (there16 HB.out) info_sound allZ ?_
       refine Pl.cutL (fun W => Below w.heap.size w W ∧ Bx W (w.heap.size + 1) zs) ⟨?_, ?_⟩ ?_
       · exact Bl.puts HL.out (Nat.le_succ _) _
       · exact HB.out.puts 0 zs (by simp)
       rintro W ⟨hlow, hbox⟩
       have HLO := hid hlow
       have HBX := hid hbox
       clear hlow hbox))
  have hl := loadZ HBX.out
  refine bodyPost_ret (v := .tuple #[.slice none 0 0, .agg #[.int .u16 0, .int .u16 0, .int .u8 0, .bool false, .int .u16 0, .int .u16 0, .int .u16 0, .int .u8 0, .bool false, .int .u16 0, .int .u16 0, .int .u16 0, .int .u8 0, .bool false, .int .u16 0, .int .i64 0], .int .i64 3]) ?_ rfl ⟨rfl, HLO.out⟩
  simp only [results, Try.results8]
  simp
  show (Result.andThen (Sem.run Try.prog (loadVar 27 ⟨w.heap.size + 1, 0, none⟩) W) _) = _
  rw [hl]
  rfl
set_option maxRecDepth 100000 in
set_option maxHeartbeats 1600000 in
theorem samples_may (s : Sd) (n : Int) (w : World) (h : s.fit) (hn : ¬ (0 ≤ n ∧ n ≤ 20000)) :
    Calls Try.prog 8 #[(.agg #[.int .u16 s.a.p, .int .u16 s.a.c, .int .u8 s.a.l, .bool s.a.h, .int .u16 s.a.n, .int .u16 s.b.p, .int .u16 s.b.c, .int .u8 s.b.l, .bool s.b.h, .int .u16 s.b.n, .int .u16 s.c.p, .int .u16 s.c.c, .int .u8 s.c.l, .bool s.c.h, .int .u16 s.c.n, .int .i64 s.w]), .int .i64 n] w fun e w' => e = .returned (.tuple #[.slice none 0 0, .agg #[.int .u16 0, .int .u16 0, .int .u8 0, .bool false, .int .u16 0, .int .u16 0, .int .u16 0, .int .u8 0, .bool false, .int .u16 0, .int .u16 0, .int .u16 0, .int .u8 0, .bool false, .int .u16 0, .int .i64 0], .int .i64 3]) ∧ Below w.heap.size w w' := by
  have hm := may_any n
  rw [decide_eq_false hn] at hm
  clear hn
  go_enter Try.func8, Try.ntmps8
  go_wp2_with (first
    | (go_at_call 12; refine (check_ok s _ h.w).mono ?_; rintro e w0 ⟨rfl, hb0⟩; have HB := hid ((Bx.new (w.alloc (.cells #[.int .u16 s.a.p, .int .u16 s.a.c, .int .u8 s.a.l, .bool s.a.h, .int .u16 s.a.n, .int .u16 s.b.p, .int .u16 s.b.c, .int .u8 s.b.l, .bool s.b.h, .int .u16 s.b.n, .int .u16 s.c.p, .int .u16 s.c.c, .int .u8 s.c.l, .bool s.c.h, .int .u16 s.c.n, .int .i64 s.w] 27)) zs 27 (b := w.heap.size + 1) (by simp)).kept hb0); have HL := hid (stp (stA (stA (st0 w) _) _) hb0))
    | (go_at_call 21; refine (hm _).mono ?_; rintro e w9 ⟨rfl, rfl⟩)
    | (refine wpList_store_mid rfl 27 _ _ rfl (w.heap.size + 1) 0 _ rfl rfl (there16 HB.out) info_sound allZ ?_
       refine Pl.cutL (fun W => Below w.heap.size w W ∧ Bx W (w.heap.size + 1) zs) ⟨?_, ?_⟩ ?_
       · exact Bl.puts HL.out (Nat.le_succ _) _
       · exact HB.out.puts 0 zs (by simp)
       rintro W ⟨hlow, hbox⟩
       have HLO := hid hlow
       have HBX := hid hbox
       clear hlow hbox))
  have hl := loadZ HBX.out
  refine bodyPost_ret (v := .tuple #[.slice none 0 0, .agg #[.int .u16 0, .int .u16 0, .int .u8 0, .bool false, .int .u16 0, .int .u16 0, .int .u16 0, .int .u8 0, .bool false, .int .u16 0, .int .u16 0, .int .u16 0, .int .u8 0, .bool false, .int .u16 0, .int .i64 0], .int .i64 3]) ?_ rfl ⟨rfl, HLO.out⟩
  simp only [results, Try.results8]
  simp
  show (Result.andThen (Sem.run Try.prog (loadVar 27 ⟨w.heap.size + 1, 0, none⟩) W) _) = _
  rw [hl]
  rfl
/-- The closed fact's sound. -/
def sd0 : Sd := ⟨⟨15, 15, 5, false, 0⟩, ⟨0, 0, 0, false, 0⟩, ⟨0, 0, 0, false, 0⟩, 0⟩
theorem sd0_fit : sd0.fit := ⟨⟨⟨by decide, by decide, by decide, by decide⟩, ⟨by decide, by decide, by decide, by decide⟩, ⟨by decide, by decide, by decide, by decide⟩⟩, by decide⟩
theorem sd0_sms : sms sd0 33 = [0, 5, 0] := by decide
theorem sd0_w : (sd0.ticks 33).w = 15 := by decide
theorem slice050 (w1 : World) (o : Obj) : sliceAt ((w1.alloc o).alloc (.cells #[.int .u8 0, .int .u8 5, .int .u8 0] 5)) (.slice (some ⟨w1.heap.size + 1, 0, none⟩) 3 3) [0, 5, 0] := by
  refine Or.inr ⟨w1.heap.size + 1, 0, 3, rfl, Nat.le_refl _, by simp, fun j c hj => ?_⟩
  have e := fun k => Pl.new (w1.alloc o) #[.int .u8 0, .int .u8 5, .int .u8 0] 5 (w1.heap.size + 1) (by simp) (k := k)
  rw [Nat.zero_add, e]
  match j, hj with
  | 0, hj => simp at hj; subst hj; rfl
  | 1, hj => simp at hj; subst hj; rfl
  | 2, hj => simp at hj; subst hj; rfl
set_option maxRecDepth 100000 in
set_option maxHeartbeats 1600000 in
theorem sounded_any (w : World) : Calls Try.prog 9 #[] w fun e w' => e = .returned (.bool true) ∧ Below w.heap.size w w' := by
  have hs : ∀ W : World, Calls Try.prog 8 #[.agg #[.int .u16 15, .int .u16 15, .int .u8 5, .bool false, .int .u16 0, .int .u16 0, .int .u16 0, .int .u8 0, .bool false, .int .u16 0, .int .u16 0, .int .u16 0, .int .u8 0, .bool false, .int .u16 0, .int .i64 0], .int .i64 33] W fun e w' => ∃ v, e = .returned (.tuple #[v, (.agg #[.int .u16 (sd0.ticks 33).a.p, .int .u16 (sd0.ticks 33).a.c, .int .u8 (sd0.ticks 33).a.l, .bool (sd0.ticks 33).a.h, .int .u16 (sd0.ticks 33).a.n, .int .u16 (sd0.ticks 33).b.p, .int .u16 (sd0.ticks 33).b.c, .int .u8 (sd0.ticks 33).b.l, .bool (sd0.ticks 33).b.h, .int .u16 (sd0.ticks 33).b.n, .int .u16 (sd0.ticks 33).c.p, .int .u16 (sd0.ticks 33).c.c, .int .u8 (sd0.ticks 33).c.l, .bool (sd0.ticks 33).c.h, .int .u16 (sd0.ticks 33).c.n, .int .i64 (sd0.ticks 33).w]), .int .i64 0]) ∧ sliceAt w' v (sms sd0 33) ∧ Below W.heap.size W w' := fun W => samples_ok sd0 33 W sd0_fit (by omega)
  rw [sd0_sms] at hs
  have hw := sd0_w
  go_enter Try.func9, Try.ntmps9
  go_wp2_with (first
    | (go_at_call 8; refine (hs _).mono ?_; rintro e w1 ⟨v, rfl, hsl, hb1⟩; have HS := hid hsl; clear hsl)
    | (go_at_call 15; refine (equal_any _ _ _ [0, 5, 0] _ (HS.out.kept (stA (stA (st0 _) _) _)) (slice050 _ _)).mono ?_; rintro e w2 ⟨rfl, rfl⟩))
  go_ret
  exact ⟨rfl, stA (stA hb1 _) _⟩
end Go.Proofs.Ytjmmbbehjklhgaa
