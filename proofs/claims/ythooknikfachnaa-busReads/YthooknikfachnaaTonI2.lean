/-
  The reference on what is put to a port of a voice.
-/
import Derived.Test.YthooknikfachnaaTonH
namespace Go.Proofs.Ythooknikfachnaa
open Go.ChangeShapes Go.WideShapes Go.ChangeAt Go.RowKit
set_option linter.unusedVariables false
set_option maxRecDepth 100000

set_option maxRecDepth 100000 in
set_option maxHeartbeats 3200000 in
theorem rput_16 (s : Sd) (b : Int) (w : World) (h : s.ok) (hb : 0 ≤ b ∧ b ≤ 255) :
    Calls Try.prog 43 #[(.agg #[.int .u16 s.a.p, .int .u16 s.a.c, .int .u8 s.a.l, .bool s.a.h, .int .u16 s.a.n, .int .u16 s.b.p, .int .u16 s.b.c, .int .u8 s.b.l, .bool s.b.h, .int .u16 s.b.n, .int .u16 s.c.p, .int .u16 s.c.c, .int .u8 s.c.l, .bool s.c.h, .int .u16 s.c.n, .int .i64 s.w]), .int .i64 16, .int .u8 b] w fun e w' => e = .returned (.agg #[.int .u16 (⟨s.a, s.b, s.c.put 0 b, s.w⟩ : Sd).a.p, .int .u16 (⟨s.a, s.b, s.c.put 0 b, s.w⟩ : Sd).a.c, .int .u8 (⟨s.a, s.b, s.c.put 0 b, s.w⟩ : Sd).a.l, .bool (⟨s.a, s.b, s.c.put 0 b, s.w⟩ : Sd).a.h, .int .u16 (⟨s.a, s.b, s.c.put 0 b, s.w⟩ : Sd).a.n, .int .u16 (⟨s.a, s.b, s.c.put 0 b, s.w⟩ : Sd).b.p, .int .u16 (⟨s.a, s.b, s.c.put 0 b, s.w⟩ : Sd).b.c, .int .u8 (⟨s.a, s.b, s.c.put 0 b, s.w⟩ : Sd).b.l, .bool (⟨s.a, s.b, s.c.put 0 b, s.w⟩ : Sd).b.h, .int .u16 (⟨s.a, s.b, s.c.put 0 b, s.w⟩ : Sd).b.n, .int .u16 (⟨s.a, s.b, s.c.put 0 b, s.w⟩ : Sd).c.p, .int .u16 (⟨s.a, s.b, s.c.put 0 b, s.w⟩ : Sd).c.c, .int .u8 (⟨s.a, s.b, s.c.put 0 b, s.w⟩ : Sd).c.l, .bool (⟨s.a, s.b, s.c.put 0 b, s.w⟩ : Sd).c.h, .int .u16 (⟨s.a, s.b, s.c.put 0 b, s.w⟩ : Sd).c.n, .int .i64 (⟨s.a, s.b, s.c.put 0 b, s.w⟩ : Sd).w]) ∧ Below w.heap.size w w' := by
  have hp := h.c.p
  have hn := h.c.n
  have ed : ∀ z : Int, 0 ≤ z → z.tdiv 256 = z / 256 := fun z hz => Int.tdiv_eq_ediv_of_nonneg hz
  have ed1 := ed _ hp.1
  have ed2 := ed _ hn.1
  have em : b.tmod 16 = b % 16 := Int.tmod_eq_emod_of_nonneg hb.1
  have em1 : IntKind.u8.wrap (b % 16) = b % 16 := by rw [IntKind.wrap_u8]; omega
  have ew1 : IntKind.u16.wrap (s.c.p / 256) = s.c.p / 256 := by rw [IntKind.wrap_u16]; omega
  have ew2 : IntKind.u16.wrap (s.c.p / 256 * 256) = s.c.p / 256 * 256 := by rw [IntKind.wrap_u16]; omega
  have ew3 : IntKind.u16.wrap (s.c.p / 256 * 256 + b) = s.c.p / 256 * 256 + b := by rw [IntKind.wrap_u16]; omega
  have ew4 : IntKind.u16.wrap (s.c.n / 256) = s.c.n / 256 := by rw [IntKind.wrap_u16]; omega
  have ew5 : IntKind.u16.wrap (s.c.n / 256 * 256) = s.c.n / 256 * 256 := by rw [IntKind.wrap_u16]; omega
  have ew6 : IntKind.u16.wrap (s.c.n / 256 * 256 + b) = s.c.n / 256 * 256 + b := by rw [IntKind.wrap_u16]; omega
  clear ed
  have ec : ∀ z : Int, z % 256 + b * 256 = b * 256 + z % 256 := fun z => Int.add_comm _ _
  go_enter Try.func43, Try.ntmps43
  go_upto_region 1 with fail
  refine Pl.cutW (SmW w s [] (.slice none 0 0)) (SmW.two w s) ?_
  intro W hW
  have HW := hid hW
  obtain ⟨c0, c1, c2, c3, c4, tz, tf⟩ := hW.b.w2
  clear hW
  go_upto_region 15 with fail
  refine Pl.cutW (SmW w ⟨s.a, s.b, ⟨b * 256 + s.c.p % 256, s.c.c, s.c.l, s.c.h, s.c.n⟩, s.w⟩ [] (.slice none 0 0)) ((HW.out.v2 ⟨b * 256 + s.c.p % 256, s.c.c, s.c.l, s.c.h, s.c.n⟩).over _) ?_
  clear c0 c1 c2 c3 c4 tz tf HW
  intro W hT
  have HT := hid hT
  clear hT
  go_wp2_with (first
    | (refine wpList_load_mid rfl 36 _ rfl w.heap.size 0 rfl (scs ⟨s.a, s.b, ⟨b * 256 + s.c.p % 256, s.c.c, s.c.l, s.c.h, s.c.n⟩, s.w⟩) _ HT.out.b.c Try.underlying36 rfl info_sound ?_)
    | (refine wpList_store_mid rfl 36 _ _ rfl (w.heap.size + 1) 0 _ rfl rfl (there16 HT.out.r) info_sound (all16 ⟨s.a, s.b, ⟨b * 256 + s.c.p % 256, s.c.c, s.c.l, s.c.h, s.c.n⟩, s.w⟩) ?_
       refine Pl.cutL (fun W => Below w.heap.size w W ∧ Bx W (w.heap.size + 1) (scs ⟨s.a, s.b, ⟨b * 256 + s.c.p % 256, s.c.c, s.c.l, s.c.h, s.c.n⟩, s.w⟩)) ⟨?_, ?_⟩ ?_
       · exact Bl.puts HT.out.low (Nat.le_succ _) _
       · exact HT.out.r.puts 0 (scs ⟨s.a, s.b, ⟨b * 256 + s.c.p % 256, s.c.c, s.c.l, s.c.h, s.c.n⟩, s.w⟩) (by simp)
       rintro W ⟨hlow, hbox⟩
       have HLO := hid hlow
       have HBX := hid hbox
       clear hlow hbox))
  have hl := loadS HBX.out
  exact bodyPost_ret (v := (.agg #[.int .u16 (⟨s.a, s.b, s.c.put 0 b, s.w⟩ : Sd).a.p, .int .u16 (⟨s.a, s.b, s.c.put 0 b, s.w⟩ : Sd).a.c, .int .u8 (⟨s.a, s.b, s.c.put 0 b, s.w⟩ : Sd).a.l, .bool (⟨s.a, s.b, s.c.put 0 b, s.w⟩ : Sd).a.h, .int .u16 (⟨s.a, s.b, s.c.put 0 b, s.w⟩ : Sd).a.n, .int .u16 (⟨s.a, s.b, s.c.put 0 b, s.w⟩ : Sd).b.p, .int .u16 (⟨s.a, s.b, s.c.put 0 b, s.w⟩ : Sd).b.c, .int .u8 (⟨s.a, s.b, s.c.put 0 b, s.w⟩ : Sd).b.l, .bool (⟨s.a, s.b, s.c.put 0 b, s.w⟩ : Sd).b.h, .int .u16 (⟨s.a, s.b, s.c.put 0 b, s.w⟩ : Sd).b.n, .int .u16 (⟨s.a, s.b, s.c.put 0 b, s.w⟩ : Sd).c.p, .int .u16 (⟨s.a, s.b, s.c.put 0 b, s.w⟩ : Sd).c.c, .int .u8 (⟨s.a, s.b, s.c.put 0 b, s.w⟩ : Sd).c.l, .bool (⟨s.a, s.b, s.c.put 0 b, s.w⟩ : Sd).c.h, .int .u16 (⟨s.a, s.b, s.c.put 0 b, s.w⟩ : Sd).c.n, .int .i64 (⟨s.a, s.b, s.c.put 0 b, s.w⟩ : Sd).w])) (by simp only [results, Try.results43]; simp; exact hl) rfl ⟨rfl, HLO.out⟩

set_option maxRecDepth 100000 in
set_option maxHeartbeats 3200000 in
theorem rput_17 (s : Sd) (b : Int) (w : World) (h : s.ok) (hb : 0 ≤ b ∧ b ≤ 255) :
    Calls Try.prog 43 #[(.agg #[.int .u16 s.a.p, .int .u16 s.a.c, .int .u8 s.a.l, .bool s.a.h, .int .u16 s.a.n, .int .u16 s.b.p, .int .u16 s.b.c, .int .u8 s.b.l, .bool s.b.h, .int .u16 s.b.n, .int .u16 s.c.p, .int .u16 s.c.c, .int .u8 s.c.l, .bool s.c.h, .int .u16 s.c.n, .int .i64 s.w]), .int .i64 17, .int .u8 b] w fun e w' => e = .returned (.agg #[.int .u16 (⟨s.a, s.b, s.c.put 1 b, s.w⟩ : Sd).a.p, .int .u16 (⟨s.a, s.b, s.c.put 1 b, s.w⟩ : Sd).a.c, .int .u8 (⟨s.a, s.b, s.c.put 1 b, s.w⟩ : Sd).a.l, .bool (⟨s.a, s.b, s.c.put 1 b, s.w⟩ : Sd).a.h, .int .u16 (⟨s.a, s.b, s.c.put 1 b, s.w⟩ : Sd).a.n, .int .u16 (⟨s.a, s.b, s.c.put 1 b, s.w⟩ : Sd).b.p, .int .u16 (⟨s.a, s.b, s.c.put 1 b, s.w⟩ : Sd).b.c, .int .u8 (⟨s.a, s.b, s.c.put 1 b, s.w⟩ : Sd).b.l, .bool (⟨s.a, s.b, s.c.put 1 b, s.w⟩ : Sd).b.h, .int .u16 (⟨s.a, s.b, s.c.put 1 b, s.w⟩ : Sd).b.n, .int .u16 (⟨s.a, s.b, s.c.put 1 b, s.w⟩ : Sd).c.p, .int .u16 (⟨s.a, s.b, s.c.put 1 b, s.w⟩ : Sd).c.c, .int .u8 (⟨s.a, s.b, s.c.put 1 b, s.w⟩ : Sd).c.l, .bool (⟨s.a, s.b, s.c.put 1 b, s.w⟩ : Sd).c.h, .int .u16 (⟨s.a, s.b, s.c.put 1 b, s.w⟩ : Sd).c.n, .int .i64 (⟨s.a, s.b, s.c.put 1 b, s.w⟩ : Sd).w]) ∧ Below w.heap.size w w' := by
  have hp := h.c.p
  have hn := h.c.n
  have ed : ∀ z : Int, 0 ≤ z → z.tdiv 256 = z / 256 := fun z hz => Int.tdiv_eq_ediv_of_nonneg hz
  have ed1 := ed _ hp.1
  have ed2 := ed _ hn.1
  have em : b.tmod 16 = b % 16 := Int.tmod_eq_emod_of_nonneg hb.1
  have em1 : IntKind.u8.wrap (b % 16) = b % 16 := by rw [IntKind.wrap_u8]; omega
  have ew1 : IntKind.u16.wrap (s.c.p / 256) = s.c.p / 256 := by rw [IntKind.wrap_u16]; omega
  have ew2 : IntKind.u16.wrap (s.c.p / 256 * 256) = s.c.p / 256 * 256 := by rw [IntKind.wrap_u16]; omega
  have ew3 : IntKind.u16.wrap (s.c.p / 256 * 256 + b) = s.c.p / 256 * 256 + b := by rw [IntKind.wrap_u16]; omega
  have ew4 : IntKind.u16.wrap (s.c.n / 256) = s.c.n / 256 := by rw [IntKind.wrap_u16]; omega
  have ew5 : IntKind.u16.wrap (s.c.n / 256 * 256) = s.c.n / 256 * 256 := by rw [IntKind.wrap_u16]; omega
  have ew6 : IntKind.u16.wrap (s.c.n / 256 * 256 + b) = s.c.n / 256 * 256 + b := by rw [IntKind.wrap_u16]; omega
  clear ed
  have ec : ∀ z : Int, z % 256 + b * 256 = b * 256 + z % 256 := fun z => Int.add_comm _ _
  go_enter Try.func43, Try.ntmps43
  go_upto_region 1 with fail
  refine Pl.cutW (SmW w s [] (.slice none 0 0)) (SmW.two w s) ?_
  intro W hW
  have HW := hid hW
  obtain ⟨c0, c1, c2, c3, c4, tz, tf⟩ := hW.b.w2
  clear hW
  go_upto_region 15 with fail
  refine Pl.cutW (SmW w ⟨s.a, s.b, ⟨s.c.p / 256 * 256 + b, s.c.c, s.c.l, s.c.h, s.c.n⟩, s.w⟩ [] (.slice none 0 0)) ((HW.out.v2 ⟨s.c.p / 256 * 256 + b, s.c.c, s.c.l, s.c.h, s.c.n⟩).over _) ?_
  clear c0 c1 c2 c3 c4 tz tf HW
  intro W hT
  have HT := hid hT
  clear hT
  go_wp2_with (first
    | (refine wpList_load_mid rfl 36 _ rfl w.heap.size 0 rfl (scs ⟨s.a, s.b, ⟨s.c.p / 256 * 256 + b, s.c.c, s.c.l, s.c.h, s.c.n⟩, s.w⟩) _ HT.out.b.c Try.underlying36 rfl info_sound ?_)
    | (refine wpList_store_mid rfl 36 _ _ rfl (w.heap.size + 1) 0 _ rfl rfl (there16 HT.out.r) info_sound (all16 ⟨s.a, s.b, ⟨s.c.p / 256 * 256 + b, s.c.c, s.c.l, s.c.h, s.c.n⟩, s.w⟩) ?_
       refine Pl.cutL (fun W => Below w.heap.size w W ∧ Bx W (w.heap.size + 1) (scs ⟨s.a, s.b, ⟨s.c.p / 256 * 256 + b, s.c.c, s.c.l, s.c.h, s.c.n⟩, s.w⟩)) ⟨?_, ?_⟩ ?_
       · exact Bl.puts HT.out.low (Nat.le_succ _) _
       · exact HT.out.r.puts 0 (scs ⟨s.a, s.b, ⟨s.c.p / 256 * 256 + b, s.c.c, s.c.l, s.c.h, s.c.n⟩, s.w⟩) (by simp)
       rintro W ⟨hlow, hbox⟩
       have HLO := hid hlow
       have HBX := hid hbox
       clear hlow hbox))
  have hl := loadS HBX.out
  exact bodyPost_ret (v := (.agg #[.int .u16 (⟨s.a, s.b, s.c.put 1 b, s.w⟩ : Sd).a.p, .int .u16 (⟨s.a, s.b, s.c.put 1 b, s.w⟩ : Sd).a.c, .int .u8 (⟨s.a, s.b, s.c.put 1 b, s.w⟩ : Sd).a.l, .bool (⟨s.a, s.b, s.c.put 1 b, s.w⟩ : Sd).a.h, .int .u16 (⟨s.a, s.b, s.c.put 1 b, s.w⟩ : Sd).a.n, .int .u16 (⟨s.a, s.b, s.c.put 1 b, s.w⟩ : Sd).b.p, .int .u16 (⟨s.a, s.b, s.c.put 1 b, s.w⟩ : Sd).b.c, .int .u8 (⟨s.a, s.b, s.c.put 1 b, s.w⟩ : Sd).b.l, .bool (⟨s.a, s.b, s.c.put 1 b, s.w⟩ : Sd).b.h, .int .u16 (⟨s.a, s.b, s.c.put 1 b, s.w⟩ : Sd).b.n, .int .u16 (⟨s.a, s.b, s.c.put 1 b, s.w⟩ : Sd).c.p, .int .u16 (⟨s.a, s.b, s.c.put 1 b, s.w⟩ : Sd).c.c, .int .u8 (⟨s.a, s.b, s.c.put 1 b, s.w⟩ : Sd).c.l, .bool (⟨s.a, s.b, s.c.put 1 b, s.w⟩ : Sd).c.h, .int .u16 (⟨s.a, s.b, s.c.put 1 b, s.w⟩ : Sd).c.n, .int .i64 (⟨s.a, s.b, s.c.put 1 b, s.w⟩ : Sd).w])) (by simp only [results, Try.results43]; simp; exact hl) rfl ⟨rfl, HLO.out⟩

set_option maxRecDepth 100000 in
set_option maxHeartbeats 3200000 in
theorem rput_18 (s : Sd) (b : Int) (w : World) (h : s.ok) (hb : 0 ≤ b ∧ b ≤ 255) :
    Calls Try.prog 43 #[(.agg #[.int .u16 s.a.p, .int .u16 s.a.c, .int .u8 s.a.l, .bool s.a.h, .int .u16 s.a.n, .int .u16 s.b.p, .int .u16 s.b.c, .int .u8 s.b.l, .bool s.b.h, .int .u16 s.b.n, .int .u16 s.c.p, .int .u16 s.c.c, .int .u8 s.c.l, .bool s.c.h, .int .u16 s.c.n, .int .i64 s.w]), .int .i64 18, .int .u8 b] w fun e w' => e = .returned (.agg #[.int .u16 (⟨s.a, s.b, s.c.put 2 b, s.w⟩ : Sd).a.p, .int .u16 (⟨s.a, s.b, s.c.put 2 b, s.w⟩ : Sd).a.c, .int .u8 (⟨s.a, s.b, s.c.put 2 b, s.w⟩ : Sd).a.l, .bool (⟨s.a, s.b, s.c.put 2 b, s.w⟩ : Sd).a.h, .int .u16 (⟨s.a, s.b, s.c.put 2 b, s.w⟩ : Sd).a.n, .int .u16 (⟨s.a, s.b, s.c.put 2 b, s.w⟩ : Sd).b.p, .int .u16 (⟨s.a, s.b, s.c.put 2 b, s.w⟩ : Sd).b.c, .int .u8 (⟨s.a, s.b, s.c.put 2 b, s.w⟩ : Sd).b.l, .bool (⟨s.a, s.b, s.c.put 2 b, s.w⟩ : Sd).b.h, .int .u16 (⟨s.a, s.b, s.c.put 2 b, s.w⟩ : Sd).b.n, .int .u16 (⟨s.a, s.b, s.c.put 2 b, s.w⟩ : Sd).c.p, .int .u16 (⟨s.a, s.b, s.c.put 2 b, s.w⟩ : Sd).c.c, .int .u8 (⟨s.a, s.b, s.c.put 2 b, s.w⟩ : Sd).c.l, .bool (⟨s.a, s.b, s.c.put 2 b, s.w⟩ : Sd).c.h, .int .u16 (⟨s.a, s.b, s.c.put 2 b, s.w⟩ : Sd).c.n, .int .i64 (⟨s.a, s.b, s.c.put 2 b, s.w⟩ : Sd).w]) ∧ Below w.heap.size w w' := by
  have hp := h.c.p
  have hn := h.c.n
  have ed : ∀ z : Int, 0 ≤ z → z.tdiv 256 = z / 256 := fun z hz => Int.tdiv_eq_ediv_of_nonneg hz
  have ed1 := ed _ hp.1
  have ed2 := ed _ hn.1
  have em : b.tmod 16 = b % 16 := Int.tmod_eq_emod_of_nonneg hb.1
  have em1 : IntKind.u8.wrap (b % 16) = b % 16 := by rw [IntKind.wrap_u8]; omega
  have ew1 : IntKind.u16.wrap (s.c.p / 256) = s.c.p / 256 := by rw [IntKind.wrap_u16]; omega
  have ew2 : IntKind.u16.wrap (s.c.p / 256 * 256) = s.c.p / 256 * 256 := by rw [IntKind.wrap_u16]; omega
  have ew3 : IntKind.u16.wrap (s.c.p / 256 * 256 + b) = s.c.p / 256 * 256 + b := by rw [IntKind.wrap_u16]; omega
  have ew4 : IntKind.u16.wrap (s.c.n / 256) = s.c.n / 256 := by rw [IntKind.wrap_u16]; omega
  have ew5 : IntKind.u16.wrap (s.c.n / 256 * 256) = s.c.n / 256 * 256 := by rw [IntKind.wrap_u16]; omega
  have ew6 : IntKind.u16.wrap (s.c.n / 256 * 256 + b) = s.c.n / 256 * 256 + b := by rw [IntKind.wrap_u16]; omega
  clear ed
  have ec : ∀ z : Int, z % 256 + b * 256 = b * 256 + z % 256 := fun z => Int.add_comm _ _
  go_enter Try.func43, Try.ntmps43
  go_upto_region 1 with fail
  refine Pl.cutW (SmW w s [] (.slice none 0 0)) (SmW.two w s) ?_
  intro W hW
  have HW := hid hW
  obtain ⟨c0, c1, c2, c3, c4, tz, tf⟩ := hW.b.w2
  clear hW
  go_upto_region 15 with fail
  refine Pl.cutW (SmW w ⟨s.a, s.b, ⟨s.c.p, s.c.c, b % 16, s.c.h, s.c.n⟩, s.w⟩ [] (.slice none 0 0)) ((HW.out.v2 ⟨s.c.p, s.c.c, b % 16, s.c.h, s.c.n⟩).over _) ?_
  clear c0 c1 c2 c3 c4 tz tf HW
  intro W hT
  have HT := hid hT
  clear hT
  go_wp2_with (first
    | (refine wpList_load_mid rfl 36 _ rfl w.heap.size 0 rfl (scs ⟨s.a, s.b, ⟨s.c.p, s.c.c, b % 16, s.c.h, s.c.n⟩, s.w⟩) _ HT.out.b.c Try.underlying36 rfl info_sound ?_)
    | (refine wpList_store_mid rfl 36 _ _ rfl (w.heap.size + 1) 0 _ rfl rfl (there16 HT.out.r) info_sound (all16 ⟨s.a, s.b, ⟨s.c.p, s.c.c, b % 16, s.c.h, s.c.n⟩, s.w⟩) ?_
       refine Pl.cutL (fun W => Below w.heap.size w W ∧ Bx W (w.heap.size + 1) (scs ⟨s.a, s.b, ⟨s.c.p, s.c.c, b % 16, s.c.h, s.c.n⟩, s.w⟩)) ⟨?_, ?_⟩ ?_
       · exact Bl.puts HT.out.low (Nat.le_succ _) _
       · exact HT.out.r.puts 0 (scs ⟨s.a, s.b, ⟨s.c.p, s.c.c, b % 16, s.c.h, s.c.n⟩, s.w⟩) (by simp)
       rintro W ⟨hlow, hbox⟩
       have HLO := hid hlow
       have HBX := hid hbox
       clear hlow hbox))
  have hl := loadS HBX.out
  exact bodyPost_ret (v := (.agg #[.int .u16 (⟨s.a, s.b, s.c.put 2 b, s.w⟩ : Sd).a.p, .int .u16 (⟨s.a, s.b, s.c.put 2 b, s.w⟩ : Sd).a.c, .int .u8 (⟨s.a, s.b, s.c.put 2 b, s.w⟩ : Sd).a.l, .bool (⟨s.a, s.b, s.c.put 2 b, s.w⟩ : Sd).a.h, .int .u16 (⟨s.a, s.b, s.c.put 2 b, s.w⟩ : Sd).a.n, .int .u16 (⟨s.a, s.b, s.c.put 2 b, s.w⟩ : Sd).b.p, .int .u16 (⟨s.a, s.b, s.c.put 2 b, s.w⟩ : Sd).b.c, .int .u8 (⟨s.a, s.b, s.c.put 2 b, s.w⟩ : Sd).b.l, .bool (⟨s.a, s.b, s.c.put 2 b, s.w⟩ : Sd).b.h, .int .u16 (⟨s.a, s.b, s.c.put 2 b, s.w⟩ : Sd).b.n, .int .u16 (⟨s.a, s.b, s.c.put 2 b, s.w⟩ : Sd).c.p, .int .u16 (⟨s.a, s.b, s.c.put 2 b, s.w⟩ : Sd).c.c, .int .u8 (⟨s.a, s.b, s.c.put 2 b, s.w⟩ : Sd).c.l, .bool (⟨s.a, s.b, s.c.put 2 b, s.w⟩ : Sd).c.h, .int .u16 (⟨s.a, s.b, s.c.put 2 b, s.w⟩ : Sd).c.n, .int .i64 (⟨s.a, s.b, s.c.put 2 b, s.w⟩ : Sd).w])) (by simp only [results, Try.results43]; simp; exact hl) rfl ⟨rfl, HLO.out⟩

set_option maxRecDepth 100000 in
set_option maxHeartbeats 3200000 in
theorem rput_19 (s : Sd) (b : Int) (w : World) (h : s.ok) (hb : 0 ≤ b ∧ b ≤ 255) :
    Calls Try.prog 43 #[(.agg #[.int .u16 s.a.p, .int .u16 s.a.c, .int .u8 s.a.l, .bool s.a.h, .int .u16 s.a.n, .int .u16 s.b.p, .int .u16 s.b.c, .int .u8 s.b.l, .bool s.b.h, .int .u16 s.b.n, .int .u16 s.c.p, .int .u16 s.c.c, .int .u8 s.c.l, .bool s.c.h, .int .u16 s.c.n, .int .i64 s.w]), .int .i64 19, .int .u8 b] w fun e w' => e = .returned (.agg #[.int .u16 (⟨s.a, s.b, s.c.put 3 b, s.w⟩ : Sd).a.p, .int .u16 (⟨s.a, s.b, s.c.put 3 b, s.w⟩ : Sd).a.c, .int .u8 (⟨s.a, s.b, s.c.put 3 b, s.w⟩ : Sd).a.l, .bool (⟨s.a, s.b, s.c.put 3 b, s.w⟩ : Sd).a.h, .int .u16 (⟨s.a, s.b, s.c.put 3 b, s.w⟩ : Sd).a.n, .int .u16 (⟨s.a, s.b, s.c.put 3 b, s.w⟩ : Sd).b.p, .int .u16 (⟨s.a, s.b, s.c.put 3 b, s.w⟩ : Sd).b.c, .int .u8 (⟨s.a, s.b, s.c.put 3 b, s.w⟩ : Sd).b.l, .bool (⟨s.a, s.b, s.c.put 3 b, s.w⟩ : Sd).b.h, .int .u16 (⟨s.a, s.b, s.c.put 3 b, s.w⟩ : Sd).b.n, .int .u16 (⟨s.a, s.b, s.c.put 3 b, s.w⟩ : Sd).c.p, .int .u16 (⟨s.a, s.b, s.c.put 3 b, s.w⟩ : Sd).c.c, .int .u8 (⟨s.a, s.b, s.c.put 3 b, s.w⟩ : Sd).c.l, .bool (⟨s.a, s.b, s.c.put 3 b, s.w⟩ : Sd).c.h, .int .u16 (⟨s.a, s.b, s.c.put 3 b, s.w⟩ : Sd).c.n, .int .i64 (⟨s.a, s.b, s.c.put 3 b, s.w⟩ : Sd).w]) ∧ Below w.heap.size w w' := by
  have hp := h.c.p
  have hn := h.c.n
  have ed : ∀ z : Int, 0 ≤ z → z.tdiv 256 = z / 256 := fun z hz => Int.tdiv_eq_ediv_of_nonneg hz
  have ed1 := ed _ hp.1
  have ed2 := ed _ hn.1
  have em : b.tmod 16 = b % 16 := Int.tmod_eq_emod_of_nonneg hb.1
  have em1 : IntKind.u8.wrap (b % 16) = b % 16 := by rw [IntKind.wrap_u8]; omega
  have ew1 : IntKind.u16.wrap (s.c.p / 256) = s.c.p / 256 := by rw [IntKind.wrap_u16]; omega
  have ew2 : IntKind.u16.wrap (s.c.p / 256 * 256) = s.c.p / 256 * 256 := by rw [IntKind.wrap_u16]; omega
  have ew3 : IntKind.u16.wrap (s.c.p / 256 * 256 + b) = s.c.p / 256 * 256 + b := by rw [IntKind.wrap_u16]; omega
  have ew4 : IntKind.u16.wrap (s.c.n / 256) = s.c.n / 256 := by rw [IntKind.wrap_u16]; omega
  have ew5 : IntKind.u16.wrap (s.c.n / 256 * 256) = s.c.n / 256 * 256 := by rw [IntKind.wrap_u16]; omega
  have ew6 : IntKind.u16.wrap (s.c.n / 256 * 256 + b) = s.c.n / 256 * 256 + b := by rw [IntKind.wrap_u16]; omega
  clear ed
  have ec : ∀ z : Int, z % 256 + b * 256 = b * 256 + z % 256 := fun z => Int.add_comm _ _
  go_enter Try.func43, Try.ntmps43
  go_upto_region 1 with fail
  refine Pl.cutW (SmW w s [] (.slice none 0 0)) (SmW.two w s) ?_
  intro W hW
  have HW := hid hW
  obtain ⟨c0, c1, c2, c3, c4, tz, tf⟩ := hW.b.w2
  clear hW
  go_upto_region 15 with fail
  refine Pl.cutW (SmW w ⟨s.a, s.b, ⟨s.c.p, s.c.c, s.c.l, s.c.h, b * 256 + s.c.n % 256⟩, s.w⟩ [] (.slice none 0 0)) ((HW.out.v2 ⟨s.c.p, s.c.c, s.c.l, s.c.h, b * 256 + s.c.n % 256⟩).over _) ?_
  clear c0 c1 c2 c3 c4 tz tf HW
  intro W hT
  have HT := hid hT
  clear hT
  go_wp2_with (first
    | (refine wpList_load_mid rfl 36 _ rfl w.heap.size 0 rfl (scs ⟨s.a, s.b, ⟨s.c.p, s.c.c, s.c.l, s.c.h, b * 256 + s.c.n % 256⟩, s.w⟩) _ HT.out.b.c Try.underlying36 rfl info_sound ?_)
    | (refine wpList_store_mid rfl 36 _ _ rfl (w.heap.size + 1) 0 _ rfl rfl (there16 HT.out.r) info_sound (all16 ⟨s.a, s.b, ⟨s.c.p, s.c.c, s.c.l, s.c.h, b * 256 + s.c.n % 256⟩, s.w⟩) ?_
       refine Pl.cutL (fun W => Below w.heap.size w W ∧ Bx W (w.heap.size + 1) (scs ⟨s.a, s.b, ⟨s.c.p, s.c.c, s.c.l, s.c.h, b * 256 + s.c.n % 256⟩, s.w⟩)) ⟨?_, ?_⟩ ?_
       · exact Bl.puts HT.out.low (Nat.le_succ _) _
       · exact HT.out.r.puts 0 (scs ⟨s.a, s.b, ⟨s.c.p, s.c.c, s.c.l, s.c.h, b * 256 + s.c.n % 256⟩, s.w⟩) (by simp)
       rintro W ⟨hlow, hbox⟩
       have HLO := hid hlow
       have HBX := hid hbox
       clear hlow hbox))
  have hl := loadS HBX.out
  exact bodyPost_ret (v := (.agg #[.int .u16 (⟨s.a, s.b, s.c.put 3 b, s.w⟩ : Sd).a.p, .int .u16 (⟨s.a, s.b, s.c.put 3 b, s.w⟩ : Sd).a.c, .int .u8 (⟨s.a, s.b, s.c.put 3 b, s.w⟩ : Sd).a.l, .bool (⟨s.a, s.b, s.c.put 3 b, s.w⟩ : Sd).a.h, .int .u16 (⟨s.a, s.b, s.c.put 3 b, s.w⟩ : Sd).a.n, .int .u16 (⟨s.a, s.b, s.c.put 3 b, s.w⟩ : Sd).b.p, .int .u16 (⟨s.a, s.b, s.c.put 3 b, s.w⟩ : Sd).b.c, .int .u8 (⟨s.a, s.b, s.c.put 3 b, s.w⟩ : Sd).b.l, .bool (⟨s.a, s.b, s.c.put 3 b, s.w⟩ : Sd).b.h, .int .u16 (⟨s.a, s.b, s.c.put 3 b, s.w⟩ : Sd).b.n, .int .u16 (⟨s.a, s.b, s.c.put 3 b, s.w⟩ : Sd).c.p, .int .u16 (⟨s.a, s.b, s.c.put 3 b, s.w⟩ : Sd).c.c, .int .u8 (⟨s.a, s.b, s.c.put 3 b, s.w⟩ : Sd).c.l, .bool (⟨s.a, s.b, s.c.put 3 b, s.w⟩ : Sd).c.h, .int .u16 (⟨s.a, s.b, s.c.put 3 b, s.w⟩ : Sd).c.n, .int .i64 (⟨s.a, s.b, s.c.put 3 b, s.w⟩ : Sd).w])) (by simp only [results, Try.results43]; simp; exact hl) rfl ⟨rfl, HLO.out⟩

set_option maxRecDepth 100000 in
set_option maxHeartbeats 3200000 in
theorem rput_20 (s : Sd) (b : Int) (w : World) (h : s.ok) (hb : 0 ≤ b ∧ b ≤ 255) :
    Calls Try.prog 43 #[(.agg #[.int .u16 s.a.p, .int .u16 s.a.c, .int .u8 s.a.l, .bool s.a.h, .int .u16 s.a.n, .int .u16 s.b.p, .int .u16 s.b.c, .int .u8 s.b.l, .bool s.b.h, .int .u16 s.b.n, .int .u16 s.c.p, .int .u16 s.c.c, .int .u8 s.c.l, .bool s.c.h, .int .u16 s.c.n, .int .i64 s.w]), .int .i64 20, .int .u8 b] w fun e w' => e = .returned (.agg #[.int .u16 (⟨s.a, s.b, s.c.put 4 b, s.w⟩ : Sd).a.p, .int .u16 (⟨s.a, s.b, s.c.put 4 b, s.w⟩ : Sd).a.c, .int .u8 (⟨s.a, s.b, s.c.put 4 b, s.w⟩ : Sd).a.l, .bool (⟨s.a, s.b, s.c.put 4 b, s.w⟩ : Sd).a.h, .int .u16 (⟨s.a, s.b, s.c.put 4 b, s.w⟩ : Sd).a.n, .int .u16 (⟨s.a, s.b, s.c.put 4 b, s.w⟩ : Sd).b.p, .int .u16 (⟨s.a, s.b, s.c.put 4 b, s.w⟩ : Sd).b.c, .int .u8 (⟨s.a, s.b, s.c.put 4 b, s.w⟩ : Sd).b.l, .bool (⟨s.a, s.b, s.c.put 4 b, s.w⟩ : Sd).b.h, .int .u16 (⟨s.a, s.b, s.c.put 4 b, s.w⟩ : Sd).b.n, .int .u16 (⟨s.a, s.b, s.c.put 4 b, s.w⟩ : Sd).c.p, .int .u16 (⟨s.a, s.b, s.c.put 4 b, s.w⟩ : Sd).c.c, .int .u8 (⟨s.a, s.b, s.c.put 4 b, s.w⟩ : Sd).c.l, .bool (⟨s.a, s.b, s.c.put 4 b, s.w⟩ : Sd).c.h, .int .u16 (⟨s.a, s.b, s.c.put 4 b, s.w⟩ : Sd).c.n, .int .i64 (⟨s.a, s.b, s.c.put 4 b, s.w⟩ : Sd).w]) ∧ Below w.heap.size w w' := by
  have hp := h.c.p
  have hn := h.c.n
  have ed : ∀ z : Int, 0 ≤ z → z.tdiv 256 = z / 256 := fun z hz => Int.tdiv_eq_ediv_of_nonneg hz
  have ed1 := ed _ hp.1
  have ed2 := ed _ hn.1
  have em : b.tmod 16 = b % 16 := Int.tmod_eq_emod_of_nonneg hb.1
  have em1 : IntKind.u8.wrap (b % 16) = b % 16 := by rw [IntKind.wrap_u8]; omega
  have ew1 : IntKind.u16.wrap (s.c.p / 256) = s.c.p / 256 := by rw [IntKind.wrap_u16]; omega
  have ew2 : IntKind.u16.wrap (s.c.p / 256 * 256) = s.c.p / 256 * 256 := by rw [IntKind.wrap_u16]; omega
  have ew3 : IntKind.u16.wrap (s.c.p / 256 * 256 + b) = s.c.p / 256 * 256 + b := by rw [IntKind.wrap_u16]; omega
  have ew4 : IntKind.u16.wrap (s.c.n / 256) = s.c.n / 256 := by rw [IntKind.wrap_u16]; omega
  have ew5 : IntKind.u16.wrap (s.c.n / 256 * 256) = s.c.n / 256 * 256 := by rw [IntKind.wrap_u16]; omega
  have ew6 : IntKind.u16.wrap (s.c.n / 256 * 256 + b) = s.c.n / 256 * 256 + b := by rw [IntKind.wrap_u16]; omega
  clear ed
  have ec : ∀ z : Int, z % 256 + b * 256 = b * 256 + z % 256 := fun z => Int.add_comm _ _
  go_enter Try.func43, Try.ntmps43
  go_upto_region 1 with fail
  refine Pl.cutW (SmW w s [] (.slice none 0 0)) (SmW.two w s) ?_
  intro W hW
  have HW := hid hW
  obtain ⟨c0, c1, c2, c3, c4, tz, tf⟩ := hW.b.w2
  clear hW
  go_upto_region 15 with fail
  refine Pl.cutW (SmW w ⟨s.a, s.b, ⟨s.c.p, s.c.c, s.c.l, s.c.h, s.c.n / 256 * 256 + b⟩, s.w⟩ [] (.slice none 0 0)) ((HW.out.v2 ⟨s.c.p, s.c.c, s.c.l, s.c.h, s.c.n / 256 * 256 + b⟩).over _) ?_
  clear c0 c1 c2 c3 c4 tz tf HW
  intro W hT
  have HT := hid hT
  clear hT
  go_wp2_with (first
    | (refine wpList_load_mid rfl 36 _ rfl w.heap.size 0 rfl (scs ⟨s.a, s.b, ⟨s.c.p, s.c.c, s.c.l, s.c.h, s.c.n / 256 * 256 + b⟩, s.w⟩) _ HT.out.b.c Try.underlying36 rfl info_sound ?_)
    | (refine wpList_store_mid rfl 36 _ _ rfl (w.heap.size + 1) 0 _ rfl rfl (there16 HT.out.r) info_sound (all16 ⟨s.a, s.b, ⟨s.c.p, s.c.c, s.c.l, s.c.h, s.c.n / 256 * 256 + b⟩, s.w⟩) ?_
       refine Pl.cutL (fun W => Below w.heap.size w W ∧ Bx W (w.heap.size + 1) (scs ⟨s.a, s.b, ⟨s.c.p, s.c.c, s.c.l, s.c.h, s.c.n / 256 * 256 + b⟩, s.w⟩)) ⟨?_, ?_⟩ ?_
       · exact Bl.puts HT.out.low (Nat.le_succ _) _
       · exact HT.out.r.puts 0 (scs ⟨s.a, s.b, ⟨s.c.p, s.c.c, s.c.l, s.c.h, s.c.n / 256 * 256 + b⟩, s.w⟩) (by simp)
       rintro W ⟨hlow, hbox⟩
       have HLO := hid hlow
       have HBX := hid hbox
       clear hlow hbox))
  have hl := loadS HBX.out
  exact bodyPost_ret (v := (.agg #[.int .u16 (⟨s.a, s.b, s.c.put 4 b, s.w⟩ : Sd).a.p, .int .u16 (⟨s.a, s.b, s.c.put 4 b, s.w⟩ : Sd).a.c, .int .u8 (⟨s.a, s.b, s.c.put 4 b, s.w⟩ : Sd).a.l, .bool (⟨s.a, s.b, s.c.put 4 b, s.w⟩ : Sd).a.h, .int .u16 (⟨s.a, s.b, s.c.put 4 b, s.w⟩ : Sd).a.n, .int .u16 (⟨s.a, s.b, s.c.put 4 b, s.w⟩ : Sd).b.p, .int .u16 (⟨s.a, s.b, s.c.put 4 b, s.w⟩ : Sd).b.c, .int .u8 (⟨s.a, s.b, s.c.put 4 b, s.w⟩ : Sd).b.l, .bool (⟨s.a, s.b, s.c.put 4 b, s.w⟩ : Sd).b.h, .int .u16 (⟨s.a, s.b, s.c.put 4 b, s.w⟩ : Sd).b.n, .int .u16 (⟨s.a, s.b, s.c.put 4 b, s.w⟩ : Sd).c.p, .int .u16 (⟨s.a, s.b, s.c.put 4 b, s.w⟩ : Sd).c.c, .int .u8 (⟨s.a, s.b, s.c.put 4 b, s.w⟩ : Sd).c.l, .bool (⟨s.a, s.b, s.c.put 4 b, s.w⟩ : Sd).c.h, .int .u16 (⟨s.a, s.b, s.c.put 4 b, s.w⟩ : Sd).c.n, .int .i64 (⟨s.a, s.b, s.c.put 4 b, s.w⟩ : Sd).w])) (by simp only [results, Try.results43]; simp; exact hl) rfl ⟨rfl, HLO.out⟩

set_option maxRecDepth 100000 in
set_option maxHeartbeats 3200000 in
theorem rput_21 (s : Sd) (b : Int) (w : World) (h : s.ok) (hb : 0 ≤ b ∧ b ≤ 255) :
    Calls Try.prog 43 #[(.agg #[.int .u16 s.a.p, .int .u16 s.a.c, .int .u8 s.a.l, .bool s.a.h, .int .u16 s.a.n, .int .u16 s.b.p, .int .u16 s.b.c, .int .u8 s.b.l, .bool s.b.h, .int .u16 s.b.n, .int .u16 s.c.p, .int .u16 s.c.c, .int .u8 s.c.l, .bool s.c.h, .int .u16 s.c.n, .int .i64 s.w]), .int .i64 21, .int .u8 b] w fun e w' => e = .returned (.agg #[.int .u16 (⟨s.a, s.b, s.c.put 5 b, s.w⟩ : Sd).a.p, .int .u16 (⟨s.a, s.b, s.c.put 5 b, s.w⟩ : Sd).a.c, .int .u8 (⟨s.a, s.b, s.c.put 5 b, s.w⟩ : Sd).a.l, .bool (⟨s.a, s.b, s.c.put 5 b, s.w⟩ : Sd).a.h, .int .u16 (⟨s.a, s.b, s.c.put 5 b, s.w⟩ : Sd).a.n, .int .u16 (⟨s.a, s.b, s.c.put 5 b, s.w⟩ : Sd).b.p, .int .u16 (⟨s.a, s.b, s.c.put 5 b, s.w⟩ : Sd).b.c, .int .u8 (⟨s.a, s.b, s.c.put 5 b, s.w⟩ : Sd).b.l, .bool (⟨s.a, s.b, s.c.put 5 b, s.w⟩ : Sd).b.h, .int .u16 (⟨s.a, s.b, s.c.put 5 b, s.w⟩ : Sd).b.n, .int .u16 (⟨s.a, s.b, s.c.put 5 b, s.w⟩ : Sd).c.p, .int .u16 (⟨s.a, s.b, s.c.put 5 b, s.w⟩ : Sd).c.c, .int .u8 (⟨s.a, s.b, s.c.put 5 b, s.w⟩ : Sd).c.l, .bool (⟨s.a, s.b, s.c.put 5 b, s.w⟩ : Sd).c.h, .int .u16 (⟨s.a, s.b, s.c.put 5 b, s.w⟩ : Sd).c.n, .int .i64 (⟨s.a, s.b, s.c.put 5 b, s.w⟩ : Sd).w]) ∧ Below w.heap.size w w' := by
  have hp := h.c.p
  have hn := h.c.n
  have ed : ∀ z : Int, 0 ≤ z → z.tdiv 256 = z / 256 := fun z hz => Int.tdiv_eq_ediv_of_nonneg hz
  have ed1 := ed _ hp.1
  have ed2 := ed _ hn.1
  have em : b.tmod 16 = b % 16 := Int.tmod_eq_emod_of_nonneg hb.1
  have em1 : IntKind.u8.wrap (b % 16) = b % 16 := by rw [IntKind.wrap_u8]; omega
  have ew1 : IntKind.u16.wrap (s.c.p / 256) = s.c.p / 256 := by rw [IntKind.wrap_u16]; omega
  have ew2 : IntKind.u16.wrap (s.c.p / 256 * 256) = s.c.p / 256 * 256 := by rw [IntKind.wrap_u16]; omega
  have ew3 : IntKind.u16.wrap (s.c.p / 256 * 256 + b) = s.c.p / 256 * 256 + b := by rw [IntKind.wrap_u16]; omega
  have ew4 : IntKind.u16.wrap (s.c.n / 256) = s.c.n / 256 := by rw [IntKind.wrap_u16]; omega
  have ew5 : IntKind.u16.wrap (s.c.n / 256 * 256) = s.c.n / 256 * 256 := by rw [IntKind.wrap_u16]; omega
  have ew6 : IntKind.u16.wrap (s.c.n / 256 * 256 + b) = s.c.n / 256 * 256 + b := by rw [IntKind.wrap_u16]; omega
  clear ed
  have ec : ∀ z : Int, z % 256 + b * 256 = b * 256 + z % 256 := fun z => Int.add_comm _ _
  go_enter Try.func43, Try.ntmps43
  go_upto_region 1 with fail
  refine Pl.cutW (SmW w s [] (.slice none 0 0)) (SmW.two w s) ?_
  intro W hW
  have HW := hid hW
  obtain ⟨c0, c1, c2, c3, c4, tz, tf⟩ := hW.b.w2
  clear hW
  go_upto_region 15 with fail
  refine Pl.cutW (SmW w ⟨s.a, s.b, ⟨s.c.p, s.c.c, s.c.l, s.c.h, s.c.n⟩, s.w⟩ [] (.slice none 0 0)) ((HW.out.v2 ⟨s.c.p, s.c.c, s.c.l, s.c.h, s.c.n⟩).over _) ?_
  clear c0 c1 c2 c3 c4 tz tf HW
  intro W hT
  have HT := hid hT
  clear hT
  go_wp2_with (first
    | (refine wpList_load_mid rfl 36 _ rfl w.heap.size 0 rfl (scs ⟨s.a, s.b, ⟨s.c.p, s.c.c, s.c.l, s.c.h, s.c.n⟩, s.w⟩) _ HT.out.b.c Try.underlying36 rfl info_sound ?_)
    | (refine wpList_store_mid rfl 36 _ _ rfl (w.heap.size + 1) 0 _ rfl rfl (there16 HT.out.r) info_sound (all16 ⟨s.a, s.b, ⟨s.c.p, s.c.c, s.c.l, s.c.h, s.c.n⟩, s.w⟩) ?_
       refine Pl.cutL (fun W => Below w.heap.size w W ∧ Bx W (w.heap.size + 1) (scs ⟨s.a, s.b, ⟨s.c.p, s.c.c, s.c.l, s.c.h, s.c.n⟩, s.w⟩)) ⟨?_, ?_⟩ ?_
       · exact Bl.puts HT.out.low (Nat.le_succ _) _
       · exact HT.out.r.puts 0 (scs ⟨s.a, s.b, ⟨s.c.p, s.c.c, s.c.l, s.c.h, s.c.n⟩, s.w⟩) (by simp)
       rintro W ⟨hlow, hbox⟩
       have HLO := hid hlow
       have HBX := hid hbox
       clear hlow hbox))
  have hl := loadS HBX.out
  exact bodyPost_ret (v := (.agg #[.int .u16 (⟨s.a, s.b, s.c.put 5 b, s.w⟩ : Sd).a.p, .int .u16 (⟨s.a, s.b, s.c.put 5 b, s.w⟩ : Sd).a.c, .int .u8 (⟨s.a, s.b, s.c.put 5 b, s.w⟩ : Sd).a.l, .bool (⟨s.a, s.b, s.c.put 5 b, s.w⟩ : Sd).a.h, .int .u16 (⟨s.a, s.b, s.c.put 5 b, s.w⟩ : Sd).a.n, .int .u16 (⟨s.a, s.b, s.c.put 5 b, s.w⟩ : Sd).b.p, .int .u16 (⟨s.a, s.b, s.c.put 5 b, s.w⟩ : Sd).b.c, .int .u8 (⟨s.a, s.b, s.c.put 5 b, s.w⟩ : Sd).b.l, .bool (⟨s.a, s.b, s.c.put 5 b, s.w⟩ : Sd).b.h, .int .u16 (⟨s.a, s.b, s.c.put 5 b, s.w⟩ : Sd).b.n, .int .u16 (⟨s.a, s.b, s.c.put 5 b, s.w⟩ : Sd).c.p, .int .u16 (⟨s.a, s.b, s.c.put 5 b, s.w⟩ : Sd).c.c, .int .u8 (⟨s.a, s.b, s.c.put 5 b, s.w⟩ : Sd).c.l, .bool (⟨s.a, s.b, s.c.put 5 b, s.w⟩ : Sd).c.h, .int .u16 (⟨s.a, s.b, s.c.put 5 b, s.w⟩ : Sd).c.n, .int .i64 (⟨s.a, s.b, s.c.put 5 b, s.w⟩ : Sd).w])) (by simp only [results, Try.results43]; simp; exact hl) rfl ⟨rfl, HLO.out⟩

set_option maxRecDepth 100000 in
set_option maxHeartbeats 3200000 in
theorem rput_22 (s : Sd) (b : Int) (w : World) (h : s.ok) (hb : 0 ≤ b ∧ b ≤ 255) :
    Calls Try.prog 43 #[(.agg #[.int .u16 s.a.p, .int .u16 s.a.c, .int .u8 s.a.l, .bool s.a.h, .int .u16 s.a.n, .int .u16 s.b.p, .int .u16 s.b.c, .int .u8 s.b.l, .bool s.b.h, .int .u16 s.b.n, .int .u16 s.c.p, .int .u16 s.c.c, .int .u8 s.c.l, .bool s.c.h, .int .u16 s.c.n, .int .i64 s.w]), .int .i64 22, .int .u8 b] w fun e w' => e = .returned (.agg #[.int .u16 (⟨s.a, s.b, s.c.put 6 b, s.w⟩ : Sd).a.p, .int .u16 (⟨s.a, s.b, s.c.put 6 b, s.w⟩ : Sd).a.c, .int .u8 (⟨s.a, s.b, s.c.put 6 b, s.w⟩ : Sd).a.l, .bool (⟨s.a, s.b, s.c.put 6 b, s.w⟩ : Sd).a.h, .int .u16 (⟨s.a, s.b, s.c.put 6 b, s.w⟩ : Sd).a.n, .int .u16 (⟨s.a, s.b, s.c.put 6 b, s.w⟩ : Sd).b.p, .int .u16 (⟨s.a, s.b, s.c.put 6 b, s.w⟩ : Sd).b.c, .int .u8 (⟨s.a, s.b, s.c.put 6 b, s.w⟩ : Sd).b.l, .bool (⟨s.a, s.b, s.c.put 6 b, s.w⟩ : Sd).b.h, .int .u16 (⟨s.a, s.b, s.c.put 6 b, s.w⟩ : Sd).b.n, .int .u16 (⟨s.a, s.b, s.c.put 6 b, s.w⟩ : Sd).c.p, .int .u16 (⟨s.a, s.b, s.c.put 6 b, s.w⟩ : Sd).c.c, .int .u8 (⟨s.a, s.b, s.c.put 6 b, s.w⟩ : Sd).c.l, .bool (⟨s.a, s.b, s.c.put 6 b, s.w⟩ : Sd).c.h, .int .u16 (⟨s.a, s.b, s.c.put 6 b, s.w⟩ : Sd).c.n, .int .i64 (⟨s.a, s.b, s.c.put 6 b, s.w⟩ : Sd).w]) ∧ Below w.heap.size w w' := by
  have hp := h.c.p
  have hn := h.c.n
  have ed : ∀ z : Int, 0 ≤ z → z.tdiv 256 = z / 256 := fun z hz => Int.tdiv_eq_ediv_of_nonneg hz
  have ed1 := ed _ hp.1
  have ed2 := ed _ hn.1
  have em : b.tmod 16 = b % 16 := Int.tmod_eq_emod_of_nonneg hb.1
  have em1 : IntKind.u8.wrap (b % 16) = b % 16 := by rw [IntKind.wrap_u8]; omega
  have ew1 : IntKind.u16.wrap (s.c.p / 256) = s.c.p / 256 := by rw [IntKind.wrap_u16]; omega
  have ew2 : IntKind.u16.wrap (s.c.p / 256 * 256) = s.c.p / 256 * 256 := by rw [IntKind.wrap_u16]; omega
  have ew3 : IntKind.u16.wrap (s.c.p / 256 * 256 + b) = s.c.p / 256 * 256 + b := by rw [IntKind.wrap_u16]; omega
  have ew4 : IntKind.u16.wrap (s.c.n / 256) = s.c.n / 256 := by rw [IntKind.wrap_u16]; omega
  have ew5 : IntKind.u16.wrap (s.c.n / 256 * 256) = s.c.n / 256 * 256 := by rw [IntKind.wrap_u16]; omega
  have ew6 : IntKind.u16.wrap (s.c.n / 256 * 256 + b) = s.c.n / 256 * 256 + b := by rw [IntKind.wrap_u16]; omega
  clear ed
  have ec : ∀ z : Int, z % 256 + b * 256 = b * 256 + z % 256 := fun z => Int.add_comm _ _
  go_enter Try.func43, Try.ntmps43
  go_upto_region 1 with fail
  refine Pl.cutW (SmW w s [] (.slice none 0 0)) (SmW.two w s) ?_
  intro W hW
  have HW := hid hW
  obtain ⟨c0, c1, c2, c3, c4, tz, tf⟩ := hW.b.w2
  clear hW
  go_upto_region 15 with fail
  refine Pl.cutW (SmW w ⟨s.a, s.b, ⟨s.c.p, s.c.c, s.c.l, s.c.h, s.c.n⟩, s.w⟩ [] (.slice none 0 0)) ((HW.out.v2 ⟨s.c.p, s.c.c, s.c.l, s.c.h, s.c.n⟩).over _) ?_
  clear c0 c1 c2 c3 c4 tz tf HW
  intro W hT
  have HT := hid hT
  clear hT
  go_wp2_with (first
    | (refine wpList_load_mid rfl 36 _ rfl w.heap.size 0 rfl (scs ⟨s.a, s.b, ⟨s.c.p, s.c.c, s.c.l, s.c.h, s.c.n⟩, s.w⟩) _ HT.out.b.c Try.underlying36 rfl info_sound ?_)
    | (refine wpList_store_mid rfl 36 _ _ rfl (w.heap.size + 1) 0 _ rfl rfl (there16 HT.out.r) info_sound (all16 ⟨s.a, s.b, ⟨s.c.p, s.c.c, s.c.l, s.c.h, s.c.n⟩, s.w⟩) ?_
       refine Pl.cutL (fun W => Below w.heap.size w W ∧ Bx W (w.heap.size + 1) (scs ⟨s.a, s.b, ⟨s.c.p, s.c.c, s.c.l, s.c.h, s.c.n⟩, s.w⟩)) ⟨?_, ?_⟩ ?_
       · exact Bl.puts HT.out.low (Nat.le_succ _) _
       · exact HT.out.r.puts 0 (scs ⟨s.a, s.b, ⟨s.c.p, s.c.c, s.c.l, s.c.h, s.c.n⟩, s.w⟩) (by simp)
       rintro W ⟨hlow, hbox⟩
       have HLO := hid hlow
       have HBX := hid hbox
       clear hlow hbox))
  have hl := loadS HBX.out
  exact bodyPost_ret (v := (.agg #[.int .u16 (⟨s.a, s.b, s.c.put 6 b, s.w⟩ : Sd).a.p, .int .u16 (⟨s.a, s.b, s.c.put 6 b, s.w⟩ : Sd).a.c, .int .u8 (⟨s.a, s.b, s.c.put 6 b, s.w⟩ : Sd).a.l, .bool (⟨s.a, s.b, s.c.put 6 b, s.w⟩ : Sd).a.h, .int .u16 (⟨s.a, s.b, s.c.put 6 b, s.w⟩ : Sd).a.n, .int .u16 (⟨s.a, s.b, s.c.put 6 b, s.w⟩ : Sd).b.p, .int .u16 (⟨s.a, s.b, s.c.put 6 b, s.w⟩ : Sd).b.c, .int .u8 (⟨s.a, s.b, s.c.put 6 b, s.w⟩ : Sd).b.l, .bool (⟨s.a, s.b, s.c.put 6 b, s.w⟩ : Sd).b.h, .int .u16 (⟨s.a, s.b, s.c.put 6 b, s.w⟩ : Sd).b.n, .int .u16 (⟨s.a, s.b, s.c.put 6 b, s.w⟩ : Sd).c.p, .int .u16 (⟨s.a, s.b, s.c.put 6 b, s.w⟩ : Sd).c.c, .int .u8 (⟨s.a, s.b, s.c.put 6 b, s.w⟩ : Sd).c.l, .bool (⟨s.a, s.b, s.c.put 6 b, s.w⟩ : Sd).c.h, .int .u16 (⟨s.a, s.b, s.c.put 6 b, s.w⟩ : Sd).c.n, .int .i64 (⟨s.a, s.b, s.c.put 6 b, s.w⟩ : Sd).w])) (by simp only [results, Try.results43]; simp; exact hl) rfl ⟨rfl, HLO.out⟩

set_option maxRecDepth 100000 in
set_option maxHeartbeats 3200000 in
theorem rput_23 (s : Sd) (b : Int) (w : World) (h : s.ok) (hb : 0 ≤ b ∧ b ≤ 255) :
    Calls Try.prog 43 #[(.agg #[.int .u16 s.a.p, .int .u16 s.a.c, .int .u8 s.a.l, .bool s.a.h, .int .u16 s.a.n, .int .u16 s.b.p, .int .u16 s.b.c, .int .u8 s.b.l, .bool s.b.h, .int .u16 s.b.n, .int .u16 s.c.p, .int .u16 s.c.c, .int .u8 s.c.l, .bool s.c.h, .int .u16 s.c.n, .int .i64 s.w]), .int .i64 23, .int .u8 b] w fun e w' => e = .returned (.agg #[.int .u16 (⟨s.a, s.b, s.c.put 7 b, s.w⟩ : Sd).a.p, .int .u16 (⟨s.a, s.b, s.c.put 7 b, s.w⟩ : Sd).a.c, .int .u8 (⟨s.a, s.b, s.c.put 7 b, s.w⟩ : Sd).a.l, .bool (⟨s.a, s.b, s.c.put 7 b, s.w⟩ : Sd).a.h, .int .u16 (⟨s.a, s.b, s.c.put 7 b, s.w⟩ : Sd).a.n, .int .u16 (⟨s.a, s.b, s.c.put 7 b, s.w⟩ : Sd).b.p, .int .u16 (⟨s.a, s.b, s.c.put 7 b, s.w⟩ : Sd).b.c, .int .u8 (⟨s.a, s.b, s.c.put 7 b, s.w⟩ : Sd).b.l, .bool (⟨s.a, s.b, s.c.put 7 b, s.w⟩ : Sd).b.h, .int .u16 (⟨s.a, s.b, s.c.put 7 b, s.w⟩ : Sd).b.n, .int .u16 (⟨s.a, s.b, s.c.put 7 b, s.w⟩ : Sd).c.p, .int .u16 (⟨s.a, s.b, s.c.put 7 b, s.w⟩ : Sd).c.c, .int .u8 (⟨s.a, s.b, s.c.put 7 b, s.w⟩ : Sd).c.l, .bool (⟨s.a, s.b, s.c.put 7 b, s.w⟩ : Sd).c.h, .int .u16 (⟨s.a, s.b, s.c.put 7 b, s.w⟩ : Sd).c.n, .int .i64 (⟨s.a, s.b, s.c.put 7 b, s.w⟩ : Sd).w]) ∧ Below w.heap.size w w' := by
  have hp := h.c.p
  have hn := h.c.n
  have ed : ∀ z : Int, 0 ≤ z → z.tdiv 256 = z / 256 := fun z hz => Int.tdiv_eq_ediv_of_nonneg hz
  have ed1 := ed _ hp.1
  have ed2 := ed _ hn.1
  have em : b.tmod 16 = b % 16 := Int.tmod_eq_emod_of_nonneg hb.1
  have em1 : IntKind.u8.wrap (b % 16) = b % 16 := by rw [IntKind.wrap_u8]; omega
  have ew1 : IntKind.u16.wrap (s.c.p / 256) = s.c.p / 256 := by rw [IntKind.wrap_u16]; omega
  have ew2 : IntKind.u16.wrap (s.c.p / 256 * 256) = s.c.p / 256 * 256 := by rw [IntKind.wrap_u16]; omega
  have ew3 : IntKind.u16.wrap (s.c.p / 256 * 256 + b) = s.c.p / 256 * 256 + b := by rw [IntKind.wrap_u16]; omega
  have ew4 : IntKind.u16.wrap (s.c.n / 256) = s.c.n / 256 := by rw [IntKind.wrap_u16]; omega
  have ew5 : IntKind.u16.wrap (s.c.n / 256 * 256) = s.c.n / 256 * 256 := by rw [IntKind.wrap_u16]; omega
  have ew6 : IntKind.u16.wrap (s.c.n / 256 * 256 + b) = s.c.n / 256 * 256 + b := by rw [IntKind.wrap_u16]; omega
  clear ed
  have ec : ∀ z : Int, z % 256 + b * 256 = b * 256 + z % 256 := fun z => Int.add_comm _ _
  go_enter Try.func43, Try.ntmps43
  go_upto_region 1 with fail
  refine Pl.cutW (SmW w s [] (.slice none 0 0)) (SmW.two w s) ?_
  intro W hW
  have HW := hid hW
  obtain ⟨c0, c1, c2, c3, c4, tz, tf⟩ := hW.b.w2
  clear hW
  go_upto_region 15 with fail
  refine Pl.cutW (SmW w ⟨s.a, s.b, ⟨s.c.p, s.c.c, s.c.l, s.c.h, s.c.n⟩, s.w⟩ [] (.slice none 0 0)) ((HW.out.v2 ⟨s.c.p, s.c.c, s.c.l, s.c.h, s.c.n⟩).over _) ?_
  clear c0 c1 c2 c3 c4 tz tf HW
  intro W hT
  have HT := hid hT
  clear hT
  go_wp2_with (first
    | (refine wpList_load_mid rfl 36 _ rfl w.heap.size 0 rfl (scs ⟨s.a, s.b, ⟨s.c.p, s.c.c, s.c.l, s.c.h, s.c.n⟩, s.w⟩) _ HT.out.b.c Try.underlying36 rfl info_sound ?_)
    | (refine wpList_store_mid rfl 36 _ _ rfl (w.heap.size + 1) 0 _ rfl rfl (there16 HT.out.r) info_sound (all16 ⟨s.a, s.b, ⟨s.c.p, s.c.c, s.c.l, s.c.h, s.c.n⟩, s.w⟩) ?_
       refine Pl.cutL (fun W => Below w.heap.size w W ∧ Bx W (w.heap.size + 1) (scs ⟨s.a, s.b, ⟨s.c.p, s.c.c, s.c.l, s.c.h, s.c.n⟩, s.w⟩)) ⟨?_, ?_⟩ ?_
       · exact Bl.puts HT.out.low (Nat.le_succ _) _
       · exact HT.out.r.puts 0 (scs ⟨s.a, s.b, ⟨s.c.p, s.c.c, s.c.l, s.c.h, s.c.n⟩, s.w⟩) (by simp)
       rintro W ⟨hlow, hbox⟩
       have HLO := hid hlow
       have HBX := hid hbox
       clear hlow hbox))
  have hl := loadS HBX.out
  exact bodyPost_ret (v := (.agg #[.int .u16 (⟨s.a, s.b, s.c.put 7 b, s.w⟩ : Sd).a.p, .int .u16 (⟨s.a, s.b, s.c.put 7 b, s.w⟩ : Sd).a.c, .int .u8 (⟨s.a, s.b, s.c.put 7 b, s.w⟩ : Sd).a.l, .bool (⟨s.a, s.b, s.c.put 7 b, s.w⟩ : Sd).a.h, .int .u16 (⟨s.a, s.b, s.c.put 7 b, s.w⟩ : Sd).a.n, .int .u16 (⟨s.a, s.b, s.c.put 7 b, s.w⟩ : Sd).b.p, .int .u16 (⟨s.a, s.b, s.c.put 7 b, s.w⟩ : Sd).b.c, .int .u8 (⟨s.a, s.b, s.c.put 7 b, s.w⟩ : Sd).b.l, .bool (⟨s.a, s.b, s.c.put 7 b, s.w⟩ : Sd).b.h, .int .u16 (⟨s.a, s.b, s.c.put 7 b, s.w⟩ : Sd).b.n, .int .u16 (⟨s.a, s.b, s.c.put 7 b, s.w⟩ : Sd).c.p, .int .u16 (⟨s.a, s.b, s.c.put 7 b, s.w⟩ : Sd).c.c, .int .u8 (⟨s.a, s.b, s.c.put 7 b, s.w⟩ : Sd).c.l, .bool (⟨s.a, s.b, s.c.put 7 b, s.w⟩ : Sd).c.h, .int .u16 (⟨s.a, s.b, s.c.put 7 b, s.w⟩ : Sd).c.n, .int .i64 (⟨s.a, s.b, s.c.put 7 b, s.w⟩ : Sd).w])) (by simp only [results, Try.results43]; simp; exact hl) rfl ⟨rfl, HLO.out⟩
end Go.Proofs.Ythooknikfachnaa
