/-
  The reference on what is put to a port of a voice.
-/
import Derived.Test.YthooknikfachnaaTonH
namespace Go.Proofs.Ythooknikfachnaa
open Go.ChangeShapes Go.WideShapes Go.ChangeAt Go.RowKit
set_option linter.unusedVariables false
set_option maxRecDepth 100000

set_option maxRecDepth 100000 in
set_option maxHeartbeats 3200000 in
theorem rput_0 (s : Sd) (b : Int) (w : World) (h : s.ok) (hb : 0 ≤ b ∧ b ≤ 255) :
    Calls Try.prog 43 #[(.agg #[.int .u16 s.a.p, .int .u16 s.a.c, .int .u8 s.a.l, .bool s.a.h, .int .u16 s.a.n, .int .u16 s.b.p, .int .u16 s.b.c, .int .u8 s.b.l, .bool s.b.h, .int .u16 s.b.n, .int .u16 s.c.p, .int .u16 s.c.c, .int .u8 s.c.l, .bool s.c.h, .int .u16 s.c.n, .int .i64 s.w]), .int .i64 0, .int .u8 b] w fun e w' => e = .returned (.agg #[.int .u16 (⟨s.a.put 0 b, s.b, s.c, s.w⟩ : Sd).a.p, .int .u16 (⟨s.a.put 0 b, s.b, s.c, s.w⟩ : Sd).a.c, .int .u8 (⟨s.a.put 0 b, s.b, s.c, s.w⟩ : Sd).a.l, .bool (⟨s.a.put 0 b, s.b, s.c, s.w⟩ : Sd).a.h, .int .u16 (⟨s.a.put 0 b, s.b, s.c, s.w⟩ : Sd).a.n, .int .u16 (⟨s.a.put 0 b, s.b, s.c, s.w⟩ : Sd).b.p, .int .u16 (⟨s.a.put 0 b, s.b, s.c, s.w⟩ : Sd).b.c, .int .u8 (⟨s.a.put 0 b, s.b, s.c, s.w⟩ : Sd).b.l, .bool (⟨s.a.put 0 b, s.b, s.c, s.w⟩ : Sd).b.h, .int .u16 (⟨s.a.put 0 b, s.b, s.c, s.w⟩ : Sd).b.n, .int .u16 (⟨s.a.put 0 b, s.b, s.c, s.w⟩ : Sd).c.p, .int .u16 (⟨s.a.put 0 b, s.b, s.c, s.w⟩ : Sd).c.c, .int .u8 (⟨s.a.put 0 b, s.b, s.c, s.w⟩ : Sd).c.l, .bool (⟨s.a.put 0 b, s.b, s.c, s.w⟩ : Sd).c.h, .int .u16 (⟨s.a.put 0 b, s.b, s.c, s.w⟩ : Sd).c.n, .int .i64 (⟨s.a.put 0 b, s.b, s.c, s.w⟩ : Sd).w]) ∧ Below w.heap.size w w' := by
  have hp := h.a.p
  have hn := h.a.n
  have ed : ∀ z : Int, 0 ≤ z → z.tdiv 256 = z / 256 := fun z hz => Int.tdiv_eq_ediv_of_nonneg hz
  have ed1 := ed _ hp.1
  have ed2 := ed _ hn.1
  have em : b.tmod 16 = b % 16 := Int.tmod_eq_emod_of_nonneg hb.1
  have em1 : IntKind.u8.wrap (b % 16) = b % 16 := by rw [IntKind.wrap_u8]; omega
  have ew1 : IntKind.u16.wrap (s.a.p / 256) = s.a.p / 256 := by rw [IntKind.wrap_u16]; omega
  have ew2 : IntKind.u16.wrap (s.a.p / 256 * 256) = s.a.p / 256 * 256 := by rw [IntKind.wrap_u16]; omega
  have ew3 : IntKind.u16.wrap (s.a.p / 256 * 256 + b) = s.a.p / 256 * 256 + b := by rw [IntKind.wrap_u16]; omega
  have ew4 : IntKind.u16.wrap (s.a.n / 256) = s.a.n / 256 := by rw [IntKind.wrap_u16]; omega
  have ew5 : IntKind.u16.wrap (s.a.n / 256 * 256) = s.a.n / 256 * 256 := by rw [IntKind.wrap_u16]; omega
  have ew6 : IntKind.u16.wrap (s.a.n / 256 * 256 + b) = s.a.n / 256 * 256 + b := by rw [IntKind.wrap_u16]; omega
  clear ed
  have ec : ∀ z : Int, z % 256 + b * 256 = b * 256 + z % 256 := fun z => Int.add_comm _ _
  go_enter Try.func43, Try.ntmps43
  go_upto_region 1 with fail
  refine Pl.cutW (SmW w s [] (.slice none 0 0)) (SmW.two w s) ?_
  intro W hW
  have HW := hid hW
  obtain ⟨c0, c1, c2, c3, c4, tz, tf⟩ := hW.b.w0
  clear hW
  go_upto_region 15 with fail
  refine Pl.cutW (SmW w ⟨⟨b * 256 + s.a.p % 256, s.a.c, s.a.l, s.a.h, s.a.n⟩, s.b, s.c, s.w⟩ [] (.slice none 0 0)) ((HW.out.v0 ⟨b * 256 + s.a.p % 256, s.a.c, s.a.l, s.a.h, s.a.n⟩).over _) ?_
  clear c0 c1 c2 c3 c4 tz tf HW
  intro W hT
  have HT := hid hT
  clear hT
  go_wp2_with (first
    | (refine wpList_load_mid rfl 36 _ rfl w.heap.size 0 rfl (scs ⟨⟨b * 256 + s.a.p % 256, s.a.c, s.a.l, s.a.h, s.a.n⟩, s.b, s.c, s.w⟩) _ HT.out.b.c Try.underlying36 rfl info_sound ?_)
    | (refine wpList_store_mid rfl 36 _ _ rfl (w.heap.size + 1) 0 _ rfl rfl (there16 HT.out.r) info_sound (all16 ⟨⟨b * 256 + s.a.p % 256, s.a.c, s.a.l, s.a.h, s.a.n⟩, s.b, s.c, s.w⟩) ?_
       refine Pl.cutL (fun W => Below w.heap.size w W ∧ Bx W (w.heap.size + 1) (scs ⟨⟨b * 256 + s.a.p % 256, s.a.c, s.a.l, s.a.h, s.a.n⟩, s.b, s.c, s.w⟩)) ⟨?_, ?_⟩ ?_
       · exact Bl.puts HT.out.low (Nat.le_succ _) _
       · exact HT.out.r.puts 0 (scs ⟨⟨b * 256 + s.a.p % 256, s.a.c, s.a.l, s.a.h, s.a.n⟩, s.b, s.c, s.w⟩) (by simp)
       rintro W ⟨hlow, hbox⟩
       have HLO := hid hlow
       have HBX := hid hbox
       clear hlow hbox))
  have hl := loadS HBX.out
  exact bodyPost_ret (v := (.agg #[.int .u16 (⟨s.a.put 0 b, s.b, s.c, s.w⟩ : Sd).a.p, .int .u16 (⟨s.a.put 0 b, s.b, s.c, s.w⟩ : Sd).a.c, .int .u8 (⟨s.a.put 0 b, s.b, s.c, s.w⟩ : Sd).a.l, .bool (⟨s.a.put 0 b, s.b, s.c, s.w⟩ : Sd).a.h, .int .u16 (⟨s.a.put 0 b, s.b, s.c, s.w⟩ : Sd).a.n, .int .u16 (⟨s.a.put 0 b, s.b, s.c, s.w⟩ : Sd).b.p, .int .u16 (⟨s.a.put 0 b, s.b, s.c, s.w⟩ : Sd).b.c, .int .u8 (⟨s.a.put 0 b, s.b, s.c, s.w⟩ : Sd).b.l, .bool (⟨s.a.put 0 b, s.b, s.c, s.w⟩ : Sd).b.h, .int .u16 (⟨s.a.put 0 b, s.b, s.c, s.w⟩ : Sd).b.n, .int .u16 (⟨s.a.put 0 b, s.b, s.c, s.w⟩ : Sd).c.p, .int .u16 (⟨s.a.put 0 b, s.b, s.c, s.w⟩ : Sd).c.c, .int .u8 (⟨s.a.put 0 b, s.b, s.c, s.w⟩ : Sd).c.l, .bool (⟨s.a.put 0 b, s.b, s.c, s.w⟩ : Sd).c.h, .int .u16 (⟨s.a.put 0 b, s.b, s.c, s.w⟩ : Sd).c.n, .int .i64 (⟨s.a.put 0 b, s.b, s.c, s.w⟩ : Sd).w])) (by simp only [results, Try.results43]; simp; exact hl) rfl ⟨rfl, HLO.out⟩

set_option maxRecDepth 100000 in
set_option maxHeartbeats 3200000 in
theorem rput_1 (s : Sd) (b : Int) (w : World) (h : s.ok) (hb : 0 ≤ b ∧ b ≤ 255) :
    Calls Try.prog 43 #[(.agg #[.int .u16 s.a.p, .int .u16 s.a.c, .int .u8 s.a.l, .bool s.a.h, .int .u16 s.a.n, .int .u16 s.b.p, .int .u16 s.b.c, .int .u8 s.b.l, .bool s.b.h, .int .u16 s.b.n, .int .u16 s.c.p, .int .u16 s.c.c, .int .u8 s.c.l, .bool s.c.h, .int .u16 s.c.n, .int .i64 s.w]), .int .i64 1, .int .u8 b] w fun e w' => e = .returned (.agg #[.int .u16 (⟨s.a.put 1 b, s.b, s.c, s.w⟩ : Sd).a.p, .int .u16 (⟨s.a.put 1 b, s.b, s.c, s.w⟩ : Sd).a.c, .int .u8 (⟨s.a.put 1 b, s.b, s.c, s.w⟩ : Sd).a.l, .bool (⟨s.a.put 1 b, s.b, s.c, s.w⟩ : Sd).a.h, .int .u16 (⟨s.a.put 1 b, s.b, s.c, s.w⟩ : Sd).a.n, .int .u16 (⟨s.a.put 1 b, s.b, s.c, s.w⟩ : Sd).b.p, .int .u16 (⟨s.a.put 1 b, s.b, s.c, s.w⟩ : Sd).b.c, .int .u8 (⟨s.a.put 1 b, s.b, s.c, s.w⟩ : Sd).b.l, .bool (⟨s.a.put 1 b, s.b, s.c, s.w⟩ : Sd).b.h, .int .u16 (⟨s.a.put 1 b, s.b, s.c, s.w⟩ : Sd).b.n, .int .u16 (⟨s.a.put 1 b, s.b, s.c, s.w⟩ : Sd).c.p, .int .u16 (⟨s.a.put 1 b, s.b, s.c, s.w⟩ : Sd).c.c, .int .u8 (⟨s.a.put 1 b, s.b, s.c, s.w⟩ : Sd).c.l, .bool (⟨s.a.put 1 b, s.b, s.c, s.w⟩ : Sd).c.h, .int .u16 (⟨s.a.put 1 b, s.b, s.c, s.w⟩ : Sd).c.n, .int .i64 (⟨s.a.put 1 b, s.b, s.c, s.w⟩ : Sd).w]) ∧ Below w.heap.size w w' := by
  have hp := h.a.p
  have hn := h.a.n
  have ed : ∀ z : Int, 0 ≤ z → z.tdiv 256 = z / 256 := fun z hz => Int.tdiv_eq_ediv_of_nonneg hz
  have ed1 := ed _ hp.1
  have ed2 := ed _ hn.1
  have em : b.tmod 16 = b % 16 := Int.tmod_eq_emod_of_nonneg hb.1
  have em1 : IntKind.u8.wrap (b % 16) = b % 16 := by rw [IntKind.wrap_u8]; omega
  have ew1 : IntKind.u16.wrap (s.a.p / 256) = s.a.p / 256 := by rw [IntKind.wrap_u16]; omega
  have ew2 : IntKind.u16.wrap (s.a.p / 256 * 256) = s.a.p / 256 * 256 := by rw [IntKind.wrap_u16]; omega
  have ew3 : IntKind.u16.wrap (s.a.p / 256 * 256 + b) = s.a.p / 256 * 256 + b := by rw [IntKind.wrap_u16]; omega
  have ew4 : IntKind.u16.wrap (s.a.n / 256) = s.a.n / 256 := by rw [IntKind.wrap_u16]; omega
  have ew5 : IntKind.u16.wrap (s.a.n / 256 * 256) = s.a.n / 256 * 256 := by rw [IntKind.wrap_u16]; omega
  have ew6 : IntKind.u16.wrap (s.a.n / 256 * 256 + b) = s.a.n / 256 * 256 + b := by rw [IntKind.wrap_u16]; omega
  clear ed
  have ec : ∀ z : Int, z % 256 + b * 256 = b * 256 + z % 256 := fun z => Int.add_comm _ _
  go_enter Try.func43, Try.ntmps43
  go_upto_region 1 with fail
  refine Pl.cutW (SmW w s [] (.slice none 0 0)) (SmW.two w s) ?_
  intro W hW
  have HW := hid hW
  obtain ⟨c0, c1, c2, c3, c4, tz, tf⟩ := hW.b.w0
  clear hW
  go_upto_region 15 with fail
  refine Pl.cutW (SmW w ⟨⟨s.a.p / 256 * 256 + b, s.a.c, s.a.l, s.a.h, s.a.n⟩, s.b, s.c, s.w⟩ [] (.slice none 0 0)) ((HW.out.v0 ⟨s.a.p / 256 * 256 + b, s.a.c, s.a.l, s.a.h, s.a.n⟩).over _) ?_
  clear c0 c1 c2 c3 c4 tz tf HW
  intro W hT
  have HT := hid hT
  clear hT
  go_wp2_with (first
    | (refine wpList_load_mid rfl 36 _ rfl w.heap.size 0 rfl (scs ⟨⟨s.a.p / 256 * 256 + b, s.a.c, s.a.l, s.a.h, s.a.n⟩, s.b, s.c, s.w⟩) _ HT.out.b.c Try.underlying36 rfl info_sound ?_)
    | (refine wpList_store_mid rfl 36 _ _ rfl (w.heap.size + 1) 0 _ rfl rfl (there16 HT.out.r) info_sound (all16 ⟨⟨s.a.p / 256 * 256 + b, s.a.c, s.a.l, s.a.h, s.a.n⟩, s.b, s.c, s.w⟩) ?_
       refine Pl.cutL (fun W => Below w.heap.size w W ∧ Bx W (w.heap.size + 1) (scs ⟨⟨s.a.p / 256 * 256 + b, s.a.c, s.a.l, s.a.h, s.a.n⟩, s.b, s.c, s.w⟩)) ⟨?_, ?_⟩ ?_
       · exact Bl.puts HT.out.low (Nat.le_succ _) _
       · exact HT.out.r.puts 0 (scs ⟨⟨s.a.p / 256 * 256 + b, s.a.c, s.a.l, s.a.h, s.a.n⟩, s.b, s.c, s.w⟩) (by simp)
       rintro W ⟨hlow, hbox⟩
       have HLO := hid hlow
       have HBX := hid hbox
       clear hlow hbox))
  have hl := loadS HBX.out
  exact bodyPost_ret (v := (.agg #[.int .u16 (⟨s.a.put 1 b, s.b, s.c, s.w⟩ : Sd).a.p, .int .u16 (⟨s.a.put 1 b, s.b, s.c, s.w⟩ : Sd).a.c, .int .u8 (⟨s.a.put 1 b, s.b, s.c, s.w⟩ : Sd).a.l, .bool (⟨s.a.put 1 b, s.b, s.c, s.w⟩ : Sd).a.h, .int .u16 (⟨s.a.put 1 b, s.b, s.c, s.w⟩ : Sd).a.n, .int .u16 (⟨s.a.put 1 b, s.b, s.c, s.w⟩ : Sd).b.p, .int .u16 (⟨s.a.put 1 b, s.b, s.c, s.w⟩ : Sd).b.c, .int .u8 (⟨s.a.put 1 b, s.b, s.c, s.w⟩ : Sd).b.l, .bool (⟨s.a.put 1 b, s.b, s.c, s.w⟩ : Sd).b.h, .int .u16 (⟨s.a.put 1 b, s.b, s.c, s.w⟩ : Sd).b.n, .int .u16 (⟨s.a.put 1 b, s.b, s.c, s.w⟩ : Sd).c.p, .int .u16 (⟨s.a.put 1 b, s.b, s.c, s.w⟩ : Sd).c.c, .int .u8 (⟨s.a.put 1 b, s.b, s.c, s.w⟩ : Sd).c.l, .bool (⟨s.a.put 1 b, s.b, s.c, s.w⟩ : Sd).c.h, .int .u16 (⟨s.a.put 1 b, s.b, s.c, s.w⟩ : Sd).c.n, .int .i64 (⟨s.a.put 1 b, s.b, s.c, s.w⟩ : Sd).w])) (by simp only [results, Try.results43]; simp; exact hl) rfl ⟨rfl, HLO.out⟩

set_option maxRecDepth 100000 in
set_option maxHeartbeats 3200000 in
theorem rput_2 (s : Sd) (b : Int) (w : World) (h : s.ok) (hb : 0 ≤ b ∧ b ≤ 255) :
    Calls Try.prog 43 #[(.agg #[.int .u16 s.a.p, .int .u16 s.a.c, .int .u8 s.a.l, .bool s.a.h, .int .u16 s.a.n, .int .u16 s.b.p, .int .u16 s.b.c, .int .u8 s.b.l, .bool s.b.h, .int .u16 s.b.n, .int .u16 s.c.p, .int .u16 s.c.c, .int .u8 s.c.l, .bool s.c.h, .int .u16 s.c.n, .int .i64 s.w]), .int .i64 2, .int .u8 b] w fun e w' => e = .returned (.agg #[.int .u16 (⟨s.a.put 2 b, s.b, s.c, s.w⟩ : Sd).a.p, .int .u16 (⟨s.a.put 2 b, s.b, s.c, s.w⟩ : Sd).a.c, .int .u8 (⟨s.a.put 2 b, s.b, s.c, s.w⟩ : Sd).a.l, .bool (⟨s.a.put 2 b, s.b, s.c, s.w⟩ : Sd).a.h, .int .u16 (⟨s.a.put 2 b, s.b, s.c, s.w⟩ : Sd).a.n, .int .u16 (⟨s.a.put 2 b, s.b, s.c, s.w⟩ : Sd).b.p, .int .u16 (⟨s.a.put 2 b, s.b, s.c, s.w⟩ : Sd).b.c, .int .u8 (⟨s.a.put 2 b, s.b, s.c, s.w⟩ : Sd).b.l, .bool (⟨s.a.put 2 b, s.b, s.c, s.w⟩ : Sd).b.h, .int .u16 (⟨s.a.put 2 b, s.b, s.c, s.w⟩ : Sd).b.n, .int .u16 (⟨s.a.put 2 b, s.b, s.c, s.w⟩ : Sd).c.p, .int .u16 (⟨s.a.put 2 b, s.b, s.c, s.w⟩ : Sd).c.c, .int .u8 (⟨s.a.put 2 b, s.b, s.c, s.w⟩ : Sd).c.l, .bool (⟨s.a.put 2 b, s.b, s.c, s.w⟩ : Sd).c.h, .int .u16 (⟨s.a.put 2 b, s.b, s.c, s.w⟩ : Sd).c.n, .int .i64 (⟨s.a.put 2 b, s.b, s.c, s.w⟩ : Sd).w]) ∧ Below w.heap.size w w' := by
  have hp := h.a.p
  have hn := h.a.n
  have ed : ∀ z : Int, 0 ≤ z → z.tdiv 256 = z / 256 := fun z hz => Int.tdiv_eq_ediv_of_nonneg hz
  have ed1 := ed _ hp.1
  have ed2 := ed _ hn.1
  have em : b.tmod 16 = b % 16 := Int.tmod_eq_emod_of_nonneg hb.1
  have em1 : IntKind.u8.wrap (b % 16) = b % 16 := by rw [IntKind.wrap_u8]; omega
  have ew1 : IntKind.u16.wrap (s.a.p / 256) = s.a.p / 256 := by rw [IntKind.wrap_u16]; omega
  have ew2 : IntKind.u16.wrap (s.a.p / 256 * 256) = s.a.p / 256 * 256 := by rw [IntKind.wrap_u16]; omega
  have ew3 : IntKind.u16.wrap (s.a.p / 256 * 256 + b) = s.a.p / 256 * 256 + b := by rw [IntKind.wrap_u16]; omega
  have ew4 : IntKind.u16.wrap (s.a.n / 256) = s.a.n / 256 := by rw [IntKind.wrap_u16]; omega
  have ew5 : IntKind.u16.wrap (s.a.n / 256 * 256) = s.a.n / 256 * 256 := by rw [IntKind.wrap_u16]; omega
  have ew6 : IntKind.u16.wrap (s.a.n / 256 * 256 + b) = s.a.n / 256 * 256 + b := by rw [IntKind.wrap_u16]; omega
  clear ed
  have ec : ∀ z : Int, z % 256 + b * 256 = b * 256 + z % 256 := fun z => Int.add_comm _ _
  go_enter Try.func43, Try.ntmps43
  go_upto_region 1 with fail
  refine Pl.cutW (SmW w s [] (.slice none 0 0)) (SmW.two w s) ?_
  intro W hW
  have HW := hid hW
  obtain ⟨c0, c1, c2, c3, c4, tz, tf⟩ := hW.b.w0
  clear hW
  go_upto_region 15 with fail
  refine Pl.cutW (SmW w ⟨⟨s.a.p, s.a.c, b % 16, s.a.h, s.a.n⟩, s.b, s.c, s.w⟩ [] (.slice none 0 0)) ((HW.out.v0 ⟨s.a.p, s.a.c, b % 16, s.a.h, s.a.n⟩).over _) ?_
  clear c0 c1 c2 c3 c4 tz tf HW
  intro W hT
  have HT := hid hT
  clear hT
  go_wp2_with (first
    | (refine wpList_load_mid rfl 36 _ rfl w.heap.size 0 rfl (scs ⟨⟨s.a.p, s.a.c, b % 16, s.a.h, s.a.n⟩, s.b, s.c, s.w⟩) _ HT.out.b.c Try.underlying36 rfl info_sound ?_)
    | (refine wpList_store_mid rfl 36 _ _ rfl (w.heap.size + 1) 0 _ rfl rfl (there16 HT.out.r) info_sound (all16 ⟨⟨s.a.p, s.a.c, b % 16, s.a.h, s.a.n⟩, s.b, s.c, s.w⟩) ?_
       refine Pl.cutL (fun W => Below w.heap.size w W ∧ Bx W (w.heap.size + 1) (scs ⟨⟨s.a.p, s.a.c, b % 16, s.a.h, s.a.n⟩, s.b, s.c, s.w⟩)) ⟨?_, ?_⟩ ?_
       · exact Bl.puts HT.out.low (Nat.le_succ _) _
       · exact HT.out.r.puts 0 (scs ⟨⟨s.a.p, s.a.c, b % 16, s.a.h, s.a.n⟩, s.b, s.c, s.w⟩) (by simp)
       rintro W ⟨hlow, hbox⟩
       have HLO := hid hlow
       have HBX := hid hbox
       clear hlow hbox))
  have hl := loadS HBX.out
  exact bodyPost_ret (v := (.agg #[.int .u16 (⟨s.a.put 2 b, s.b, s.c, s.w⟩ : Sd).a.p, .int .u16 (⟨s.a.put 2 b, s.b, s.c, s.w⟩ : Sd).a.c, .int .u8 (⟨s.a.put 2 b, s.b, s.c, s.w⟩ : Sd).a.l, .bool (⟨s.a.put 2 b, s.b, s.c, s.w⟩ : Sd).a.h, .int .u16 (⟨s.a.put 2 b, s.b, s.c, s.w⟩ : Sd).a.n, .int .u16 (⟨s.a.put 2 b, s.b, s.c, s.w⟩ : Sd).b.p, .int .u16 (⟨s.a.put 2 b, s.b, s.c, s.w⟩ : Sd).b.c, .int .u8 (⟨s.a.put 2 b, s.b, s.c, s.w⟩ : Sd).b.l, .bool (⟨s.a.put 2 b, s.b, s.c, s.w⟩ : Sd).b.h, .int .u16 (⟨s.a.put 2 b, s.b, s.c, s.w⟩ : Sd).b.n, .int .u16 (⟨s.a.put 2 b, s.b, s.c, s.w⟩ : Sd).c.p, .int .u16 (⟨s.a.put 2 b, s.b, s.c, s.w⟩ : Sd).c.c, .int .u8 (⟨s.a.put 2 b, s.b, s.c, s.w⟩ : Sd).c.l, .bool (⟨s.a.put 2 b, s.b, s.c, s.w⟩ : Sd).c.h, .int .u16 (⟨s.a.put 2 b, s.b, s.c, s.w⟩ : Sd).c.n, .int .i64 (⟨s.a.put 2 b, s.b, s.c, s.w⟩ : Sd).w])) (by simp only [results, Try.results43]; simp; exact hl) rfl ⟨rfl, HLO.out⟩

set_option maxRecDepth 100000 in
set_option maxHeartbeats 3200000 in
theorem rput_3 (s : Sd) (b : Int) (w : World) (h : s.ok) (hb : 0 ≤ b ∧ b ≤ 255) :
    Calls Try.prog 43 #[(.agg #[.int .u16 s.a.p, .int .u16 s.a.c, .int .u8 s.a.l, .bool s.a.h, .int .u16 s.a.n, .int .u16 s.b.p, .int .u16 s.b.c, .int .u8 s.b.l, .bool s.b.h, .int .u16 s.b.n, .int .u16 s.c.p, .int .u16 s.c.c, .int .u8 s.c.l, .bool s.c.h, .int .u16 s.c.n, .int .i64 s.w]), .int .i64 3, .int .u8 b] w fun e w' => e = .returned (.agg #[.int .u16 (⟨s.a.put 3 b, s.b, s.c, s.w⟩ : Sd).a.p, .int .u16 (⟨s.a.put 3 b, s.b, s.c, s.w⟩ : Sd).a.c, .int .u8 (⟨s.a.put 3 b, s.b, s.c, s.w⟩ : Sd).a.l, .bool (⟨s.a.put 3 b, s.b, s.c, s.w⟩ : Sd).a.h, .int .u16 (⟨s.a.put 3 b, s.b, s.c, s.w⟩ : Sd).a.n, .int .u16 (⟨s.a.put 3 b, s.b, s.c, s.w⟩ : Sd).b.p, .int .u16 (⟨s.a.put 3 b, s.b, s.c, s.w⟩ : Sd).b.c, .int .u8 (⟨s.a.put 3 b, s.b, s.c, s.w⟩ : Sd).b.l, .bool (⟨s.a.put 3 b, s.b, s.c, s.w⟩ : Sd).b.h, .int .u16 (⟨s.a.put 3 b, s.b, s.c, s.w⟩ : Sd).b.n, .int .u16 (⟨s.a.put 3 b, s.b, s.c, s.w⟩ : Sd).c.p, .int .u16 (⟨s.a.put 3 b, s.b, s.c, s.w⟩ : Sd).c.c, .int .u8 (⟨s.a.put 3 b, s.b, s.c, s.w⟩ : Sd).c.l, .bool (⟨s.a.put 3 b, s.b, s.c, s.w⟩ : Sd).c.h, .int .u16 (⟨s.a.put 3 b, s.b, s.c, s.w⟩ : Sd).c.n, .int .i64 (⟨s.a.put 3 b, s.b, s.c, s.w⟩ : Sd).w]) ∧ Below w.heap.size w w' := by
  have hp := h.a.p
  have hn := h.a.n
  have ed : ∀ z : Int, 0 ≤ z → z.tdiv 256 = z / 256 := fun z hz => Int.tdiv_eq_ediv_of_nonneg hz
  have ed1 := ed _ hp.1
  have ed2 := ed _ hn.1
  have em : b.tmod 16 = b % 16 := Int.tmod_eq_emod_of_nonneg hb.1
  have em1 : IntKind.u8.wrap (b % 16) = b % 16 := by rw [IntKind.wrap_u8]; omega
  have ew1 : IntKind.u16.wrap (s.a.p / 256) = s.a.p / 256 := by rw [IntKind.wrap_u16]; omega
  have ew2 : IntKind.u16.wrap (s.a.p / 256 * 256) = s.a.p / 256 * 256 := by rw [IntKind.wrap_u16]; omega
  have ew3 : IntKind.u16.wrap (s.a.p / 256 * 256 + b) = s.a.p / 256 * 256 + b := by rw [IntKind.wrap_u16]; omega
  have ew4 : IntKind.u16.wrap (s.a.n / 256) = s.a.n / 256 := by rw [IntKind.wrap_u16]; omega
  have ew5 : IntKind.u16.wrap (s.a.n / 256 * 256) = s.a.n / 256 * 256 := by rw [IntKind.wrap_u16]; omega
  have ew6 : IntKind.u16.wrap (s.a.n / 256 * 256 + b) = s.a.n / 256 * 256 + b := by rw [IntKind.wrap_u16]; omega
  clear ed
  have ec : ∀ z : Int, z % 256 + b * 256 = b * 256 + z % 256 := fun z => Int.add_comm _ _
  go_enter Try.func43, Try.ntmps43
  go_upto_region 1 with fail
  refine Pl.cutW (SmW w s [] (.slice none 0 0)) (SmW.two w s) ?_
  intro W hW
  have HW := hid hW
  obtain ⟨c0, c1, c2, c3, c4, tz, tf⟩ := hW.b.w0
  clear hW
  go_upto_region 15 with fail
  refine Pl.cutW (SmW w ⟨⟨s.a.p, s.a.c, s.a.l, s.a.h, b * 256 + s.a.n % 256⟩, s.b, s.c, s.w⟩ [] (.slice none 0 0)) ((HW.out.v0 ⟨s.a.p, s.a.c, s.a.l, s.a.h, b * 256 + s.a.n % 256⟩).over _) ?_
  clear c0 c1 c2 c3 c4 tz tf HW
  intro W hT
  have HT := hid hT
  clear hT
  go_wp2_with (first
    | (refine wpList_load_mid rfl 36 _ rfl w.heap.size 0 rfl (scs ⟨⟨s.a.p, s.a.c, s.a.l, s.a.h, b * 256 + s.a.n % 256⟩, s.b, s.c, s.w⟩) _ HT.out.b.c Try.underlying36 rfl info_sound ?_)
    | (refine wpList_store_mid rfl 36 _ _ rfl (w.heap.size + 1) 0 _ rfl rfl (there16 HT.out.r) info_sound (all16 ⟨⟨s.a.p, s.a.c, s.a.l, s.a.h, b * 256 + s.a.n % 256⟩, s.b, s.c, s.w⟩) ?_
       refine Pl.cutL (fun W => Below w.heap.size w W ∧ Bx W (w.heap.size + 1) (scs ⟨⟨s.a.p, s.a.c, s.a.l, s.a.h, b * 256 + s.a.n % 256⟩, s.b, s.c, s.w⟩)) ⟨?_, ?_⟩ ?_
       · exact Bl.puts HT.out.low (Nat.le_succ _) _
       · exact HT.out.r.puts 0 (scs ⟨⟨s.a.p, s.a.c, s.a.l, s.a.h, b * 256 + s.a.n % 256⟩, s.b, s.c, s.w⟩) (by simp)
       rintro W ⟨hlow, hbox⟩
       have HLO := hid hlow
       have HBX := hid hbox
       clear hlow hbox))
  have hl := loadS HBX.out
  exact bodyPost_ret (v := (.agg #[.int .u16 (⟨s.a.put 3 b, s.b, s.c, s.w⟩ : Sd).a.p, .int .u16 (⟨s.a.put 3 b, s.b, s.c, s.w⟩ : Sd).a.c, .int .u8 (⟨s.a.put 3 b, s.b, s.c, s.w⟩ : Sd).a.l, .bool (⟨s.a.put 3 b, s.b, s.c, s.w⟩ : Sd).a.h, .int .u16 (⟨s.a.put 3 b, s.b, s.c, s.w⟩ : Sd).a.n, .int .u16 (⟨s.a.put 3 b, s.b, s.c, s.w⟩ : Sd).b.p, .int .u16 (⟨s.a.put 3 b, s.b, s.c, s.w⟩ : Sd).b.c, .int .u8 (⟨s.a.put 3 b, s.b, s.c, s.w⟩ : Sd).b.l, .bool (⟨s.a.put 3 b, s.b, s.c, s.w⟩ : Sd).b.h, .int .u16 (⟨s.a.put 3 b, s.b, s.c, s.w⟩ : Sd).b.n, .int .u16 (⟨s.a.put 3 b, s.b, s.c, s.w⟩ : Sd).c.p, .int .u16 (⟨s.a.put 3 b, s.b, s.c, s.w⟩ : Sd).c.c, .int .u8 (⟨s.a.put 3 b, s.b, s.c, s.w⟩ : Sd).c.l, .bool (⟨s.a.put 3 b, s.b, s.c, s.w⟩ : Sd).c.h, .int .u16 (⟨s.a.put 3 b, s.b, s.c, s.w⟩ : Sd).c.n, .int .i64 (⟨s.a.put 3 b, s.b, s.c, s.w⟩ : Sd).w])) (by simp only [results, Try.results43]; simp; exact hl) rfl ⟨rfl, HLO.out⟩

set_option maxRecDepth 100000 in
set_option maxHeartbeats 3200000 in
theorem rput_4 (s : Sd) (b : Int) (w : World) (h : s.ok) (hb : 0 ≤ b ∧ b ≤ 255) :
    Calls Try.prog 43 #[(.agg #[.int .u16 s.a.p, .int .u16 s.a.c, .int .u8 s.a.l, .bool s.a.h, .int .u16 s.a.n, .int .u16 s.b.p, .int .u16 s.b.c, .int .u8 s.b.l, .bool s.b.h, .int .u16 s.b.n, .int .u16 s.c.p, .int .u16 s.c.c, .int .u8 s.c.l, .bool s.c.h, .int .u16 s.c.n, .int .i64 s.w]), .int .i64 4, .int .u8 b] w fun e w' => e = .returned (.agg #[.int .u16 (⟨s.a.put 4 b, s.b, s.c, s.w⟩ : Sd).a.p, .int .u16 (⟨s.a.put 4 b, s.b, s.c, s.w⟩ : Sd).a.c, .int .u8 (⟨s.a.put 4 b, s.b, s.c, s.w⟩ : Sd).a.l, .bool (⟨s.a.put 4 b, s.b, s.c, s.w⟩ : Sd).a.h, .int .u16 (⟨s.a.put 4 b, s.b, s.c, s.w⟩ : Sd).a.n, .int .u16 (⟨s.a.put 4 b, s.b, s.c, s.w⟩ : Sd).b.p, .int .u16 (⟨s.a.put 4 b, s.b, s.c, s.w⟩ : Sd).b.c, .int .u8 (⟨s.a.put 4 b, s.b, s.c, s.w⟩ : Sd).b.l, .bool (⟨s.a.put 4 b, s.b, s.c, s.w⟩ : Sd).b.h, .int .u16 (⟨s.a.put 4 b, s.b, s.c, s.w⟩ : Sd).b.n, .int .u16 (⟨s.a.put 4 b, s.b, s.c, s.w⟩ : Sd).c.p, .int .u16 (⟨s.a.put 4 b, s.b, s.c, s.w⟩ : Sd).c.c, .int .u8 (⟨s.a.put 4 b, s.b, s.c, s.w⟩ : Sd).c.l, .bool (⟨s.a.put 4 b, s.b, s.c, s.w⟩ : Sd).c.h, .int .u16 (⟨s.a.put 4 b, s.b, s.c, s.w⟩ : Sd).c.n, .int .i64 (⟨s.a.put 4 b, s.b, s.c, s.w⟩ : Sd).w]) ∧ Below w.heap.size w w' := by
  have hp := h.a.p
  have hn := h.a.n
  have ed : ∀ z : Int, 0 ≤ z → z.tdiv 256 = z / 256 := fun z hz => Int.tdiv_eq_ediv_of_nonneg hz
  have ed1 := ed _ hp.1
  have ed2 := ed _ hn.1
  have em : b.tmod 16 = b % 16 := Int.tmod_eq_emod_of_nonneg hb.1
  have em1 : IntKind.u8.wrap (b % 16) = b % 16 := by rw [IntKind.wrap_u8]; omega
  have ew1 : IntKind.u16.wrap (s.a.p / 256) = s.a.p / 256 := by rw [IntKind.wrap_u16]; omega
  have ew2 : IntKind.u16.wrap (s.a.p / 256 * 256) = s.a.p / 256 * 256 := by rw [IntKind.wrap_u16]; omega
  have ew3 : IntKind.u16.wrap (s.a.p / 256 * 256 + b) = s.a.p / 256 * 256 + b := by rw [IntKind.wrap_u16]; omega
  have ew4 : IntKind.u16.wrap (s.a.n / 256) = s.a.n / 256 := by rw [IntKind.wrap_u16]; omega
  have ew5 : IntKind.u16.wrap (s.a.n / 256 * 256) = s.a.n / 256 * 256 := by rw [IntKind.wrap_u16]; omega
  have ew6 : IntKind.u16.wrap (s.a.n / 256 * 256 + b) = s.a.n / 256 * 256 + b := by rw [IntKind.wrap_u16]; omega
  clear ed
  have ec : ∀ z : Int, z % 256 + b * 256 = b * 256 + z % 256 := fun z => Int.add_comm _ _
  go_enter Try.func43, Try.ntmps43
  go_upto_region 1 with fail
  refine Pl.cutW (SmW w s [] (.slice none 0 0)) (SmW.two w s) ?_
  intro W hW
  have HW := hid hW
  obtain ⟨c0, c1, c2, c3, c4, tz, tf⟩ := hW.b.w0
  clear hW
  go_upto_region 15 with fail
  refine Pl.cutW (SmW w ⟨⟨s.a.p, s.a.c, s.a.l, s.a.h, s.a.n / 256 * 256 + b⟩, s.b, s.c, s.w⟩ [] (.slice none 0 0)) ((HW.out.v0 ⟨s.a.p, s.a.c, s.a.l, s.a.h, s.a.n / 256 * 256 + b⟩).over _) ?_
  clear c0 c1 c2 c3 c4 tz tf HW
  intro W hT
  have HT := hid hT
  clear hT
  go_wp2_with (first
    | (refine wpList_load_mid rfl 36 _ rfl w.heap.size 0 rfl (scs ⟨⟨s.a.p, s.a.c, s.a.l, s.a.h, s.a.n / 256 * 256 + b⟩, s.b, s.c, s.w⟩) _ HT.out.b.c Try.underlying36 rfl info_sound ?_)
    | (refine wpList_store_mid rfl 36 _ _ rfl (w.heap.size + 1) 0 _ rfl rfl (there16 HT.out.r) info_sound (all16 ⟨⟨s.a.p, s.a.c, s.a.l, s.a.h, s.a.n / 256 * 256 + b⟩, s.b, s.c, s.w⟩) ?_
       refine Pl.cutL (fun W => Below w.heap.size w W ∧ Bx W (w.heap.size + 1) (scs ⟨⟨s.a.p, s.a.c, s.a.l, s.a.h, s.a.n / 256 * 256 + b⟩, s.b, s.c, s.w⟩)) ⟨?_, ?_⟩ ?_
       · exact Bl.puts HT.out.low (Nat.le_succ _) _
       · exact HT.out.r.puts 0 (scs ⟨⟨s.a.p, s.a.c, s.a.l, s.a.h, s.a.n / 256 * 256 + b⟩, s.b, s.c, s.w⟩) (by simp)
       rintro W ⟨hlow, hbox⟩
       have HLO := hid hlow
       have HBX := hid hbox
       clear hlow hbox))
  have hl := loadS HBX.out
  exact bodyPost_ret (v := (.agg #[.int .u16 (⟨s.a.put 4 b, s.b, s.c, s.w⟩ : Sd).a.p, .int .u16 (⟨s.a.put 4 b, s.b, s.c, s.w⟩ : Sd).a.c, .int .u8 (⟨s.a.put 4 b, s.b, s.c, s.w⟩ : Sd).a.l, .bool (⟨s.a.put 4 b, s.b, s.c, s.w⟩ : Sd).a.h, .int .u16 (⟨s.a.put 4 b, s.b, s.c, s.w⟩ : Sd).a.n, .int .u16 (⟨s.a.put 4 b, s.b, s.c, s.w⟩ : Sd).b.p, .int .u16 (⟨s.a.put 4 b, s.b, s.c, s.w⟩ : Sd).b.c, .int .u8 (⟨s.a.put 4 b, s.b, s.c, s.w⟩ : Sd).b.l, .bool (⟨s.a.put 4 b, s.b, s.c, s.w⟩ : Sd).b.h, .int .u16 (⟨s.a.put 4 b, s.b, s.c, s.w⟩ : Sd).b.n, .int .u16 (⟨s.a.put 4 b, s.b, s.c, s.w⟩ : Sd).c.p, .int .u16 (⟨s.a.put 4 b, s.b, s.c, s.w⟩ : Sd).c.c, .int .u8 (⟨s.a.put 4 b, s.b, s.c, s.w⟩ : Sd).c.l, .bool (⟨s.a.put 4 b, s.b, s.c, s.w⟩ : Sd).c.h, .int .u16 (⟨s.a.put 4 b, s.b, s.c, s.w⟩ : Sd).c.n, .int .i64 (⟨s.a.put 4 b, s.b, s.c, s.w⟩ : Sd).w])) (by simp only [results, Try.results43]; simp; exact hl) rfl ⟨rfl, HLO.out⟩

set_option maxRecDepth 100000 in
set_option maxHeartbeats 3200000 in
theorem rput_5 (s : Sd) (b : Int) (w : World) (h : s.ok) (hb : 0 ≤ b ∧ b ≤ 255) :
    Calls Try.prog 43 #[(.agg #[.int .u16 s.a.p, .int .u16 s.a.c, .int .u8 s.a.l, .bool s.a.h, .int .u16 s.a.n, .int .u16 s.b.p, .int .u16 s.b.c, .int .u8 s.b.l, .bool s.b.h, .int .u16 s.b.n, .int .u16 s.c.p, .int .u16 s.c.c, .int .u8 s.c.l, .bool s.c.h, .int .u16 s.c.n, .int .i64 s.w]), .int .i64 5, .int .u8 b] w fun e w' => e = .returned (.agg #[.int .u16 (⟨s.a.put 5 b, s.b, s.c, s.w⟩ : Sd).a.p, .int .u16 (⟨s.a.put 5 b, s.b, s.c, s.w⟩ : Sd).a.c, .int .u8 (⟨s.a.put 5 b, s.b, s.c, s.w⟩ : Sd).a.l, .bool (⟨s.a.put 5 b, s.b, s.c, s.w⟩ : Sd).a.h, .int .u16 (⟨s.a.put 5 b, s.b, s.c, s.w⟩ : Sd).a.n, .int .u16 (⟨s.a.put 5 b, s.b, s.c, s.w⟩ : Sd).b.p, .int .u16 (⟨s.a.put 5 b, s.b, s.c, s.w⟩ : Sd).b.c, .int .u8 (⟨s.a.put 5 b, s.b, s.c, s.w⟩ : Sd).b.l, .bool (⟨s.a.put 5 b, s.b, s.c, s.w⟩ : Sd).b.h, .int .u16 (⟨s.a.put 5 b, s.b, s.c, s.w⟩ : Sd).b.n, .int .u16 (⟨s.a.put 5 b, s.b, s.c, s.w⟩ : Sd).c.p, .int .u16 (⟨s.a.put 5 b, s.b, s.c, s.w⟩ : Sd).c.c, .int .u8 (⟨s.a.put 5 b, s.b, s.c, s.w⟩ : Sd).c.l, .bool (⟨s.a.put 5 b, s.b, s.c, s.w⟩ : Sd).c.h, .int .u16 (⟨s.a.put 5 b, s.b, s.c, s.w⟩ : Sd).c.n, .int .i64 (⟨s.a.put 5 b, s.b, s.c, s.w⟩ : Sd).w]) ∧ Below w.heap.size w w' := by
  have hp := h.a.p
  have hn := h.a.n
  have ed : ∀ z : Int, 0 ≤ z → z.tdiv 256 = z / 256 := fun z hz => Int.tdiv_eq_ediv_of_nonneg hz
  have ed1 := ed _ hp.1
  have ed2 := ed _ hn.1
  have em : b.tmod 16 = b % 16 := Int.tmod_eq_emod_of_nonneg hb.1
  have em1 : IntKind.u8.wrap (b % 16) = b % 16 := by rw [IntKind.wrap_u8]; omega
  have ew1 : IntKind.u16.wrap (s.a.p / 256) = s.a.p / 256 := by rw [IntKind.wrap_u16]; omega
  have ew2 : IntKind.u16.wrap (s.a.p / 256 * 256) = s.a.p / 256 * 256 := by rw [IntKind.wrap_u16]; omega
  have ew3 : IntKind.u16.wrap (s.a.p / 256 * 256 + b) = s.a.p / 256 * 256 + b := by rw [IntKind.wrap_u16]; omega
  have ew4 : IntKind.u16.wrap (s.a.n / 256) = s.a.n / 256 := by rw [IntKind.wrap_u16]; omega
  have ew5 : IntKind.u16.wrap (s.a.n / 256 * 256) = s.a.n / 256 * 256 := by rw [IntKind.wrap_u16]; omega
  have ew6 : IntKind.u16.wrap (s.a.n / 256 * 256 + b) = s.a.n / 256 * 256 + b := by rw [IntKind.wrap_u16]; omega
  clear ed
  have ec : ∀ z : Int, z % 256 + b * 256 = b * 256 + z % 256 := fun z => Int.add_comm _ _
  go_enter Try.func43, Try.ntmps43
  go_upto_region 1 with fail
  refine Pl.cutW (SmW w s [] (.slice none 0 0)) (SmW.two w s) ?_
  intro W hW
  have HW := hid hW
  obtain ⟨c0, c1, c2, c3, c4, tz, tf⟩ := hW.b.w0
  clear hW
  go_upto_region 15 with fail
  refine Pl.cutW (SmW w ⟨⟨s.a.p, s.a.c, s.a.l, s.a.h, s.a.n⟩, s.b, s.c, s.w⟩ [] (.slice none 0 0)) ((HW.out.v0 ⟨s.a.p, s.a.c, s.a.l, s.a.h, s.a.n⟩).over _) ?_
  clear c0 c1 c2 c3 c4 tz tf HW
  intro W hT
  have HT := hid hT
  clear hT
  go_wp2_with (first
    | (refine wpList_load_mid rfl 36 _ rfl w.heap.size 0 rfl (scs ⟨⟨s.a.p, s.a.c, s.a.l, s.a.h, s.a.n⟩, s.b, s.c, s.w⟩) _ HT.out.b.c Try.underlying36 rfl info_sound ?_)
    | (refine wpList_store_mid rfl 36 _ _ rfl (w.heap.size + 1) 0 _ rfl rfl (there16 HT.out.r) info_sound (all16 ⟨⟨s.a.p, s.a.c, s.a.l, s.a.h, s.a.n⟩, s.b, s.c, s.w⟩) ?_
       refine Pl.cutL (fun W => Below w.heap.size w W ∧ Bx W (w.heap.size + 1) (scs ⟨⟨s.a.p, s.a.c, s.a.l, s.a.h, s.a.n⟩, s.b, s.c, s.w⟩)) ⟨?_, ?_⟩ ?_
       · exact Bl.puts HT.out.low (Nat.le_succ _) _
       · exact HT.out.r.puts 0 (scs ⟨⟨s.a.p, s.a.c, s.a.l, s.a.h, s.a.n⟩, s.b, s.c, s.w⟩) (by simp)
       rintro W ⟨hlow, hbox⟩
       have HLO := hid hlow
       have HBX := hid hbox
       clear hlow hbox))
  have hl := loadS HBX.out
  exact bodyPost_ret (v := (.agg #[.int .u16 (⟨s.a.put 5 b, s.b, s.c, s.w⟩ : Sd).a.p, .int .u16 (⟨s.a.put 5 b, s.b, s.c, s.w⟩ : Sd).a.c, .int .u8 (⟨s.a.put 5 b, s.b, s.c, s.w⟩ : Sd).a.l, .bool (⟨s.a.put 5 b, s.b, s.c, s.w⟩ : Sd).a.h, .int .u16 (⟨s.a.put 5 b, s.b, s.c, s.w⟩ : Sd).a.n, .int .u16 (⟨s.a.put 5 b, s.b, s.c, s.w⟩ : Sd).b.p, .int .u16 (⟨s.a.put 5 b, s.b, s.c, s.w⟩ : Sd).b.c, .int .u8 (⟨s.a.put 5 b, s.b, s.c, s.w⟩ : Sd).b.l, .bool (⟨s.a.put 5 b, s.b, s.c, s.w⟩ : Sd).b.h, .int .u16 (⟨s.a.put 5 b, s.b, s.c, s.w⟩ : Sd).b.n, .int .u16 (⟨s.a.put 5 b, s.b, s.c, s.w⟩ : Sd).c.p, .int .u16 (⟨s.a.put 5 b, s.b, s.c, s.w⟩ : Sd).c.c, .int .u8 (⟨s.a.put 5 b, s.b, s.c, s.w⟩ : Sd).c.l, .bool (⟨s.a.put 5 b, s.b, s.c, s.w⟩ : Sd).c.h, .int .u16 (⟨s.a.put 5 b, s.b, s.c, s.w⟩ : Sd).c.n, .int .i64 (⟨s.a.put 5 b, s.b, s.c, s.w⟩ : Sd).w])) (by simp only [results, Try.results43]; simp; exact hl) rfl ⟨rfl, HLO.out⟩

set_option maxRecDepth 100000 in
set_option maxHeartbeats 3200000 in
theorem rput_6 (s : Sd) (b : Int) (w : World) (h : s.ok) (hb : 0 ≤ b ∧ b ≤ 255) :
    Calls Try.prog 43 #[(.agg #[.int .u16 s.a.p, .int .u16 s.a.c, .int .u8 s.a.l, .bool s.a.h, .int .u16 s.a.n, .int .u16 s.b.p, .int .u16 s.b.c, .int .u8 s.b.l, .bool s.b.h, .int .u16 s.b.n, .int .u16 s.c.p, .int .u16 s.c.c, .int .u8 s.c.l, .bool s.c.h, .int .u16 s.c.n, .int .i64 s.w]), .int .i64 6, .int .u8 b] w fun e w' => e = .returned (.agg #[.int .u16 (⟨s.a.put 6 b, s.b, s.c, s.w⟩ : Sd).a.p, .int .u16 (⟨s.a.put 6 b, s.b, s.c, s.w⟩ : Sd).a.c, .int .u8 (⟨s.a.put 6 b, s.b, s.c, s.w⟩ : Sd).a.l, .bool (⟨s.a.put 6 b, s.b, s.c, s.w⟩ : Sd).a.h, .int .u16 (⟨s.a.put 6 b, s.b, s.c, s.w⟩ : Sd).a.n, .int .u16 (⟨s.a.put 6 b, s.b, s.c, s.w⟩ : Sd).b.p, .int .u16 (⟨s.a.put 6 b, s.b, s.c, s.w⟩ : Sd).b.c, .int .u8 (⟨s.a.put 6 b, s.b, s.c, s.w⟩ : Sd).b.l, .bool (⟨s.a.put 6 b, s.b, s.c, s.w⟩ : Sd).b.h, .int .u16 (⟨s.a.put 6 b, s.b, s.c, s.w⟩ : Sd).b.n, .int .u16 (⟨s.a.put 6 b, s.b, s.c, s.w⟩ : Sd).c.p, .int .u16 (⟨s.a.put 6 b, s.b, s.c, s.w⟩ : Sd).c.c, .int .u8 (⟨s.a.put 6 b, s.b, s.c, s.w⟩ : Sd).c.l, .bool (⟨s.a.put 6 b, s.b, s.c, s.w⟩ : Sd).c.h, .int .u16 (⟨s.a.put 6 b, s.b, s.c, s.w⟩ : Sd).c.n, .int .i64 (⟨s.a.put 6 b, s.b, s.c, s.w⟩ : Sd).w]) ∧ Below w.heap.size w w' := by
  have hp := h.a.p
  have hn := h.a.n
  have ed : ∀ z : Int, 0 ≤ z → z.tdiv 256 = z / 256 := fun z hz => Int.tdiv_eq_ediv_of_nonneg hz
  have ed1 := ed _ hp.1
  have ed2 := ed _ hn.1
  have em : b.tmod 16 = b % 16 := Int.tmod_eq_emod_of_nonneg hb.1
  have em1 : IntKind.u8.wrap (b % 16) = b % 16 := by rw [IntKind.wrap_u8]; omega
  have ew1 : IntKind.u16.wrap (s.a.p / 256) = s.a.p / 256 := by rw [IntKind.wrap_u16]; omega
  have ew2 : IntKind.u16.wrap (s.a.p / 256 * 256) = s.a.p / 256 * 256 := by rw [IntKind.wrap_u16]; omega
  have ew3 : IntKind.u16.wrap (s.a.p / 256 * 256 + b) = s.a.p / 256 * 256 + b := by rw [IntKind.wrap_u16]; omega
  have ew4 : IntKind.u16.wrap (s.a.n / 256) = s.a.n / 256 := by rw [IntKind.wrap_u16]; omega
  have ew5 : IntKind.u16.wrap (s.a.n / 256 * 256) = s.a.n / 256 * 256 := by rw [IntKind.wrap_u16]; omega
  have ew6 : IntKind.u16.wrap (s.a.n / 256 * 256 + b) = s.a.n / 256 * 256 + b := by rw [IntKind.wrap_u16]; omega
  clear ed
  have ec : ∀ z : Int, z % 256 + b * 256 = b * 256 + z % 256 := fun z => Int.add_comm _ _
  go_enter Try.func43, Try.ntmps43
  go_upto_region 1 with fail
  refine Pl.cutW (SmW w s [] (.slice none 0 0)) (SmW.two w s) ?_
  intro W hW
  have HW := hid hW
  obtain ⟨c0, c1, c2, c3, c4, tz, tf⟩ := hW.b.w0
  clear hW
  go_upto_region 15 with fail
  refine Pl.cutW (SmW w ⟨⟨s.a.p, s.a.c, s.a.l, s.a.h, s.a.n⟩, s.b, s.c, s.w⟩ [] (.slice none 0 0)) ((HW.out.v0 ⟨s.a.p, s.a.c, s.a.l, s.a.h, s.a.n⟩).over _) ?_
  clear c0 c1 c2 c3 c4 tz tf HW
  intro W hT
  have HT := hid hT
  clear hT
  go_wp2_with (first
    | (refine wpList_load_mid rfl 36 _ rfl w.heap.size 0 rfl (scs ⟨⟨s.a.p, s.a.c, s.a.l, s.a.h, s.a.n⟩, s.b, s.c, s.w⟩) _ HT.out.b.c Try.underlying36 rfl info_sound ?_)
    | (refine wpList_store_mid rfl 36 _ _ rfl (w.heap.size + 1) 0 _ rfl rfl (there16 HT.out.r) info_sound (all16 ⟨⟨s.a.p, s.a.c, s.a.l, s.a.h, s.a.n⟩, s.b, s.c, s.w⟩) ?_
       refine Pl.cutL (fun W => Below w.heap.size w W ∧ Bx W (w.heap.size + 1) (scs ⟨⟨s.a.p, s.a.c, s.a.l, s.a.h, s.a.n⟩, s.b, s.c, s.w⟩)) ⟨?_, ?_⟩ ?_
       · exact Bl.puts HT.out.low (Nat.le_succ _) _
       · exact HT.out.r.puts 0 (scs ⟨⟨s.a.p, s.a.c, s.a.l, s.a.h, s.a.n⟩, s.b, s.c, s.w⟩) (by simp)
       rintro W ⟨hlow, hbox⟩
       have HLO := hid hlow
       have HBX := hid hbox
       clear hlow hbox))
  have hl := loadS HBX.out
  exact bodyPost_ret (v := (.agg #[.int .u16 (⟨s.a.put 6 b, s.b, s.c, s.w⟩ : Sd).a.p, .int .u16 (⟨s.a.put 6 b, s.b, s.c, s.w⟩ : Sd).a.c, .int .u8 (⟨s.a.put 6 b, s.b, s.c, s.w⟩ : Sd).a.l, .bool (⟨s.a.put 6 b, s.b, s.c, s.w⟩ : Sd).a.h, .int .u16 (⟨s.a.put 6 b, s.b, s.c, s.w⟩ : Sd).a.n, .int .u16 (⟨s.a.put 6 b, s.b, s.c, s.w⟩ : Sd).b.p, .int .u16 (⟨s.a.put 6 b, s.b, s.c, s.w⟩ : Sd).b.c, .int .u8 (⟨s.a.put 6 b, s.b, s.c, s.w⟩ : Sd).b.l, .bool (⟨s.a.put 6 b, s.b, s.c, s.w⟩ : Sd).b.h, .int .u16 (⟨s.a.put 6 b, s.b, s.c, s.w⟩ : Sd).b.n, .int .u16 (⟨s.a.put 6 b, s.b, s.c, s.w⟩ : Sd).c.p, .int .u16 (⟨s.a.put 6 b, s.b, s.c, s.w⟩ : Sd).c.c, .int .u8 (⟨s.a.put 6 b, s.b, s.c, s.w⟩ : Sd).c.l, .bool (⟨s.a.put 6 b, s.b, s.c, s.w⟩ : Sd).c.h, .int .u16 (⟨s.a.put 6 b, s.b, s.c, s.w⟩ : Sd).c.n, .int .i64 (⟨s.a.put 6 b, s.b, s.c, s.w⟩ : Sd).w])) (by simp only [results, Try.results43]; simp; exact hl) rfl ⟨rfl, HLO.out⟩

set_option maxRecDepth 100000 in
set_option maxHeartbeats 3200000 in
theorem rput_7 (s : Sd) (b : Int) (w : World) (h : s.ok) (hb : 0 ≤ b ∧ b ≤ 255) :
    Calls Try.prog 43 #[(.agg #[.int .u16 s.a.p, .int .u16 s.a.c, .int .u8 s.a.l, .bool s.a.h, .int .u16 s.a.n, .int .u16 s.b.p, .int .u16 s.b.c, .int .u8 s.b.l, .bool s.b.h, .int .u16 s.b.n, .int .u16 s.c.p, .int .u16 s.c.c, .int .u8 s.c.l, .bool s.c.h, .int .u16 s.c.n, .int .i64 s.w]), .int .i64 7, .int .u8 b] w fun e w' => e = .returned (.agg #[.int .u16 (⟨s.a.put 7 b, s.b, s.c, s.w⟩ : Sd).a.p, .int .u16 (⟨s.a.put 7 b, s.b, s.c, s.w⟩ : Sd).a.c, .int .u8 (⟨s.a.put 7 b, s.b, s.c, s.w⟩ : Sd).a.l, .bool (⟨s.a.put 7 b, s.b, s.c, s.w⟩ : Sd).a.h, .int .u16 (⟨s.a.put 7 b, s.b, s.c, s.w⟩ : Sd).a.n, .int .u16 (⟨s.a.put 7 b, s.b, s.c, s.w⟩ : Sd).b.p, .int .u16 (⟨s.a.put 7 b, s.b, s.c, s.w⟩ : Sd).b.c, .int .u8 (⟨s.a.put 7 b, s.b, s.c, s.w⟩ : Sd).b.l, .bool (⟨s.a.put 7 b, s.b, s.c, s.w⟩ : Sd).b.h, .int .u16 (⟨s.a.put 7 b, s.b, s.c, s.w⟩ : Sd).b.n, .int .u16 (⟨s.a.put 7 b, s.b, s.c, s.w⟩ : Sd).c.p, .int .u16 (⟨s.a.put 7 b, s.b, s.c, s.w⟩ : Sd).c.c, .int .u8 (⟨s.a.put 7 b, s.b, s.c, s.w⟩ : Sd).c.l, .bool (⟨s.a.put 7 b, s.b, s.c, s.w⟩ : Sd).c.h, .int .u16 (⟨s.a.put 7 b, s.b, s.c, s.w⟩ : Sd).c.n, .int .i64 (⟨s.a.put 7 b, s.b, s.c, s.w⟩ : Sd).w]) ∧ Below w.heap.size w w' := by
  have hp := h.a.p
  have hn := h.a.n
  have ed : ∀ z : Int, 0 ≤ z → z.tdiv 256 = z / 256 := fun z hz => Int.tdiv_eq_ediv_of_nonneg hz
  have ed1 := ed _ hp.1
  have ed2 := ed _ hn.1
  have em : b.tmod 16 = b % 16 := Int.tmod_eq_emod_of_nonneg hb.1
  have em1 : IntKind.u8.wrap (b % 16) = b % 16 := by rw [IntKind.wrap_u8]; omega
  have ew1 : IntKind.u16.wrap (s.a.p / 256) = s.a.p / 256 := by rw [IntKind.wrap_u16]; omega
  have ew2 : IntKind.u16.wrap (s.a.p / 256 * 256) = s.a.p / 256 * 256 := by rw [IntKind.wrap_u16]; omega
  have ew3 : IntKind.u16.wrap (s.a.p / 256 * 256 + b) = s.a.p / 256 * 256 + b := by rw [IntKind.wrap_u16]; omega
  have ew4 : IntKind.u16.wrap (s.a.n / 256) = s.a.n / 256 := by rw [IntKind.wrap_u16]; omega
  have ew5 : IntKind.u16.wrap (s.a.n / 256 * 256) = s.a.n / 256 * 256 := by rw [IntKind.wrap_u16]; omega
  have ew6 : IntKind.u16.wrap (s.a.n / 256 * 256 + b) = s.a.n / 256 * 256 + b := by rw [IntKind.wrap_u16]; omega
  clear ed
  have ec : ∀ z : Int, z % 256 + b * 256 = b * 256 + z % 256 := fun z => Int.add_comm _ _
  go_enter Try.func43, Try.ntmps43
  go_upto_region 1 with fail
  refine Pl.cutW (SmW w s [] (.slice none 0 0)) (SmW.two w s) ?_
  intro W hW
  have HW := hid hW
  obtain ⟨c0, c1, c2, c3, c4, tz, tf⟩ := hW.b.w0
  clear hW
  go_upto_region 15 with fail
  refine Pl.cutW (SmW w ⟨⟨s.a.p, s.a.c, s.a.l, s.a.h, s.a.n⟩, s.b, s.c, s.w⟩ [] (.slice none 0 0)) ((HW.out.v0 ⟨s.a.p, s.a.c, s.a.l, s.a.h, s.a.n⟩).over _) ?_
  clear c0 c1 c2 c3 c4 tz tf HW
  intro W hT
  have HT := hid hT
  clear hT
  go_wp2_with (first
    | (refine wpList_load_mid rfl 36 _ rfl w.heap.size 0 rfl (scs ⟨⟨s.a.p, s.a.c, s.a.l, s.a.h, s.a.n⟩, s.b, s.c, s.w⟩) _ HT.out.b.c Try.underlying36 rfl info_sound ?_)
    | (refine wpList_store_mid rfl 36 _ _ rfl (w.heap.size + 1) 0 _ rfl rfl (there16 HT.out.r) info_sound (all16 ⟨⟨s.a.p, s.a.c, s.a.l, s.a.h, s.a.n⟩, s.b, s.c, s.w⟩) ?_
       refine Pl.cutL (fun W => Below w.heap.size w W ∧ Bx W (w.heap.size + 1) (scs ⟨⟨s.a.p, s.a.c, s.a.l, s.a.h, s.a.n⟩, s.b, s.c, s.w⟩)) ⟨?_, ?_⟩ ?_
       · exact Bl.puts HT.out.low (Nat.le_succ _) _
       · exact HT.out.r.puts 0 (scs ⟨⟨s.a.p, s.a.c, s.a.l, s.a.h, s.a.n⟩, s.b, s.c, s.w⟩) (by simp)
       rintro W ⟨hlow, hbox⟩
       have HLO := hid hlow
       have HBX := hid hbox
       clear hlow hbox))
  have hl := loadS HBX.out
  exact bodyPost_ret (v := (.agg #[.int .u16 (⟨s.a.put 7 b, s.b, s.c, s.w⟩ : Sd).a.p, .int .u16 (⟨s.a.put 7 b, s.b, s.c, s.w⟩ : Sd).a.c, .int .u8 (⟨s.a.put 7 b, s.b, s.c, s.w⟩ : Sd).a.l, .bool (⟨s.a.put 7 b, s.b, s.c, s.w⟩ : Sd).a.h, .int .u16 (⟨s.a.put 7 b, s.b, s.c, s.w⟩ : Sd).a.n, .int .u16 (⟨s.a.put 7 b, s.b, s.c, s.w⟩ : Sd).b.p, .int .u16 (⟨s.a.put 7 b, s.b, s.c, s.w⟩ : Sd).b.c, .int .u8 (⟨s.a.put 7 b, s.b, s.c, s.w⟩ : Sd).b.l, .bool (⟨s.a.put 7 b, s.b, s.c, s.w⟩ : Sd).b.h, .int .u16 (⟨s.a.put 7 b, s.b, s.c, s.w⟩ : Sd).b.n, .int .u16 (⟨s.a.put 7 b, s.b, s.c, s.w⟩ : Sd).c.p, .int .u16 (⟨s.a.put 7 b, s.b, s.c, s.w⟩ : Sd).c.c, .int .u8 (⟨s.a.put 7 b, s.b, s.c, s.w⟩ : Sd).c.l, .bool (⟨s.a.put 7 b, s.b, s.c, s.w⟩ : Sd).c.h, .int .u16 (⟨s.a.put 7 b, s.b, s.c, s.w⟩ : Sd).c.n, .int .i64 (⟨s.a.put 7 b, s.b, s.c, s.w⟩ : Sd).w])) (by simp only [results, Try.results43]; simp; exact hl) rfl ⟨rfl, HLO.out⟩
end Go.Proofs.Ythooknikfachnaa
