/-
  Package bus: the ports of the sound.
-/
import Derived.Test.YthidfdebmjmopaaBusI
import Derived.Test.YthidfdebmjmopaaBusL2
import Derived.Test.YthidfdebmjmopaaBusT
import Derived.Test.YthidfdebmjmopaaBusS
import Derived.Deep.RegionHeld3
import Derived.Test.YthidfdebmjmopaaTonQ
namespace Go.Proofs.Ythidfdebmjmopaa
open Go.ChangeShapes Go.WideShapes Go.ChangeAt Go.RowKit
set_option linter.unusedVariables false
set_option maxRecDepth 100000

section
variable {F : Fx} {W : World} {M M' : Mach} {tk : Int}
theorem Vc.put_ok {v : Vc} (h : v.ok) (k : Nat) (b : Int) (hb : 0 ≤ b ∧ b ≤ 255) : (v.put k b).ok := by
  obtain ⟨h1, h2, h3, h4⟩ := h
  unfold Vc.put
  split
  · exact ⟨by show 0 ≤ b * 256 + v.p % 256 ∧ b * 256 + v.p % 256 ≤ 65535; omega, h2, h3, h4⟩
  · split
    · exact ⟨by show 0 ≤ v.p / 256 * 256 + b ∧ v.p / 256 * 256 + b ≤ 65535; omega, h2, h3, h4⟩
    · split
      · exact ⟨h1, h2, by show 0 ≤ b % 16 ∧ b % 16 ≤ 255; omega, h4⟩
      · split
        · exact ⟨h1, h2, h3, by show 0 ≤ b * 256 + v.n % 256 ∧ b * 256 + v.n % 256 ≤ 65535; omega⟩
        · split
          · exact ⟨h1, h2, h3, by show 0 ≤ v.n / 256 * 256 + b ∧ v.n / 256 * 256 + b ≤ 65535; omega⟩
          · exact ⟨h1, h2, h3, h4⟩
theorem Sd.put_ok {s : Sd} (h : s.ok) (k : Nat) (b : Int) (hb : 0 ≤ b ∧ b ≤ 255) : (s.put k b).ok := by
  unfold Sd.put
  split
  · exact ⟨Vc.put_ok h.a _ _ hb, h.b, h.c⟩
  · split
    · exact ⟨h.a, Vc.put_ok h.b _ _ hb, h.c⟩
    · exact ⟨h.a, h.b, Vc.put_ok h.c _ _ hb⟩
theorem Sd.put_w (s : Sd) (k : Nat) (b : Int) : (s.put k b).w = s.w := by
  unfold Sd.put
  split
  · rfl
  · split <;> rfl
/-- The sound's cells. -/
theorem Bd.snd (h : Bd F W M tk) : W.cell? ⟨F.g, 45, none⟩ = some (.int .u16 M.s.a.p) ∧ W.cell? ⟨F.g, 46, none⟩ = some (.int .u16 M.s.a.c) ∧ W.cell? ⟨F.g, 47, none⟩ = some (.int .u8 M.s.a.l) ∧ W.cell? ⟨F.g, 48, none⟩ = some (.bool M.s.a.h) ∧ W.cell? ⟨F.g, 49, none⟩ = some (.int .u16 M.s.a.n) ∧ W.cell? ⟨F.g, 50, none⟩ = some (.int .u16 M.s.b.p) ∧ W.cell? ⟨F.g, 51, none⟩ = some (.int .u16 M.s.b.c) ∧ W.cell? ⟨F.g, 52, none⟩ = some (.int .u8 M.s.b.l) ∧ W.cell? ⟨F.g, 53, none⟩ = some (.bool M.s.b.h) ∧ W.cell? ⟨F.g, 54, none⟩ = some (.int .u16 M.s.b.n) ∧ W.cell? ⟨F.g, 55, none⟩ = some (.int .u16 M.s.c.p) ∧ W.cell? ⟨F.g, 56, none⟩ = some (.int .u16 M.s.c.c) ∧ W.cell? ⟨F.g, 57, none⟩ = some (.int .u8 M.s.c.l) ∧ W.cell? ⟨F.g, 58, none⟩ = some (.bool M.s.c.h) ∧ W.cell? ⟨F.g, 59, none⟩ = some (.int .u16 M.s.c.n) ∧ W.cell? ⟨F.g, 60, none⟩ = some (.int .i64 M.s.w) ∧ (∀ o, W.frozen? ⟨F.g, o, none⟩ = false) ∧ F.g < W.heap.size :=
  ⟨h.at 45 _ rfl, h.at 46 _ rfl, h.at 47 _ rfl, h.at 48 _ rfl, h.at 49 _ rfl, h.at 50 _ rfl, h.at 51 _ rfl, h.at 52 _ rfl, h.at 53 _ rfl, h.at 54 _ rfl, h.at 55 _ rfl, h.at 56 _ rfl, h.at 57 _ rfl, h.at 58 _ rfl, h.at 59 _ rfl, h.at 60 _ rfl, h.bx.f, h.bx.z⟩
theorem Bd.sndR (h : Bd F W M tk) : W.rangeAt F.g 45 (sndL M.s) := fun i v hi => by
  have hl := (List.getElem?_eq_some_iff.1 hi).1
  obtain ⟨d0, d1, d2, d3, d4, d5, d6, d7, d8, d9, da, db, dc, dd, de, df, _, _⟩ := h.snd
  have hc : i = 0 ∨ i = 1 ∨ i = 2 ∨ i = 3 ∨ i = 4 ∨ i = 5 ∨ i = 6 ∨ i = 7 ∨ i = 8 ∨ i = 9 ∨ i = 10 ∨ i = 11 ∨ i = 12 ∨ i = 13 ∨ i = 14 ∨ i = 15 := by simp [sndL] at hl; omega
  rcases hc with rfl | rfl | rfl | rfl | rfl | rfl | rfl | rfl | rfl | rfl | rfl | rfl | rfl | rfl | rfl | rfl <;> (cases hi; assumption)
set_option maxHeartbeats 1600000 in
theorem Bu.sound_w (h : Bd F W M tk) (k : Nat) (hk : k < 24) (n : Int) (hn : 0 ≤ n ∧ n ≤ 255) : Calls Try.prog 89 #[.int .u8 n, pt (F.E.sb k) 0, pt (F.E.sa k) 0] W fun e w' => e = .returned (.tuple #[]) ∧ Bd F w' { M with s := M.s.put k n } tk ∧ Bt F W w' := by
  have hg := h.bx.z
  obtain ⟨y1, e1⟩ := h.env _ _ (.sb k hk)
  obtain ⟨y2, e2⟩ := h.env _ _ (.sa k hk)
  have hs := h.fit.s
  have hn1 : F.E.sb k ≠ F.g := fun e => h.nd.env _ _ (.sb k hk) (Or.inl e)
  have hn2 : F.E.sa k ≠ F.g := fun e => h.nd.env _ _ (.sa k hk) (Or.inl e)
  have H := hid h
  clear h
  go_enter Try.func89, Try.ntmps89
  go_wp2
  refine wp_region_held_drew (S := fun w' => w'.cell? ⟨F.E.sb k, 0, none⟩ = some (pt F.g 0) ∧ w'.cell? ⟨F.E.sa k, 0, none⟩ = some (.int .i64 k)) (by kernel_rfl) ⟨e1, e2⟩ ?_
  intro hS
  refine wpAnyH_take (i := 0) (oi := { dst := some 5, op := _, type := _, pos := _, after := _, guard := none }) (v := ?_) rfl (by kernel_rfl) (by kernel_rfl) (by kernel_rfl) (fun _ _ _ h => h) (Or.inl ⟨by rfl, ?_⟩) hS ?_
  rotate_left 1
  focus (intro w hSw; (try dsimp only at hSw); go_simp; try (with_reducible rfl))
  simp only [Act.put, List.setIfInBounds_toArray, List.set_cons_zero, List.set_cons_succ]
  refine wpAnyH_take (i := 1) (oi := { dst := some 6, op := _, type := _, pos := _, after := _, guard := none }) (v := ?_) rfl (by kernel_rfl) (by kernel_rfl) (by kernel_rfl) (fun _ _ _ h => h) (Or.inl ⟨by rfl, ?_⟩) hS ?_
  rotate_left 1
  focus (intro w hSw; (try dsimp only at hSw); go_simp; try (with_reducible rfl))
  simp only [Act.put, List.setIfInBounds_toArray, List.set_cons_zero, List.set_cons_succ]
  refine wpAnyH_take (i := 2) (oi := { dst := some 7, op := _, type := _, pos := _, after := _, guard := none }) (v := ?_) rfl (by kernel_rfl) (by kernel_rfl) (by kernel_rfl) (fun _ _ _ h => h) (Or.inl ⟨by rfl, ?_⟩) hS ?_
  rotate_left 1
  focus (intro w hSw; (try dsimp only at hSw); go_simp; try (with_reducible rfl))
  simp only [Act.put, List.setIfInBounds_toArray, List.set_cons_zero, List.set_cons_succ]
  refine wpAnyH_take (i := 3) (oi := { dst := some 8, op := _, type := _, pos := _, after := _, guard := none }) (v := ?_) rfl (by kernel_rfl) (by kernel_rfl) (by kernel_rfl) (fun _ _ _ h => h) (Or.inl ⟨by rfl, ?_⟩) hS ?_
  rotate_left 1
  focus (intro w hSw; (try dsimp only at hSw); go_simp; try (with_reducible rfl))
  simp only [Act.put, List.setIfInBounds_toArray, List.set_cons_zero, List.set_cons_succ]
  refine wpAnyH_take (i := 4) (oi := { dst := some 9, op := _, type := _, pos := _, after := _, guard := none }) (v := ?_) rfl (by kernel_rfl) (by kernel_rfl) (by kernel_rfl) (fun _ _ _ h => h) (Or.inl ⟨by rfl, ?_⟩) hS ?_
  rotate_left 1
  focus (intro w hSw; (try dsimp only at hSw); go_simp; try (with_reducible rfl))
  simp only [Act.put, List.setIfInBounds_toArray, List.set_cons_zero, List.set_cons_succ]
  refine wpAnyH_take (i := 6) (oi := { dst := some 11, op := _, type := _, pos := _, after := _, guard := none }) (v := ?_) rfl (by kernel_rfl) (by kernel_rfl) (by kernel_rfl) (fun _ _ _ h => h) (Or.inl ⟨by rfl, ?_⟩) hS ?_
  rotate_left 1
  focus (intro w hSw; (try dsimp only at hSw); go_simp; try (with_reducible rfl))
  simp only [Act.put, List.setIfInBounds_toArray, List.set_cons_zero, List.set_cons_succ]
  refine wpAnyH_take (i := 7) (oi := { dst := some 12, op := _, type := _, pos := _, after := _, guard := none }) (v := ?_) rfl (by kernel_rfl) (by kernel_rfl) (by kernel_rfl) (fun _ _ _ h => h) (Or.inl ⟨by rfl, ?_⟩) hS ?_
  rotate_left 1
  focus (intro w hSw; (try dsimp only at hSw); go_simp; try (with_reducible rfl))
  simp only [Act.put, List.setIfInBounds_toArray, List.set_cons_zero, List.set_cons_succ]
  refine wpAnyH_ready (rs := [5]) (by kernel_rfl) (by simp) ?_
  refine AllReadyH.cons (o := { dst := some 10, op := _, type := _, pos := _, after := _, guard := none }) rfl (fun K hK => ?_) AllReadyH.nil
  refine step_load_mid rfl 36 _ rfl F.g 45 rfl (sndL M.s) _ H.out.drew.sndR Try.underlying36 rfl info_sound ?_
  refine hK.out _ _ hS (fun _ => ?_)
  clear hK K
  simp only [Act.put, List.setIfInBounds_toArray, List.set_cons_zero, List.set_cons_succ]
  refine wpAnyH_ready (rs := [8]) (by kernel_rfl) (by simp) ?_
  refine AllReadyH.cons (o := { dst := some 13, op := _, type := _, pos := _, after := _, guard := none }) rfl (fun K hK => ?_) AllReadyH.nil
  unfold sndL
  go_simp
  go_at_call 90
  refine (put_any M.s k n _ hk hs hn).mono ?_
  rintro e w1 ⟨rfl, hb1⟩
  try go_wp2_with fail
  have HB1 := hid (H.out.drew.kept hb1)
  refine hK.out _ _ ⟨(HB1.out.env _ _ (.sb k hk)).2, (HB1.out.env _ _ (.sa k hk)).2⟩ (fun hS' => ?_)
  clear hK K hS
  have hS := hS'
  clear hS'
  try simp only [Act.put, List.setIfInBounds_toArray, List.set_cons_zero, List.set_cons_succ]
  refine wpAnyH_take (i := 9) (oi := { dst := some 4, op := _, type := _, pos := _, after := _, guard := none }) (v := ?_) rfl (by kernel_rfl) (by kernel_rfl) (by kernel_rfl) (fun _ _ _ h => h) (Or.inl ⟨by rfl, ?_⟩) hS ?_
  rotate_left 1
  focus (intro w hSw; (try dsimp only at hSw); go_simp; try (with_reducible rfl))
  simp only [Act.put, List.setIfInBounds_toArray, List.set_cons_zero, List.set_cons_succ]
  refine wpAnyH_take (i := 10) (oi := { dst := some 14, op := _, type := _, pos := _, after := _, guard := none }) (v := ?_) rfl (by kernel_rfl) (by kernel_rfl) (by kernel_rfl) (fun _ _ _ h => h) (Or.inl ⟨by rfl, ?_⟩) hS ?_
  rotate_left 1
  focus (intro w hSw; (try dsimp only at hSw); go_simp; try (with_reducible rfl))
  simp only [Act.put, List.setIfInBounds_toArray, List.set_cons_zero, List.set_cons_succ]
  refine wpAnyH_take (i := 11) (oi := { dst := some 15, op := _, type := _, pos := _, after := _, guard := none }) (v := ?_) rfl (by kernel_rfl) (by kernel_rfl) (by kernel_rfl) (fun _ _ _ h => h) (Or.inl ⟨by rfl, ?_⟩) hS ?_
  rotate_left 1
  focus (intro w hSw; (try dsimp only at hSw); go_simp; try (with_reducible rfl))
  simp only [Act.put, List.setIfInBounds_toArray, List.set_cons_zero, List.set_cons_succ]
  refine wpAnyH_take (i := 12) (oi := { dst := some 16, op := _, type := _, pos := _, after := _, guard := none }) (v := ?_) rfl (by kernel_rfl) (by kernel_rfl) (by kernel_rfl) (fun _ _ _ h => h) (Or.inl ⟨by rfl, ?_⟩) hS ?_
  rotate_left 1
  focus (intro w hSw; (try dsimp only at hSw); go_simp; try (with_reducible rfl))
  simp only [Act.put, List.setIfInBounds_toArray, List.set_cons_zero, List.set_cons_succ]
  refine wpAnyH_take (i := 13) (oi := { dst := some 17, op := _, type := _, pos := _, after := _, guard := none }) (v := ?_) rfl (by kernel_rfl) (by kernel_rfl) (by kernel_rfl) (fun _ _ _ h => h) (Or.inl ⟨by rfl, ?_⟩) hS ?_
  rotate_left 1
  focus (intro w hSw; (try dsimp only at hSw); go_simp; try (with_reducible rfl))
  simp only [Act.put, List.setIfInBounds_toArray, List.set_cons_zero, List.set_cons_succ]
  refine wpAnyH_take (i := 14) (oi := { dst := some 18, op := _, type := _, pos := _, after := _, guard := none }) (v := ?_) rfl (by kernel_rfl) (by kernel_rfl) (by kernel_rfl) (fun _ _ _ h => h) (Or.inl ⟨by rfl, ?_⟩) hS ?_
  rotate_left 1
  focus (intro w hSw; (try dsimp only at hSw); go_simp; try (with_reducible rfl))
  simp only [Act.put, List.setIfInBounds_toArray, List.set_cons_zero, List.set_cons_succ]
  refine wpAnyH_ready (rs := [15]) (by kernel_rfl) (by simp) ?_
  refine AllReadyH.cons (o := { dst := none, op := _, type := _, pos := _, after := _, guard := none }) rfl (fun K hK => ?_) AllReadyH.nil
  refine step_store_mid rfl 36 _ _ rfl F.g 45 (sndL (M.s.put k n)).toArray rfl rfl (Bx.there HB1.out.bx 45 16 (by rw [Fx.len]; omega)) info_sound (all16 (M.s.put k n)) ?_
  refine hK.out _ _ ⟨(World.cell?_of_block (heap_sets_far hn1 _ _ _)).trans hS.1, (World.cell?_of_block (heap_sets_far hn2 _ _ _)).trans hS.2⟩ (fun _ => ?_)
  clear hK K
  refine wpAnyH_done (by kernel_rfl) ?_ _
  have hf : Mach.fit { M with s := M.s.put k n } := Mach.fit.of H.out.fit { H.out.fit with main := H.out.fit.main, s := Sd.put_ok H.out.fit.s k n hn } ⟨rfl, rfl, rfl, rfl, rfl⟩ (Sd.put_w _ _ _) ⟨rfl, rfl, rfl⟩ ⟨rfl, rfl⟩ (Or.inl rfl)
  have hp := HB1.out.puts (M' := { M with s := M.s.put k n }) (tk' := tk) 45 (sndL (M.s.put k n)) (by simp [sndL]) (F.putSnd M tk _) ⟨rfl, rfl, rfl, rfl, rfl⟩ hf
  have ht := Bt.sets H.out.nd (sndL (M.s.put k n)) 45 _ (Bt.below H.out (stp (st0 W).drew hb1))
  refine Pl.cutE (fun Y => Bd F Y { M with s := M.s.put k n } tk ∧ Bt F W Y) ⟨hp, ht⟩ ?_
  rintro Y ⟨hY1, hY2⟩
  have HY1 := hid hY1
  have HY2 := hid hY2
  clear hY1 hY2 hp ht hS hf
  go_wp2
  go_end0
  exact ⟨rfl, HY1.out, HY2.out⟩
end
end Go.Proofs.Ythidfdebmjmopaa
