/-
  The reference's Built: a line's words are laid; one line; the loops over the lines and over the uses.
-/
import Derived.Test.YtdjhlfoapieohaaGreatDoorZcD
namespace Go.Proofs.YtdjhlfoapieohaaGreatDoor
open Go.ChangeShapes Go.WideShapes Go.ChangeAt Go.RowKit
set_option linter.unusedVariables false

set_option maxRecDepth 100000 in
set_option maxHeartbeats 1600000 in
theorem secG_many (Q : Exit → Act → World → Prop) (a : Act) (w : World) (ra : Option Addr) (R0 rc : Nat) (v6 : Value) (mp gl n k bi : Nat) (t : S.By) (g c : Nat) (ws : List Int) (nm : S.By) (hS : Se a (.slice ra R0 rc) v6 mp gl n k bi t g c ws nm) (h : 1024 < R0 + 2 * ws.length) (hR0 : R0 ≤ 1024) (hws : ws.length ≤ 10) (hB : Bi w bi k)
    (hR : ∀ a' w', Rt a' k 2 → Below w.heap.size w w' → Q .ret a' w') :
    ((cGo [1, 1, 1, 1, 1, 1, 1, 0, 1, 2, 3, 1, 1, 0, 2, 1, 1, 1, 1, 1, 1, 1, 1, 1, 1, 1, 0] bBody)).wp Tryz.prog Q a w := by
  obtain ⟨⟨⟨sz, df, s5, s6, s7, s8, s52, s53, s54⟩, s9, s10, s11⟩, s19, s20⟩ := hS
  have h1 : (1024 : Int) < R0 + 2 * ws.length := by omega
  have HB := hid hB
  clear hB h
  obtain ⟨f, hf, rfl⟩ := act_open a sz df
  rw [hf] at s5 s6 s7 s8 s52 s53 s54 s9 s10 s11 s19 s20
  clear hf sz df
  rw [s5, s6, s7, s8, s52, s53, s54, s9, s10, s11, s19, s20]
  conv => arg 2; whnf
  go_wp2_with (go_at_call 13; refine (HB.out.fail _).mono ?_; rintro e w4 ⟨rfl, hb4⟩)
  exact hR _ _ ⟨rfl, rfl, rfl, rfl⟩ hb4
set_option maxRecDepth 100000 in
set_option maxHeartbeats 1600000 in
theorem secG_room (Q : Exit → Act → World → Prop) (a : Act) (w : World) (ra : Option Addr) (R0 rc : Nat) (v6 : Value) (mp gl n k bi : Nat) (t : S.By) (g c : Nat) (ws : List Int) (nm : S.By) (hS : Se a (.slice ra R0 rc) v6 mp gl n k bi t g c ws nm) (h : R0 + 2 * ws.length ≤ 1024)
    (hN : ∀ a', Se a' (.slice ra R0 rc) v6 mp gl n k bi t g c ws nm → Q .normal a' w) :
    ((cGo [1, 1, 1, 1, 1, 1, 1, 0, 1, 2, 3, 1, 1, 0, 2, 1, 1, 1, 1, 1, 1, 1, 1, 1, 1, 1, 0] bBody)).wp Tryz.prog Q a w := by
  obtain ⟨⟨⟨sz, df, s5, s6, s7, s8, s52, s53, s54⟩, s9, s10, s11⟩, s19, s20⟩ := hS
  have h1 : ¬ (1024 : Int) < R0 + 2 * ws.length := by omega
  obtain ⟨f, hf, rfl⟩ := act_open a sz df
  rw [hf] at s5 s6 s7 s8 s52 s53 s54 s9 s10 s11 s19 s20
  clear hf sz df
  rw [s5, s6, s7, s8, s52, s53, s54, s9, s10, s11, s19, s20]
  conv => arg 2; whnf
  go_wp2
  exact ⟨⟨⟨rfl, rfl, rfl, rfl, rfl, rfl, rfl, rfl, rfl⟩, rfl, rfl, rfl⟩, rfl, rfl⟩
set_option maxRecDepth 100000 in
set_option maxHeartbeats 1600000 in
theorem secG_plain (Q : Exit → Act → World → Prop) (a : Act) (w : World) (v5 v6 : Value) (mp gl n k bi : Nat) (t : S.By) (g c : Nat) (ws : List Int) (hS : Se a v5 v6 mp gl n k bi t g c ws [])
    (hN : ∀ a', Se a' v5 v6 mp gl n k bi t g c ws [] → Q .normal a' w) :
    ((cGo [1, 1, 1, 1, 1, 1, 1, 0, 1, 2, 3, 1, 1, 0, 2, 1, 1, 1, 1, 1, 1, 1, 1, 1, 1, 1, 1, 0] bBody)).wp Tryz.prog Q a w := by
  obtain ⟨⟨⟨sz, df, s5, s6, s7, s8, s52, s53, s54⟩, s9, s10, s11⟩, s19, s20⟩ := hS
  have he : (mk []).toList.isEmpty = true := mk_empty []
  obtain ⟨f, hf, rfl⟩ := act_open a sz df
  rw [hf] at s5 s6 s7 s8 s52 s53 s54 s9 s10 s11 s19 s20
  clear hf sz df
  rw [s5, s6, s7, s8, s52, s53, s54, s9, s10, s11, s19, s20]
  conv => arg 2; whnf
  go_wp2
  exact ⟨⟨⟨rfl, rfl, rfl, rfl, rfl, rfl, rfl, rfl, rfl⟩, rfl, rfl, rfl⟩, rfl, rfl⟩
theorem info_useR : (Tryz.prog.info? 50).map (fun i => (i.zero, i.size, i.bytes)) = some (some (.agg #[.int .i64 0, .int .i64 0, .string ⟨#[]⟩]), 3, 32) := by kernel_rfl
set_option maxRecDepth 100000 in
set_option maxHeartbeats 1600000 in
theorem secG_lab (Q : Exit → Act → World → Prop) (a : Act) (w w0 : World) (ra : Option Addr) (rc : Nat) (v6 : Value) (mp gl n k bi : Nat) (ls : List S.By) (st : S.St) (t : S.By) (g c : Nat) (ws : List Int) (nm : S.By) (hS : Se a (.slice ra st.rom.length rc) v6 mp gl n k bi t g c ws nm) (hnm : nm ≠ []) (hm : st.rom.length + 2 * ws.length ≤ 1024) (hw0 : 0 < ws.length) (hul : st.uses.length + 1 ≤ 1000000) (hB : Bi w bi k) (hW : BW w0 mp gl ls (.slice ra st.rom.length rc) v6 st w)
    (hN : ∀ a' w' v6', Se a' (.slice ra st.rom.length rc) v6' mp gl n k bi t g c ws nm → BW w0 mp gl ls (.slice ra st.rom.length rc) v6' { st with uses := st.uses ++ [(nm, st.rom.length + 2 * ws.length - 2, k)] } w' → (∀ b, b < w.heap.size → v6.ownBlock ≠ some b → w'.heap[b]? = w.heap[b]?) → w.heap.size ≤ w'.heap.size → Q .normal a' w') :
    ((cGo [1, 1, 1, 1, 1, 1, 1, 0, 1, 2, 3, 1, 1, 0, 2, 1, 1, 1, 1, 1, 1, 1, 1, 1, 1, 1, 1, 0] bBody)).wp Tryz.prog Q a w := by
  obtain ⟨⟨⟨sz, df, s5, s6, s7, s8, s52, s53, s54⟩, s9, s10, s11⟩, s19, s20⟩ := hS
  have he : (mk nm).toList.isEmpty = false := by rw [mk_empty]; cases nm <;> simp_all
  obtain ⟨i1, hj0, hy0, hy1, hy2⟩ := info_parts info_useR
  obtain ⟨M, hM⟩ : ∃ M : Nat, st.rom.length + 2 * ws.length = M + 2 := ⟨st.rom.length + 2 * ws.length - 2, by omega⟩
  have hMI : (st.rom.length : Int) + 2 * (ws.length : Int) - 2 = M := by omega
  have hMe : st.rom.length + 2 * ws.length - 2 = M := by omega
  rw [hMe] at hN
  have bz := hB.z
  have bc := hB.c
  have hbig := hW.big
  have HW := hid hW
  have HROW := hid ((hW.kept (stA (st0 w) (.cells #[.int .i64 k, .int .i64 M, .string (mk nm)] 50))).uses)
  have hr1 : st.rom.length ≤ 1024 := by omega
  have hw1 : ws.length ≤ 512 := by omega
  clear hB hW hnm hMe
  obtain ⟨f, hf, rfl⟩ := act_open a sz df
  rw [hf] at s5 s6 s7 s8 s52 s53 s54 s9 s10 s11 s19 s20
  clear hf sz df
  rw [s5, s6, s7, s8, s52, s53, s54, s9, s10, s11, s19, s20]
  conv => arg 2; whnf
  go_wp2_with (at_builtin; refine wpList_append_lies _ (by rfl) _ _ _ (by rfl) w0.heap.size 50 i1 _ 3 32 Tryz.underlying31 hj0 hy0 hy1 hy2 rfl (by omega) _ st.uses.length _ (by rfl) HROW.out ⟨w.heap.size, 0, none⟩ 1 1 [.int .i64 k, .int .i64 M, .string (mk nm)] (by rfl) (by rfl) (World.news_of_block (cs := #[.int .i64 k, .int .i64 M, .string (mk nm)]) (t := 50) (fr := (0, 0)) (heap_alloc_new w _)) (by simp [Value.oneCell']) (by omega) (by unfold maxLen; omega) (by omega) (by simp; omega) (w.heap.size + 1) (by simp) ?_; intro gg cp w3 hown3 hgrow hat hlt3)
  refine hN _ _ _ ⟨⟨⟨rfl, rfl, rfl, rfl, rfl, rfl, rfl, rfl, rfl⟩, rfl, rfl, rfl⟩, rfl, rfl⟩ ((HW.out.kept (stA (st0 w) _)).put_uses hgrow ?_) ?_ ?_
  · rw [uC_snoc, List.length_append]; exact hown3
  · intro b hb hne
    exact (grown_blk hgrow (by simp; omega) (Ne.symm hne)).trans (heap_alloc_old _ _ hb)
  · have := hgrow.size; simp at this; omega
set_option maxRecDepth 100000 in
set_option maxHeartbeats 1600000 in
theorem secG_94 (Q : Exit → Act → World → Prop) (a : Act) (w : World) (v5 v6 : Value) (mp gl n k bi : Nat) (t : S.By) (g c : Nat) (ws : List Int) (nm : S.By) (hS : Se a v5 v6 mp gl n k bi t g c ws nm)
    (hN : ∀ a', Sl a' v5 v6 mp gl n k → sl a' 340 = .slice (some ⟨g, 0, none⟩) ws.length c → sl a' 341 = .int .i64 ws.length → sl a' 342 = .int .i64 (0 : Nat) → Q .normal a' w) :
    ((cGo [1, 1, 1, 1, 1, 1, 1, 0, 1, 2, 3, 1, 1, 0, 2, 1, 1, 1, 1, 1, 1, 1, 1, 1, 1, 1, 1, 1, 0] bBody)).wp Tryz.prog Q a w := by
  obtain ⟨⟨⟨sz, df, s5, s6, s7, s8, s52, s53, s54⟩, s9, s10, s11⟩, s19, s20⟩ := hS
  obtain ⟨f, hf, rfl⟩ := act_open a sz df
  rw [hf] at s5 s6 s7 s8 s52 s53 s54 s9 s10 s11 s19 s20
  clear hf sz df
  rw [s5, s6, s7, s8, s52, s53, s54, s9, s10, s11, s19, s20]
  conv => arg 2; whnf
  go_wp2
  first | exact hN _ ⟨rfl, rfl, rfl, rfl, rfl, rfl, rfl, rfl, rfl⟩ rfl rfl rfl | exact ⟨rfl, rfl, rfl, rfl, rfl, rfl, rfl, rfl, rfl⟩ | (refine hN _ ⟨rfl, rfl, rfl, rfl, rfl, rfl, rfl, rfl, rfl⟩ ?_ ?_ ?_ <;> rfl)
set_option maxRecDepth 100000 in
set_option maxHeartbeats 1600000 in
theorem secG_x (Q : Exit → Act → World → Prop) (a : Act) (w : World) (v5 v6 : Value) (mp gl n k g c L : Nat) (hS : Sl a v5 v6 mp gl n k) (s340 : sl a 340 = .slice (some ⟨g, 0, none⟩) L c) (s341 : sl a 341 = .int .i64 L) (s342 : sl a 342 = .int .i64 L)
    (hN : ∀ a', Sl a' v5 v6 mp gl n k → Q (.exit 9) a' w) :
    ((cGo [1, 1, 1, 1, 1, 1, 1, 0, 1, 2, 3, 1, 1, 0, 2, 1, 1, 1, 1, 1, 1, 1, 1, 1, 1, 1, 1, 1, 1, 2, 3] bBody)).wp Tryz.prog Q a w := by
  obtain ⟨sz, df, s5, s6, s7, s8, s52, s53, s54⟩ := hS
  obtain ⟨f, hf, rfl⟩ := act_open a sz df
  rw [hf] at s5 s6 s7 s8 s52 s53 s54 s340 s341 s342
  clear hf sz df
  rw [s5, s6, s7, s8, s52, s53, s54, s340, s341, s342]
  conv => arg 2; whnf
  go_wp2
  exact ⟨rfl, rfl, rfl, rfl, rfl, rfl, rfl, rfl, rfl⟩
set_option maxRecDepth 100000 in
set_option maxHeartbeats 1600000 in
theorem secG_r (Q : Exit → Act → World → Prop) (a : Act) (w w0 : World) (ra : Option Addr) (rc : Nat) (v6 : Value) (mp gl n k g c L j : Nat) (ls : List S.By) (st : S.St) (x : Int) (hS : Sl a (.slice ra st.rom.length rc) v6 mp gl n k) (s340 : sl a 340 = .slice (some ⟨g, 0, none⟩) L c) (s341 : sl a 341 = .int .i64 L) (s342 : sl a 342 = .int .i64 j) (hj : j < L) (hL : L ≤ 10) (hx0 : 0 ≤ x) (hx1 : x ≤ 65535) (hg : g < w.heap.size) (hcw : w.cell? ⟨g, j, none⟩ = some (.int .u16 x)) (hne : (Value.slice ra st.rom.length rc).ownBlock ≠ some g) (hm : st.rom.length + 2 ≤ 1024) (hW : BW w0 mp gl ls (.slice ra st.rom.length rc) v6 st w)
    (hN : ∀ a' w' gg cp, Sl a' (.slice (some ⟨gg, 0, none⟩) (st.rom.length + 2) cp) v6 mp gl n k → sl a' 340 = .slice (some ⟨g, 0, none⟩) L c → sl a' 341 = .int .i64 L → sl a' 342 = .int .i64 (j + 1 : Nat) → BW w0 mp gl ls (.slice (some ⟨gg, 0, none⟩) (st.rom.length + 2) cp) v6 { st with rom := st.rom ++ [UInt8.ofNat (x / 256).toNat, UInt8.ofNat (x % 256).toNat] } w' → w'.heap[g]? = w.heap[g]? → w.heap.size ≤ w'.heap.size → gg ≠ g → Q .normal a' w') :
    ((cGo [1, 1, 1, 1, 1, 1, 1, 0, 1, 2, 3, 1, 1, 0, 2, 1, 1, 1, 1, 1, 1, 1, 1, 1, 1, 1, 1, 1, 1, 2, 3] bBody)).wp Tryz.prog Q a w := by
  obtain ⟨sz, df, s5, s6, s7, s8, s52, s53, s54⟩ := hS
  obtain ⟨i0, hi0, hz0, hz1, hz2⟩ := info_parts info_u8
  have hj1 : (j : Int) < L := by omega
  have hj0 : (0 : Int) ≤ j := by omega
  have ht1 : Int.tdiv x 256 = x / 256 := Int.tdiv_eq_ediv_of_nonneg hx0
  have ht2 : Int.tmod x 256 = x % 256 := Int.tmod_eq_emod_of_nonneg hx0
  have hq1 : IntKind.u8.wrap (x / 256) = x / 256 := by rw [IntKind.wrap_u8]; omega
  have hq2 : IntKind.u8.wrap (x % 256) = x % 256 := by rw [IntKind.wrap_u8]; omega
  have hbig := hW.big
  have HW := hid hW
  have HNE := hid hne
  have HROW := hid ((hW.kept (stA (st0 w) (.cells #[.int .u8 (x / 256), .int .u8 (x % 256)] 5))).rom)
  clear hW hne
  obtain ⟨f, hf, rfl⟩ := act_open a sz df
  rw [hf] at s5 s6 s7 s8 s52 s53 s54 s340 s341 s342
  clear hf sz df
  rw [s5, s6, s7, s8, s52, s53, s54, s340, s341, s342]
  conv => arg 2; whnf
  go_wp2_with (at_builtin; refine wpList_append_lies _ (by rfl) _ _ _ (by rfl) w0.heap.size 5 i0 _ 1 1 Tryz.underlying22 hi0 hz0 hz1 hz2 rfl (by omega) _ st.rom.length _ (by rfl) HROW.out ⟨w.heap.size, 0, none⟩ 2 2 [.int .u8 (x / 256), .int .u8 (x % 256)] (by rfl) (by rfl) (World.news_of_block (cs := #[.int .u8 (x / 256), .int .u8 (x % 256)]) (t := 5) (fr := (0, 0)) (heap_alloc_new w _)) (by simp [Value.oneCell']) (by omega) (by unfold maxLen; omega) (by omega) (by simp; omega) (w.heap.size + 1) (by simp) ?_; intro gg cp w3 hown3 hgrow hat hlt3)
  refine hN _ _ gg cp ⟨rfl, rfl, rfl, rfl, rfl, rfl, rfl, rfl, rfl⟩ rfl rfl (by first | rfl | simp) ?_ ?_ ?_ ?_
  · refine (HW.out.kept (stA (st0 w) _)).put_rom hgrow ?_
    rw [← byteCells_append, byte_cells x hx0 hx1, List.length_append]
    exact hown3
  · exact (grown_blk hgrow (by simp; omega) (Ne.symm HNE.out)).trans (heap_alloc_old _ _ hg)
  · have := hgrow.size; simp at this; omega
  · intro e
    rcases hat with h | h
    · rw [e] at h; exact HNE.out h
    · omega
/-- Rows that hold nothing are nowhere. -/
structure Nl (v5 v6 : Value) (st : S.St) : Prop where
  r : st.rom = [] → v5 = .slice none 0 0
  u : st.uses = [] → v6 = .slice none 0 0
theorem words_ne {W : World} {B : Nat} {e : TypeId} {s : Nat} {v : Value} {n : Nat} {xs : List Value} {g : Nat} {ws : List Int} (h : W.ownsRow B e s v n xs) (hw : wordsAt W g ws) (h0 : 0 < ws.length) (hs : 0 < s) (hnil : n = 0 → v = .slice none 0 0) (hx : 0 < n → ∃ u, xs[0]? = some u ∧ ∀ x, u ≠ .int .u16 x) : v.ownBlock ≠ some g := by
  rcases h.2 with ⟨rfl, _⟩ | ⟨g', cap, cur, hv, _⟩
  · simp [Value.ownBlock]
  · by_cases hn : n = 0
    · rw [hnil hn] at hv; simp at hv
    · subst hv
      obtain ⟨u, hu, hne⟩ := hx (by omega)
      have hc := h.cellAt 0 (Nat.mul_pos (by omega) hs)
      intro e
      simp only [Value.ownBlock, Option.some.injEq] at e
      subst e
      rw [hu, hw 0 h0] at hc
      exact hne _ (Option.some.inj hc).symm
theorem rom_words {w0 W : World} {mp gl : Nat} {ls : List S.By} {v5 v6 : Value} {st : S.St} {g : Nat} {ws : List Int} (h : BW w0 mp gl ls v5 v6 st W) (hn : Nl v5 v6 st) (hw : wordsAt W g ws) (h0 : 0 < ws.length) : v5.ownBlock ≠ some g := by
  refine words_ne h.rom hw h0 (by omega) (fun e => hn.r (List.length_eq_zero_iff.1 e)) (fun e => ?_)
  cases hr : st.rom with
  | nil => rw [hr] at e; simp at e
  | cons a r => exact ⟨_, rfl, fun x => by simp⟩
theorem uses_words {w0 W : World} {mp gl : Nat} {ls : List S.By} {v5 v6 : Value} {st : S.St} {g : Nat} {ws : List Int} (h : BW w0 mp gl ls v5 v6 st W) (hn : Nl v5 v6 st) (hw : wordsAt W g ws) (h0 : 0 < ws.length) : v6.ownBlock ≠ some g := by
  refine words_ne h.uses hw h0 (by omega) (fun e => hn.u (List.length_eq_zero_iff.1 e)) (fun e => ?_)
  cases hr : st.uses with
  | nil => rw [hr] at e; simp at e
  | cons a r => exact ⟨_, rfl, fun x => by simp⟩
theorem secG_loop (Q : Exit → Act → World → Prop) (a : Act) (w w0 : World) (v5 v6 : Value) (mp gl n k g c : Nat) (ls : List S.By) (st : S.St) (ws : List Int) (hS : Sl a v5 v6 mp gl n k) (s340 : sl a 340 = .slice (some ⟨g, 0, none⟩) ws.length c) (s341 : sl a 341 = .int .i64 ws.length) (s342 : sl a 342 = .int .i64 (0 : Nat)) (hws : ∀ x ∈ ws, 0 ≤ x ∧ x ≤ 65535) (h0 : 0 < ws.length) (hL : ws.length ≤ 10) (hg : g < w.heap.size) (hw : wordsAt w g ws) (hm : st.rom.length + 2 * ws.length ≤ 1024) (hW : BW w0 mp gl ls v5 v6 st w) (hne : v5.ownBlock ≠ some g)
    (hN : ∀ a' w' v5', Sl a' v5' v6 mp gl n k → BW w0 mp gl ls v5' v6 { st with rom := st.rom ++ S.bytesOf ws } w' → Q .normal a' w') :
    ((cGo [1, 1, 1, 1, 1, 1, 1, 0, 1, 2, 3, 1, 1, 0, 2, 1, 1, 1, 1, 1, 1, 1, 1, 1, 1, 1, 1, 1, 1] bBody)).wp Tryz.prog Q a w := by
  show (Code.block 9 (Code.loop (cGo [1, 1, 1, 1, 1, 1, 1, 0, 1, 2, 3, 1, 1, 0, 2, 1, 1, 1, 1, 1, 1, 1, 1, 1, 1, 1, 1, 1, 1, 2, 3] bBody))).wp Tryz.prog Q a w
  refine wp_block (wp_loop (fun a w => ∃ (j : Nat) (v5' : Value), j ≤ ws.length ∧ Sl a v5' v6 mp gl n k ∧ sl a 340 = .slice (some ⟨g, 0, none⟩) ws.length c ∧ sl a 341 = .int .i64 ws.length ∧ sl a 342 = .int .i64 j ∧ BW w0 mp gl ls v5' v6 { st with rom := st.rom ++ S.bytesOf (ws.take j) } w ∧ wordsAt w g ws ∧ g < w.heap.size ∧ v5'.ownBlock ≠ some g) (μF 342 ws.length) ⟨0, v5, by omega, hS, s340, s341, s342, by simpa [S.bytesOf] using hW, hw, hg, hne⟩ ?_)
  rintro a3 w3 ⟨j, v5', hj, hS3, q340, q341, q342, hW3, hw3, hg3, hne3⟩
  rw [μF_at (M := ws.length) (w := w3) q342]
  by_cases hjl : j < ws.length
  · obtain ⟨x, hx⟩ : ∃ x, ws[j]? = some x := ⟨_, List.getElem?_eq_getElem hjl⟩
    obtain ⟨hx0, hx1⟩ := hws x (List.mem_of_getElem? hx)
    have hcw : w3.cell? ⟨g, j, none⟩ = some (.int .u16 x) := by
      have := hw3 j hjl
      rw [show ws.getD j 0 = x by simp [List.getD, hx]] at this
      exact this
    have hlen : (st.rom ++ S.bytesOf (ws.take j)).length = st.rom.length + 2 * j := by rw [List.length_append, bytesOf_len, List.length_take]; omega
    obtain ⟨ra, rc, rfl⟩ := row_form hW3.rom
    have hst : st.rom ++ S.bytesOf (ws.take (j + 1)) = (st.rom ++ S.bytesOf (ws.take j)) ++ [UInt8.ofNat (x / 256).toNat, UInt8.ofNat (x % 256).toNat] := by rw [bytesOf_step hx, List.append_assoc]
    refine secG_r _ a3 w3 w0 ra rc v6 mp gl n k g c ws.length j ls { st with rom := st.rom ++ S.bytesOf (ws.take j) } x hS3 q340 q341 q342 hjl hL hx0 hx1 hg3 hcw hne3 (by show (st.rom ++ S.bytesOf (ws.take j)).length + 2 ≤ 1024; omega) hW3 (fun a' w' gg cp h1 h2 h3 h4 h5 h6 h7 h8 => ⟨⟨j + 1, _, by omega, h1, h2, h3, h4, ?_, hw3.block h6, Nat.lt_of_lt_of_le hg3 h7, ?_⟩, ?_⟩)
    · rw [hst]; exact h5
    · simpa [Value.ownBlock] using h8
    · rw [μF_at (M := ws.length) (w := w') h4]; omega
  · have hje : j = ws.length := by omega
    subst hje
    rw [List.take_length] at hW3
    exact secG_x _ a3 w3 v5' v6 mp gl n k g c ws.length hS3 q340 q341 q342 (fun a' h => ex_in (hN a' w3 v5' h hW3))
/-- The words of a line are laid. -/
theorem secG (Q : Exit → Act → World → Prop) (a : Act) (w w0 : World) (v5 v6 : Value) (mp gl n k bi : Nat) (ls : List S.By) (st : S.St) (t : S.By) (g c : Nat) (ws : List Int) (nm : S.By) (hS : Se a v5 v6 mp gl n k bi t g c ws nm) (hw : wordsAt w g ws) (hg : g < w.heap.size) (h0 : 0 < ws.length) (hL : ws.length ≤ 10) (hws : ∀ x ∈ ws, 0 ≤ x ∧ x ≤ 65535) (hB : Bi w bi k) (hW : BW w0 mp gl ls v5 v6 st w) (hn : Nl v5 v6 st) (hr : st.rom.length ≤ 1024) (hul : st.uses.length + 1 ≤ 1000000)
    (hN : ∀ a' w' v5' v6' st', S.put ws nm k st = .ok st' → Sl a' v5' v6' mp gl n k → BW w0 mp gl ls v5' v6' st' w' → Nl v5' v6' st' → Q .normal a' w')
    (hR : ∀ a' w', S.put ws nm k st = .error 2 → Rt a' k 2 → Below w.heap.size w w' → Q .ret a' w') :
    ((cGo [1, 1, 1, 1, 1, 1, 1, 0, 1, 2, 3, 1, 1, 0, 2, 1, 1, 1, 1, 1, 1, 1, 1, 1, 1, 1] bBody)).wp Tryz.prog Q a w := by
  show (Code.seq (cGo [1, 1, 1, 1, 1, 1, 1, 0, 1, 2, 3, 1, 1, 0, 2, 1, 1, 1, 1, 1, 1, 1, 1, 1, 1, 1, 0] bBody) (Code.seq (cGo [1, 1, 1, 1, 1, 1, 1, 0, 1, 2, 3, 1, 1, 0, 2, 1, 1, 1, 1, 1, 1, 1, 1, 1, 1, 1, 1, 0] bBody) (Code.seq (cGo [1, 1, 1, 1, 1, 1, 1, 0, 1, 2, 3, 1, 1, 0, 2, 1, 1, 1, 1, 1, 1, 1, 1, 1, 1, 1, 1, 1, 0] bBody) (cGo [1, 1, 1, 1, 1, 1, 1, 0, 1, 2, 3, 1, 1, 0, 2, 1, 1, 1, 1, 1, 1, 1, 1, 1, 1, 1, 1, 1, 1] bBody)))).wp Tryz.prog Q a w
  obtain ⟨ra, rc, rfl⟩ := row_form hW.rom
  by_cases hm : 1024 < st.rom.length + 2 * ws.length
  · refine wp_seq (secG_many _ a w ra st.rom.length rc v6 mp gl n k bi t g c ws nm hS hm hr hL hB (fun a' w' h1 h2 => hR a' w' ?_ h1 h2))
    unfold S.put; rw [if_pos hm]
  · have hnb : ∀ l : S.By, st.rom ++ S.bytesOf ws = l → l ≠ [] := fun l e h => by
      have := congrArg List.length (e.trans h)
      rw [List.length_append, bytesOf_len] at this
      simp at this; omega
    refine wp_seq (secG_room _ a w ra st.rom.length rc v6 mp gl n k bi t g c ws nm hS (by omega) ?_)
    intro a1 hS1
    by_cases hnm : nm = []
    · subst hnm
      refine wp_seq (secG_plain _ a1 w _ v6 mp gl n k bi t g c ws hS1 ?_)
      intro a2 hS2
      refine wp_seq (secG_94 _ a2 w _ v6 mp gl n k bi t g c ws [] hS2 ?_)
      intro a3 hS3 h340 h341 h342
      refine secG_loop Q a3 w w0 _ v6 mp gl n k g c ls st ws hS3 h340 h341 h342 hws h0 hL hg hw (by omega) hW (rom_words hW hn hw h0) ?_
      intro a' w' v5' h1 h2
      refine hN a' w' v5' v6 _ ?_ h1 h2 ⟨fun e => absurd e (hnb _ rfl), hn.u⟩
      unfold S.put; rw [if_neg hm, if_pos rfl]
    · refine wp_seq (secG_lab _ a1 w w0 ra rc v6 mp gl n k bi ls st t g c ws nm hS1 hnm (by omega) h0 hul hB hW ?_)
      intro a2 w2 v6' hS2 hW2 hbl hsz
      have hne6 := uses_words hW hn hw h0
      have hw2 : wordsAt w2 g ws := hw.block (hbl g hg hne6)
      refine wp_seq (secG_94 _ a2 w2 _ v6' mp gl n k bi t g c ws nm hS2 ?_)
      intro a3 hS3 h340 h341 h342
      refine secG_loop Q a3 w2 w0 _ v6' mp gl n k g c ls _ ws hS3 h340 h341 h342 hws h0 hL (Nat.lt_of_lt_of_le hg hsz) hw2 (by show st.rom.length + _ ≤ _; omega) hW2 (rom_words hW hn hw h0) ?_
      intro a' w' v5' h1 h2
      refine hN a' w' v5' v6' _ ?_ h1 h2 ⟨fun e => absurd e (hnb _ rfl), fun e => by simp at e⟩
      unfold S.put; rw [if_neg hm, if_neg hnm]
theorem partsOf_each (r p : S.By) (h : p ∈ S.partsOf r) : p.length ≤ r.length := by
  unfold S.partsOf at h
  split at h
  · simp at h
  · exact splitK_len _ _ _ p h
/-- One line that is not the last. -/
theorem secLine (Q : Exit → Act → World → Prop) (a : Act) (w w0 : World) (v5 v6 : Value) (mp gl n k : Nat) (ls : List S.By) (st : S.St) (t : S.By) (hS : Sl a v5 v6 mp gl n k) (hk : k + 1 < n) (hn10 : n ≤ 10000) (ht : ls[k]? = some t) (htl : t.length ≤ 4000) (hW : BW w0 mp gl ls v5 v6 st w) (hn : Nl v5 v6 st) (hr : st.rom.length ≤ 1024) (hul : st.uses.length + 1 ≤ 1000000) (hF : AF w0) (hE : EF w0) (hA : Facts w0)
    (hN : ∀ a' w' v5' v6' st', S.readLine t k st = .ok st' → Sl a' v5' v6' mp gl n k → BW w0 mp gl ls v5' v6' st' w' → Nl v5' v6' st' → Q .normal a' w')
    (hC : ∀ a' w' v5' v6' st', S.readLine t k st = .ok st' → Sl a' v5' v6' mp gl n k → BW w0 mp gl ls v5' v6' st' w' → Nl v5' v6' st' → Q (.exit 1) a' w')
    (hR : ∀ a' w' e, S.readLine t k st = .error e → Rt a' k e → Below w0.heap.size w0 w' → Q .ret a' w') :
    ((cGo [1, 1, 1, 1, 1, 1, 1, 0, 1, 2, 3, 1, 1, 0, 2] bBody)).wp Tryz.prog Q a w := by
  refine secA_mid Q a w v5 v6 mp gl n k t hS hk hn10 hW.gl_lt (bw_line hW k t ht) ?_
  intro a1 w1 hS1 hw1
  have hb1 : Below w.heap.size w w1 := by rw [hw1]; exact stA (st0 w) _
  have hW1 := hW.kept hb1
  have hB1 : Bi w1 w.heap.size k := by rw [hw1]; exact Bi.new w k
  have hlow : ∀ w', Below w1.heap.size w1 w' → Below w0.heap.size w0 w' := fun w' h => stp hW1.low h
  show (Code.seq (cGo [1, 1, 1, 1, 1, 1, 1, 0, 1, 2, 3, 1, 1, 0, 2, 1, 1, 1, 0] bBody) (cGo [1, 1, 1, 1, 1, 1, 1, 0, 1, 2, 3, 1, 1, 0, 2, 1, 1, 1, 1] bBody)).wp Tryz.prog Q a1 w1
  generalize w.heap.size = bi at *
  cases hs : Lib.hasSuffix t [58] with
  | true =>
    obtain ⟨r, rfl, hrt⟩ := suffix_form hs
    have hrl : S.readLine (r ++ [58]) k st = S.readPlace r st := by unfold S.readLine; rw [hs, hrt]; rfl
    cases hnm : S.nameOk r with
    | false =>
      refine wp_seq (secB_bad _ a1 w1 v5 v6 mp gl n k bi r hS1 (by omega) hnm (hW1.af hF) hB1 (fun a' w' h1 h2 => hR a' w' 1 ?_ h1 (hlow w' h2)))
      rw [hrl]; unfold S.readPlace; rw [hnm]; rfl
    | true =>
      cases hf : st.places.find? (fun p => p.1 == r) with
      | some q =>
        refine wp_seq (secB_twice _ a1 w1 w0 v5 v6 mp gl n k bi ls st r hS1 (by omega) hnm q hf (hW1.af hF) hB1 hW1 (fun a' w' h1 h2 => hR a' w' 6 ?_ h1 (hlow w' h2)))
        rw [hrl]; unfold S.readPlace; rw [hnm, hf]; rfl
      | none =>
        obtain ⟨ra, rc, rfl⟩ := row_form hW1.rom
        refine wp_seq (secB_ok _ a1 w1 w0 ra rc v6 mp gl n k bi ls st r hS1 (by omega) hnm hf (hW1.af hF) hW1 (fun a' w' h1 h2 => hC a' w' _ _ _ ?_ h1 h2 ⟨hn.r, hn.u⟩))
        rw [hrl]; unfold S.readPlace; rw [hnm, hf]; rfl
  | false =>
    refine wp_seq (secB_none _ a1 w1 v5 v6 mp gl n k bi t hS1 (by omega) hs ?_)
    intro a2 hS2
    -- behind the first word
    have key : ∀ (op rest : S.By), (Lib.cut t [32]).1 = op → (Lib.cut t [32]).2.1 = rest → rest.length ≤ 4000 → ∀ a3 w3, Sc a3 v5 v6 mp gl n k bi t op rest (.slice none 0 0) → Below w1.heap.size w1 w3 → ((cGo [1, 1, 1, 1, 1, 1, 1, 0, 1, 2, 3, 1, 1, 0, 2, 1, 1, 1, 1, 1, 1, 1] bBody)).wp Tryz.prog Q a3 w3 := by
      intro op rest hop hrest hrl a3 w3 hS3 hb3
      have hW3 := hW1.kept hb3
      have hB3 := hB1.kept hb3
      show (Code.seq (cGo [1, 1, 1, 1, 1, 1, 1, 0, 1, 2, 3, 1, 1, 0, 2, 1, 1, 1, 1, 1, 1, 1, 0] bBody) (cGo [1, 1, 1, 1, 1, 1, 1, 0, 1, 2, 3, 1, 1, 0, 2, 1, 1, 1, 1, 1, 1, 1, 1] bBody)).wp Tryz.prog Q a3 w3
      refine wp_seq (secD _ a3 w3 v5 v6 mp gl n k bi t op rest hS3 (by omega) (hW3.af hF) ?_)
      intro a4 w4 v17 r4 hS4 hrow4 hb4
      have hW4 := hW3.kept hb4
      have hB4 := hB3.kept hb4
      have hlow4 : ∀ w', Below w4.heap.size w4 w' → Below w0.heap.size w0 w' := fun w' h => stp hW4.low h
      have hpc : ∀ p ∈ S.partsOf rest, p.length ≤ 10000 := fun p hp => by have := partsOf_each rest p hp; omega
      have hpn := partsL rest
      have goG : ∀ (ws : List Int) (nm : S.By), S.readLine t k st = S.put ws nm k st → 0 < ws.length → ws.length ≤ 10 → (∀ x ∈ ws, 0 ≤ x ∧ x ≤ 65535) → ∀ a5 w5 g c, Se a5 v5 v6 mp gl n k bi t g c ws nm → wordsAt w5 g ws → g < w5.heap.size → Below w4.heap.size w4 w5 → ((cGo [1, 1, 1, 1, 1, 1, 1, 0, 1, 2, 3, 1, 1, 0, 2, 1, 1, 1, 1, 1, 1, 1, 1, 1, 1, 1] bBody)).wp Tryz.prog Q a5 w5 := by
        intro ws nm hput h0 h10 hws a5 w5 g c hS5 hw5 hg5 hb5
        refine secG Q a5 w5 w0 v5 v6 mp gl n k bi ls st t g c ws nm hS5 hw5 hg5 h0 h10 hws (hB4.kept hb5) (hW4.kept hb5) hn hr hul ?_ ?_
        · intro a' w' v5' v6' st' h1 h2 h3 h4
          exact hN a' w' v5' v6' st' (hput.trans h1) h2 h3 h4
        · intro a' w' h1 h2 h3
          exact hR a' w' 2 (hput.trans h1) h2 (hlow4 w' (stp hb5 h3))
      by_cases hpl : op = S.plain
      · have hrd : S.readLine t k st = S.readWord (S.partsOf rest) k st := by unfold S.readLine; rw [hs, hop, hrest, if_neg (by simp), if_pos hpl]
        match hps : S.partsOf rest with
        | [p] =>
          rw [hps] at hrow4 hrd hpc
          obtain ⟨g, c, rfl, hc, hg⟩ := row_one hrow4
          have hp := hpc p (by simp)
          cases hnm : S.nameOk p with
          | true =>
            have hwn : S.wordOrName p = some (0, p) := by unfold S.wordOrName; rw [hnm]; rfl
            have hw : S.readLine t k st = S.put [0] p k st := by rw [hrd]; unfold S.readWord; simp only [hwn]; rw [if_neg (by omega)]
            refine secE_name Q a4 w4 v5 v6 mp gl n k bi t op r4 g c p hS4 hpl hg hc hp hB4 (hW4.af hF) (hW4.ef hE) hnm (fun a' w' g' c' h1 h2 h3 h4 => goG [0] p hw (by simp) (by simp) (by simp) a' w' g' c' h1 h2 h3 h4)
          | false =>
            cases hm : S.num p with
            | none =>
              refine secE_none Q a4 w4 v5 v6 mp gl n k bi t op r4 g c p hS4 hpl hg hc hp hB4 (hW4.af hF) (hW4.ef hE) hnm hm (fun a' w' h1 h2 => hR a' w' 1 ?_ h1 (hlow4 w' h2))
              have hwn : S.wordOrName p = none := by unfold S.wordOrName; rw [hnm, hm]; rfl
              rw [hrd]; unfold S.readWord; simp only [hwn]
            | some v =>
              have hwn : S.wordOrName p = some (v, []) := by unfold S.wordOrName; rw [hnm, hm]; rfl
              by_cases hv0 : v < 0
              · refine secE_low Q a4 w4 v5 v6 mp gl n k bi t op r4 g c p hS4 hpl hg hc hp hB4 (hW4.af hF) (hW4.ef hE) hnm v hm hv0 (fun a' w' h1 h2 => hR a' w' 3 ?_ h1 (hlow4 w' h2))
                rw [hrd]; unfold S.readWord; simp only [hwn]; rw [if_pos (Or.inl hv0)]
              · by_cases hv1 : 65535 < v
                · refine secE_high Q a4 w4 v5 v6 mp gl n k bi t op r4 g c p hS4 hpl hg hc hp hB4 (hW4.af hF) (hW4.ef hE) hnm v hm (by omega) hv1 (fun a' w' h1 h2 => hR a' w' 3 ?_ h1 (hlow4 w' h2))
                  rw [hrd]; unfold S.readWord; simp only [hwn]; rw [if_pos (Or.inr hv1)]
                · have hw : S.readLine t k st = S.put [v] [] k st := by rw [hrd]; unfold S.readWord; simp only [hwn]; rw [if_neg (by omega)]
                  refine secE_num Q a4 w4 v5 v6 mp gl n k bi t op r4 g c p hS4 hpl hg hc hp hB4 (hW4.af hF) (hW4.ef hE) hnm v hm (by omega) (by omega) (fun a' w' g' c' h1 h2 h3 h4 => goG [v] [] hw (by simp) (by simp) (by simp; omega) a' w' g' c' h1 h2 h3 h4)
        | [] =>
          rw [hps] at hrow4 hrd
          obtain ⟨ra, rc, rfl⟩ := row_form hrow4
          refine secE_form Q a4 w4 v5 v6 mp gl n k bi t op r4 ra _ rc hS4 hpl (by simp) (by simp) hB4 (fun a' w' h1 h2 => hR a' w' 4 ?_ h1 (hlow4 w' h2))
          rw [hrd]; rfl
        | p1 :: p2 :: pr =>
          have hpn' := hpn
          rw [hps] at hrow4 hrd hpn'
          obtain ⟨ra, rc, rfl⟩ := row_form hrow4
          refine secE_form Q a4 w4 v5 v6 mp gl n k bi t op r4 ra _ rc hS4 hpl (by simp) (by omega) hB4 (fun a' w' h1 h2 => hR a' w' 4 ?_ h1 (hlow4 w' h2))
          rw [hrd]; rfl
      · have hrd : S.readLine t k st = S.readOrder op (S.partsOf rest) k st := by unfold S.readLine; rw [hs, hop, hrest, if_neg (by simp), if_neg hpl]
        refine secF_pre Q a4 w4 v5 v6 v17 mp gl n k bi t op r4 hS4 hpl ?_
        intro a5 hS5
        refine secF _ a5 w4 v5 v6 v17 mp gl n k bi t op w3.heap.size (S.partsOf rest) hS5 hrow4 (by omega) hpc hB4 (hW4.af hF) (hW4.ef hE) (hW4.fa hA) ?_ ?_
        · intro a' w' g c ws nm h1 h2 h3 h4 h5 h6 h7 h8
          exact goG ws nm (hrd.trans (h8 k st)) h5 h6 h7 a' w' g c h1 h2 h3 h4
        · intro a' w' e h1 h2 h3
          exact hR a' w' e (hrd.trans (h3 k st)) h1 (hlow4 w' h2)
    rcases S.index_or t [32] with hi | ⟨i, hi, hil⟩
    · have hc : Lib.cut t [32] = (t, [], false) := by unfold Lib.cut; rw [hi, if_neg (by omega)]
      exact secC_none Q a2 w1 v5 v6 mp gl n k bi t hS2 hi (fun a' w' h1 h2 => key t [] (by rw [hc]) (by rw [hc]) (by simp) a' w' h1 h2)
    · have hil2 : i + 1 ≤ t.length := hil
      have hc : Lib.cut t [32] = (t.take i, t.drop (i + 1), true) := by unfold Lib.cut; rw [hi, if_pos (by omega)]; simp
      exact secC_some Q a2 w1 v5 v6 mp gl n k bi t (by omega) hS2 i hi hil2 (fun a' w' h1 h2 => key (t.take i) (t.drop (i + 1)) (by rw [hc]) (by rw [hc]) (by simp; omega) a' w' h1 h2)
theorem BW.set_rom {w0 W : World} {mp gl : Nat} {ls : List S.By} {v6 : Value} {st : S.St} {rg rc : Nat} (h : BW w0 mp gl ls (.slice (some ⟨rg, 0, none⟩) st.rom.length rc) v6 st W) (i : Nat) (x : UInt8) :
    BW w0 mp gl ls (.slice (some ⟨rg, 0, none⟩) st.rom.length rc) v6 { st with rom := st.rom.set i x } (W.setCell ⟨rg, i, none⟩ (.int .u8 x.toNat)) := by
  obtain ⟨hs, hg⟩ := h.rom.stored i (.int .u8 x.toNat)
  refine h.put_rom (v5' := .slice (some ⟨rg, 0, none⟩) st.rom.length rc) hg ?_
  simp only [List.length_set]
  have e : Lib.byteCells (st.rom.set i x) = (Lib.byteCells st.rom).set i (.int .u8 x.toNat) := by unfold Lib.byteCells; rw [List.map_set]
  rw [e]; exact hs
set_option maxRecDepth 100000 in
set_option maxHeartbeats 1600000 in
theorem secH_100 (Q : Exit → Act → World → Prop) (a : Act) (w : World) (v5 : Value) (ua : Option Addr) (U uc : Nat) (mp gl n k : Nat) (hS : Sl a v5 (.slice ua U uc) mp gl n k)
    (hN : ∀ a', Sl a' v5 (.slice ua U uc) mp gl n k → sl a' 357 = .slice ua U uc → sl a' 358 = .int .i64 U → sl a' 359 = .int .i64 (0 : Nat) → Q .normal a' w) :
    ((cGo [1, 1, 1, 1, 1, 1, 1, 1, 0, 0] bBody)).wp Tryz.prog Q a w := by
  obtain ⟨sz, df, s5, s6, s7, s8, s52, s53, s54⟩ := hS
  obtain ⟨f, hf, rfl⟩ := act_open a sz df
  rw [hf] at s5 s6 s7 s8 s52 s53 s54
  clear hf sz df
  rw [s5, s6, s7, s8, s52, s53, s54]
  conv => arg 2; whnf
  go_wp2
  first | exact hN _ ⟨rfl, rfl, rfl, rfl, rfl, rfl, rfl, rfl, rfl⟩ rfl rfl rfl | exact ⟨rfl, rfl, rfl, rfl, rfl, rfl, rfl, rfl, rfl⟩ | (refine hN _ ⟨rfl, rfl, rfl, rfl, rfl, rfl, rfl, rfl, rfl⟩ ?_ ?_ ?_ <;> rfl)
set_option maxRecDepth 100000 in
set_option maxHeartbeats 1600000 in
theorem secH_x (Q : Exit → Act → World → Prop) (a : Act) (w : World) (v5 v6 : Value) (U mp gl n k : Nat) (hS : Sl a v5 v6 mp gl n k) (s357 : sl a 357 = v6) (s358 : sl a 358 = .int .i64 U) (s359 : sl a 359 = .int .i64 U)
    (hN : ∀ a', Sl a' v5 v6 mp gl n k → Q (.exit 11) a' w) :
    ((cGo [1, 1, 1, 1, 1, 1, 1, 1, 0, 1, 2, 3] bBody)).wp Tryz.prog Q a w := by
  obtain ⟨sz, df, s5, s6, s7, s8, s52, s53, s54⟩ := hS
  obtain ⟨f, hf, rfl⟩ := act_open a sz df
  rw [hf] at s5 s6 s7 s8 s52 s53 s54 s357 s358 s359
  clear hf sz df
  rw [s5, s6, s7, s8, s52, s53, s54, s357, s358, s359]
  conv => arg 2; whnf
  go_wp2
  exact ⟨rfl, rfl, rfl, rfl, rfl, rfl, rfl, rfl, rfl⟩
set_option maxRecDepth 100000 in
set_option maxHeartbeats 1600000 in
theorem secH_107 (Q : Exit → Act → World → Prop) (a : Act) (w : World) (v5 v6 : Value) (U mp gl n k j : Nat) (hj : j ≤ 1000000) (hS : Sl a v5 v6 mp gl n k) (s357 : sl a 357 = v6) (s358 : sl a 358 = .int .i64 U) (s359 : sl a 359 = .int .i64 j)
    (hN : ∀ a', Sl a' v5 v6 mp gl n k → sl a' 357 = v6 → sl a' 358 = .int .i64 U → sl a' 359 = .int .i64 (j + 1 : Nat) → Q .normal a' w) :
    ((cGo [1, 1, 1, 1, 1, 1, 1, 1, 0, 1, 2, 3, 1, 1, 1] bBody)).wp Tryz.prog Q a w := by
  obtain ⟨sz, df, s5, s6, s7, s8, s52, s53, s54⟩ := hS
  obtain ⟨f, hf, rfl⟩ := act_open a sz df
  rw [hf] at s5 s6 s7 s8 s52 s53 s54 s357 s358 s359
  clear hf sz df
  rw [s5, s6, s7, s8, s52, s53, s54, s357, s358, s359]
  conv => arg 2; whnf
  go_wp2
  first | exact hN _ ⟨rfl, rfl, rfl, rfl, rfl, rfl, rfl, rfl, rfl⟩ rfl rfl (by first | rfl | simp) | exact ⟨rfl, rfl, rfl, rfl, rfl, rfl, rfl, rfl, rfl⟩
set_option maxRecDepth 100000 in
set_option maxHeartbeats 1600000 in
theorem secH_head (Q : Exit → Act → World → Prop) (a : Act) (w : World) (v5 v6 : Value) (U mp gl n k j : Nat) (hj : j < U) (hS : Sl a v5 v6 mp gl n k) (s357 : sl a 357 = v6) (s358 : sl a 358 = .int .i64 U) (s359 : sl a 359 = .int .i64 j)
    (hz : ∀ a', Sl a' v5 v6 mp gl n k → sl a' 357 = v6 → sl a' 358 = .int .i64 U → sl a' 359 = .int .i64 j → ((cGo [1, 1, 1, 1, 1, 1, 1, 1, 0, 1, 2, 3, 1, 1] bBody)).wp Tryz.prog Q a' w) :
    ((cGo [1, 1, 1, 1, 1, 1, 1, 1, 0, 1, 2, 3] bBody)).wp Tryz.prog Q a w := by
  obtain ⟨sz, df, s5, s6, s7, s8, s52, s53, s54⟩ := hS
  have hj1 : (j : Int) < U := by omega
  obtain ⟨f, hf, rfl⟩ := act_open a sz df
  rw [hf] at s5 s6 s7 s8 s52 s53 s54 s357 s358 s359
  clear hf sz df
  rw [s5, s6, s7, s8, s52, s53, s54, s357, s358, s359]
  show (Code.seq (cGo [1, 1, 1, 1, 1, 1, 1, 1, 0, 1, 2, 3, 0] bBody) (Code.seq (cGo [1, 1, 1, 1, 1, 1, 1, 1, 0, 1, 2, 3, 1, 0] bBody) (cGo [1, 1, 1, 1, 1, 1, 1, 1, 0, 1, 2, 3, 1, 1] bBody))).wp Tryz.prog Q _ w
  revert hz
  generalize (cGo [1, 1, 1, 1, 1, 1, 1, 1, 0, 1, 2, 3, 1, 1] bBody) = z
  intro hz
  conv => arg 2; arg 1; whnf
  conv => arg 2; arg 2; arg 1; whnf
  go_wp2
  exact hz _ ⟨rfl, rfl, rfl, rfl, rfl, rfl, rfl, rfl, rfl⟩ rfl rfl rfl
set_option maxRecDepth 100000 in
set_option maxHeartbeats 1600000 in
theorem secH_bad (Q : Exit → Act → World → Prop) (a : Act) (w w0 : World) (v5 : Value) (ug uc U : Nat) (mp gl n k j : Nat) (ls : List S.By) (st : S.St) (nm : S.By) (at' ul : Nat) (hj : j < U) (hU : U ≤ 1000000) (hS : Sl a v5 (.slice (some ⟨ug, 0, none⟩) U uc) mp gl n k) (s357 : sl a 357 = .slice (some ⟨ug, 0, none⟩) U uc) (s358 : sl a 358 = .int .i64 U) (s359 : sl a 359 = .int .i64 j) (hg : ug < w.heap.size) (u0 : w.cell? ⟨ug, j * 3, none⟩ = some (.int .i64 ul)) (u1' : w.cell? ⟨ug, j * 3 + 1, none⟩ = some (.int .i64 at')) (u2' : w.cell? ⟨ug, j * 3 + 2, none⟩ = some (.string (mk nm))) (hW : BW w0 mp gl ls v5 (.slice (some ⟨ug, 0, none⟩) U uc) st w) (hf : st.places.find? (fun p => p.1 == nm) = none)
    (hR : ∀ a' w', Rt a' ul 5 → Below w.heap.size w w' → Q .ret a' w') :
    ((cGo [1, 1, 1, 1, 1, 1, 1, 1, 0, 1, 2, 3, 1, 1, 0, 2] bBody)).wp Tryz.prog Q a w := by
  obtain ⟨sz, df, s5, s6, s7, s8, s52, s53, s54⟩ := hS
  have hfp : (pl st.places).find? (fun p => p.1 == mk nm) = none := by rw [pl_find, bs_mk, hf]; rfl
  have hlk := lookup_s (P := Tryz.prog) Tryz.underlying32 Tryz.underlying9 (hW.kept (stA (st0 w) (.cells #[.int .i64 ul, .int .i64 at', .string (mk nm)] 50))).map (mk nm) (zero_int _)
  rw [hfp] at hlk
  simp only [Option.map_none, Option.getD_none, Option.isSome_none] at hlk
  clear hW hf hfp
  have hj1 : (j : Int) < U := by omega
  have hj0 : (0 : Int) ≤ j := by omega
  obtain ⟨f, hf, rfl⟩ := act_open a sz df
  rw [hf] at s5 s6 s7 s8 s52 s53 s54 s357 s358 s359
  clear hf sz df
  rw [s5, s6, s7, s8, s52, s53, s54, s357, s358, s359]
  show (Code.seq (cGo [1, 1, 1, 1, 1, 1, 1, 1, 0, 1, 2, 3, 1, 1, 0, 2, 0] bBody) (Code.seq (cGo [1, 1, 1, 1, 1, 1, 1, 1, 0, 1, 2, 3, 1, 1, 0, 2, 1, 0] bBody) (Code.seq (cGo [1, 1, 1, 1, 1, 1, 1, 1, 0, 1, 2, 3, 1, 1, 0, 2, 1, 1, 0] bBody) (cGo [1, 1, 1, 1, 1, 1, 1, 1, 0, 1, 2, 3, 1, 1, 0, 2, 1, 1, 1] bBody)))).wp Tryz.prog Q _ w
  generalize (cGo [1, 1, 1, 1, 1, 1, 1, 1, 0, 1, 2, 3, 1, 1, 0, 2, 1, 1, 1] bBody) = z
  conv => arg 2; arg 1; whnf
  conv => arg 2; arg 2; arg 1; whnf
  conv => arg 2; arg 2; arg 2; arg 1; whnf
  go_wp2
  go_region
  all_goals go_wp2
  all_goals exact hR _ _ ⟨rfl, rfl, rfl, rfl⟩ (stA (st0 w) _).drew
set_option maxRecDepth 100000 in
set_option maxHeartbeats 1600000 in
theorem secH_ok (Q : Exit → Act → World → Prop) (a : Act) (w w0 : World) (v5 : Value) (ug uc U : Nat) (mp gl n k j : Nat) (ls : List S.By) (st : S.St) (nm : S.By) (at' ul : Nat) (hj : j < U) (hU : U ≤ 1000000) (hS : Sl a v5 (.slice (some ⟨ug, 0, none⟩) U uc) mp gl n k) (s357 : sl a 357 = .slice (some ⟨ug, 0, none⟩) U uc) (s358 : sl a 358 = .int .i64 U) (s359 : sl a 359 = .int .i64 j) (hg : ug < w.heap.size) (u0 : w.cell? ⟨ug, j * 3, none⟩ = some (.int .i64 ul)) (u1' : w.cell? ⟨ug, j * 3 + 1, none⟩ = some (.int .i64 at')) (u2' : w.cell? ⟨ug, j * 3 + 2, none⟩ = some (.string (mk nm))) (hW : BW w0 mp gl ls v5 (.slice (some ⟨ug, 0, none⟩) U uc) st w) (q : S.By × Nat) (hf : st.places.find? (fun p => p.1 == nm) = some q)
    (hz : ∀ a', Sl a' v5 (.slice (some ⟨ug, 0, none⟩) U uc) mp gl n k → sl a' 357 = .slice (some ⟨ug, 0, none⟩) U uc → sl a' 358 = .int .i64 U → sl a' 359 = .int .i64 j → sl a' 36 = .pointer (some ⟨w.heap.size, 0, none⟩) → sl a' 37 = .int .i64 q.2 → ((cGo [1, 1, 1, 1, 1, 1, 1, 1, 0, 1, 2, 3, 1, 1, 0, 2, 1, 1, 1] bBody)).wp Tryz.prog Q a' (w.alloc (.cells #[.int .i64 ul, .int .i64 at', .string (mk nm)] 50))) :
    ((cGo [1, 1, 1, 1, 1, 1, 1, 1, 0, 1, 2, 3, 1, 1, 0, 2] bBody)).wp Tryz.prog Q a w := by
  obtain ⟨sz, df, s5, s6, s7, s8, s52, s53, s54⟩ := hS
  have hlk := lookup_place (hW.kept (stA (st0 w) (.cells #[.int .i64 ul, .int .i64 at', .string (mk nm)] 50))).map nm q hf
  clear hW hf
  have hj1 : (j : Int) < U := by omega
  have hj0 : (0 : Int) ≤ j := by omega
  obtain ⟨f, hf, rfl⟩ := act_open a sz df
  rw [hf] at s5 s6 s7 s8 s52 s53 s54 s357 s358 s359
  clear hf sz df
  rw [s5, s6, s7, s8, s52, s53, s54, s357, s358, s359]
  show (Code.seq (cGo [1, 1, 1, 1, 1, 1, 1, 1, 0, 1, 2, 3, 1, 1, 0, 2, 0] bBody) (Code.seq (cGo [1, 1, 1, 1, 1, 1, 1, 1, 0, 1, 2, 3, 1, 1, 0, 2, 1, 0] bBody) (Code.seq (cGo [1, 1, 1, 1, 1, 1, 1, 1, 0, 1, 2, 3, 1, 1, 0, 2, 1, 1, 0] bBody) (cGo [1, 1, 1, 1, 1, 1, 1, 1, 0, 1, 2, 3, 1, 1, 0, 2, 1, 1, 1] bBody)))).wp Tryz.prog Q _ w
  revert hz
  generalize (cGo [1, 1, 1, 1, 1, 1, 1, 1, 0, 1, 2, 3, 1, 1, 0, 2, 1, 1, 1] bBody) = z
  intro hz
  conv => arg 2; arg 1; whnf
  conv => arg 2; arg 2; arg 1; whnf
  conv => arg 2; arg 2; arg 2; arg 1; whnf
  go_wp2
  exact hz _ ⟨rfl, rfl, rfl, rfl, rfl, rfl, rfl, rfl, rfl⟩ rfl rfl rfl rfl rfl
set_option maxRecDepth 100000 in
set_option maxHeartbeats 1600000 in
theorem secH_106 (Q : Exit → Act → World → Prop) (a : Act) (w : World) (rg R0 rc : Nat) (v6 : Value) (U mp gl n k j ub at' pv : Nat) (hS : Sl a (.slice (some ⟨rg, 0, none⟩) R0 rc) v6 mp gl n k) (s357 : sl a 357 = v6) (s358 : sl a 358 = .int .i64 U) (s359 : sl a 359 = .int .i64 j) (s36 : sl a 36 = .pointer (some ⟨ub, 0, none⟩)) (s37 : sl a 37 = .int .i64 pv) (hub : ub < w.heap.size) (hu1 : w.cell? ⟨ub, 1, none⟩ = some (.int .i64 at')) (hpv : pv ≤ 65535) (hat : at' + 2 ≤ R0) (hR0 : R0 ≤ 1024) (hrg : rg < w.heap.size) (hne : ub ≠ rg) (va vb : Value) (da : w.cell? ⟨rg, at', none⟩ = some va) (db : w.cell? ⟨rg, at' + 1, none⟩ = some vb) (fa : w.frozen? ⟨rg, at', none⟩ = false) (fb : w.frozen? ⟨rg, at' + 1, none⟩ = false)
    (hN : ∀ a', Sl a' (.slice (some ⟨rg, 0, none⟩) R0 rc) v6 mp gl n k → sl a' 357 = v6 → sl a' 358 = .int .i64 U → sl a' 359 = .int .i64 j → Q .normal a' ((w.setCell ⟨rg, at', none⟩ (.int .u8 ((pv : Int) / 256))).setCell ⟨rg, at' + 1, none⟩ (.int .u8 ((pv : Int) % 256))).drew) :
    ((cGo [1, 1, 1, 1, 1, 1, 1, 1, 0, 1, 2, 3, 1, 1, 0, 2, 1, 1, 1] bBody)).wp Tryz.prog Q a w := by
  obtain ⟨sz, df, s5, s6, s7, s8, s52, s53, s54⟩ := hS
  have hatI : (at' : Int) < R0 := by omega
  have hatJ : (at' : Int) + 1 < R0 := by omega
  have hatK : (0 : Int) ≤ (at' : Int) + 1 := by omega
  have hatL : (0 : Int) ≤ (at' : Int) := by omega
  have hwa : IntKind.i64.wrap ((at' : Int) + 1) = (at' : Int) + 1 := by rw [IntKind.wrap_i64]; omega
  have ht1 : Int.tdiv (pv : Int) 256 = (pv : Int) / 256 := Int.tdiv_eq_ediv_of_nonneg (by omega)
  have ht2 : Int.tmod (pv : Int) 256 = (pv : Int) % 256 := Int.tmod_eq_emod_of_nonneg (by omega)
  have hq1 : IntKind.u8.wrap ((pv : Int) / 256) = (pv : Int) / 256 := by rw [IntKind.wrap_u8]; omega
  have hq2 : IntKind.u8.wrap ((pv : Int) % 256) = (pv : Int) % 256 := by rw [IntKind.wrap_u8]; omega
  have hq0 : IntKind.i64.wrap ((pv : Int) / 256) = (pv : Int) / 256 := by rw [IntKind.wrap_i64]; omega
  have hne2 : rg ≠ ub := Ne.symm hne
  obtain ⟨f, hf, rfl⟩ := act_open a sz df
  rw [hf] at s5 s6 s7 s8 s52 s53 s54 s357 s358 s359 s36 s37
  clear hf sz df
  rw [s5, s6, s7, s8, s52, s53, s54, s357, s358, s359, s36, s37]
  suffices hK : ∀ Kx : Act → World → Prop, (∀ a', Sl a' (.slice (some ⟨rg, 0, none⟩) R0 rc) v6 mp gl n k → sl a' 357 = v6 → sl a' 358 = .int .i64 U → sl a' 359 = .int .i64 j → Kx a' ((w.setCell ⟨rg, at', none⟩ (.int .u8 ((pv : Int) / 256))).setCell ⟨rg, at' + 1, none⟩ (.int .u8 ((pv : Int) % 256))).drew) → ((cGo [1, 1, 1, 1, 1, 1, 1, 1, 0, 1, 2, 3, 1, 1, 0, 2, 1, 1, 1] bBody)).wp Tryz.prog (Exit.then Kx (fun _ _ _ => False)) { tmps := #[f 0, f 1, f 2, f 3, f 4, (.slice (some ⟨rg, 0, none⟩) R0 rc), v6, (.map (some mp)), (.slice (some ⟨gl, 0, none⟩) n n), f 9, f 10, f 11, f 12, f 13, f 14, f 15, f 16, f 17, f 18, f 19, f 20, f 21, f 22, f 23, f 24, f 25, f 26, f 27, f 28, f 29, f 30, f 31, f 32, f 33, f 34, f 35, (.pointer (some ⟨ub, 0, none⟩)), (.int .i64 pv), f 38, f 39, f 40, f 41, f 42, f 43, f 44, f 45, f 46, f 47, f 48, f 49, f 50, f 51, (.slice (some ⟨gl, 0, none⟩) n n), (.int .i64 n), (.int .i64 k), f 55, f 56, f 57, f 58, f 59, f 60, f 61, f 62, f 63, f 64, f 65, f 66, f 67, f 68, f 69, f 70, f 71, f 72, f 73, f 74, f 75, f 76, f 77, f 78, f 79, f 80, f 81, f 82, f 83, f 84, f 85, f 86, f 87, f 88, f 89, f 90, f 91, f 92, f 93, f 94, f 95, f 96, f 97, f 98, f 99, f 100, f 101, f 102, f 103, f 104, f 105, f 106, f 107, f 108, f 109, f 110, f 111, f 112, f 113, f 114, f 115, f 116, f 117, f 118, f 119, f 120, f 121, f 122, f 123, f 124, f 125, f 126, f 127, f 128, f 129, f 130, f 131, f 132, f 133, f 134, f 135, f 136, f 137, f 138, f 139, f 140, f 141, f 142, f 143, f 144, f 145, f 146, f 147, f 148, f 149, f 150, f 151, f 152, f 153, f 154, f 155, f 156, f 157, f 158, f 159, f 160, f 161, f 162, f 163, f 164, f 165, f 166, f 167, f 168, f 169, f 170, f 171, f 172, f 173, f 174, f 175, f 176, f 177, f 178, f 179, f 180, f 181, f 182, f 183, f 184, f 185, f 186, f 187, f 188, f 189, f 190, f 191, f 192, f 193, f 194, f 195, f 196, f 197, f 198, f 199, f 200, f 201, f 202, f 203, f 204, f 205, f 206, f 207, f 208, f 209, f 210, f 211, f 212, f 213, f 214, f 215, f 216, f 217, f 218, f 219, f 220, f 221, f 222, f 223, f 224, f 225, f 226, f 227, f 228, f 229, f 230, f 231, f 232, f 233, f 234, f 235, f 236, f 237, f 238, f 239, f 240, f 241, f 242, f 243, f 244, f 245, f 246, f 247, f 248, f 249, f 250, f 251, f 252, f 253, f 254, f 255, f 256, f 257, f 258, f 259, f 260, f 261, f 262, f 263, f 264, f 265, f 266, f 267, f 268, f 269, f 270, f 271, f 272, f 273, f 274, f 275, f 276, f 277, f 278, f 279, f 280, f 281, f 282, f 283, f 284, f 285, f 286, f 287, f 288, f 289, f 290, f 291, f 292, f 293, f 294, f 295, f 296, f 297, f 298, f 299, f 300, f 301, f 302, f 303, f 304, f 305, f 306, f 307, f 308, f 309, f 310, f 311, f 312, f 313, f 314, f 315, f 316, f 317, f 318, f 319, f 320, f 321, f 322, f 323, f 324, f 325, f 326, f 327, f 328, f 329, f 330, f 331, f 332, f 333, f 334, f 335, f 336, f 337, f 338, f 339, f 340, f 341, f 342, f 343, f 344, f 345, f 346, f 347, f 348, f 349, f 350, f 351, f 352, f 353, f 354, f 355, f 356, v6, (.int .i64 U), (.int .i64 j), f 360, f 361, f 362, f 363, f 364, f 365, f 366, f 367, f 368, f 369, f 370, f 371, f 372, f 373, f 374, f 375, f 376, f 377, f 378, f 379, f 380, f 381, f 382, f 383, f 384, f 385, f 386, f 387, f 388, f 389, f 390], defers := [] } w from
    wp_mono (hK (fun a' w' => Q .normal a' w') hN) (fun e a w h => by
      cases e with
      | normal => exact h
      | _ => exact h.elim)
  intro Kx hKx
  clear hN
  conv => arg 2; whnf
  go_region_held3 (fun w' => w'.cell? ⟨ub, 1, none⟩ = some (.int .i64 at'))
    (first
      | (go_keep; done)
      | (rw [World.cell?_setCell_other _ _ _ _ (by simp; omega)]; assumption)
      | go_keep)
    (fail)
  all_goals (try rw [hq0, hq1])
  all_goals exact hKx _ ⟨rfl, rfl, rfl, rfl, rfl, rfl, rfl, rfl, rfl⟩ rfl rfl rfl
theorem in_ret {Q : Exit → Act → World → Prop} {K : Act → World → Prop} {i : Nat} {a : Act} {w : World} (h : Q .ret a w) : Exit.then K (Exit.inBlock i Q) .ret a w := h
theorem secH (Q : Exit → Act → World → Prop) (a : Act) (w w0 : World) (v5 v6 : Value) (mp gl n k : Nat) (ls : List S.By) (st : S.St) (hS : Sl a v5 v6 mp gl n k) (hW : BW w0 mp gl ls v5 v6 st w) (hi : Inv st) (hul : st.uses.length ≤ 100000)
    (hN : ∀ a' w' rom', S.lay st.places st.uses st.rom = .ok rom' → Sl a' v5 v6 mp gl n k → w'.ownsRow w0.heap.size 5 1 v5 rom'.length (Lib.byteCells rom') → Below w0.heap.size w0 w' → Q .normal a' w')
    (hR : ∀ a' w' l e, S.lay st.places st.uses st.rom = .error (l, e) → Rt a' l e → Below w0.heap.size w0 w' → Q .ret a' w') :
    ((cGo [1, 1, 1, 1, 1, 1, 1, 1, 0] bBody)).wp Tryz.prog Q a w := by
  obtain ⟨ua, uc, rfl⟩ := row_form hW.uses
  obtain ⟨ra, rc, rfl⟩ := row_form hW.rom
  show (Code.seq (cGo [1, 1, 1, 1, 1, 1, 1, 1, 0, 0] bBody) (Code.block 11 (Code.loop (cGo [1, 1, 1, 1, 1, 1, 1, 1, 0, 1, 2, 3] bBody)))).wp Tryz.prog Q a w
  refine wp_seq (secH_100 _ a w _ ua st.uses.length uc mp gl n k hS ?_)
  intro a2 hS2 h357 h358 h359
  refine wp_block (wp_loop (fun a w => ∃ (j : Nat) (rom : S.By), j ≤ st.uses.length ∧ Sl a (.slice ra st.rom.length rc) (.slice ua st.uses.length uc) mp gl n k ∧ sl a 357 = .slice ua st.uses.length uc ∧ sl a 358 = .int .i64 st.uses.length ∧ sl a 359 = .int .i64 j ∧ rom.length = st.rom.length ∧ BW w0 mp gl ls (.slice ra st.rom.length rc) (.slice ua st.uses.length uc) { st with rom := rom } w ∧ S.lay st.places st.uses st.rom = S.lay st.places (st.uses.drop j) rom) (μF 359 st.uses.length) ⟨0, st.rom, by omega, hS2, h357, h358, h359, rfl, hW, rfl⟩ ?_)
  rintro a3 w3 ⟨j, rom, hj, hS3, q357, q358, q359, hrl, hW3, hlay⟩
  rw [μF_at (M := st.uses.length) (w := w3) q359]
  by_cases hjl : j < st.uses.length
  · obtain ⟨u, hu⟩ : ∃ u, st.uses[j]? = some u := ⟨_, List.getElem?_eq_getElem hjl⟩
    obtain ⟨nm, at', ul⟩ := u
    have hat := hi.2.1 _ (List.mem_of_getElem? hu)
    simp only at hat
    obtain ⟨k0, k1, k2⟩ := uC_at _ _ _ hu
    have hua : ∃ ug, ua = some ⟨ug, 0, none⟩ := by
      rcases hW3.uses.2 with ⟨_, h0⟩ | ⟨g, cap, cur, h, _⟩
      · simp only at h0; omega
      · exact ⟨g, by injection h⟩
    obtain ⟨ug, rfl⟩ := hua
    have hra : ∃ rg, ra = some ⟨rg, 0, none⟩ := by
      rcases hW3.rom.2 with ⟨_, h0⟩ | ⟨g, cap, cur, h, _⟩
      · simp only at h0; omega
      · exact ⟨g, by injection h⟩
    obtain ⟨rg, rfl⟩ := hra
    have u0 : w3.cell? ⟨ug, j * 3, none⟩ = some (.int .i64 ul) := by rw [hW3.uses.cellAt (j * 3) (by omega)]; exact k0
    have u1' : w3.cell? ⟨ug, j * 3 + 1, none⟩ = some (.int .i64 at') := by rw [hW3.uses.cellAt (j * 3 + 1) (by omega)]; exact k1
    have u2' : w3.cell? ⟨ug, j * 3 + 2, none⟩ = some (.string (mk nm)) := by rw [hW3.uses.cellAt (j * 3 + 2) (by omega)]; exact k2
    have hug := (hW3.uses.lt ug rfl).2
    have hrg := (hW3.rom.lt rg rfl).2
    rw [drop_cons hu] at hlay
    refine secH_head _ a3 w3 _ _ st.uses.length mp gl n k j hjl hS3 q357 q358 q359 ?_
    intro a4 hS4 p357 p358 p359
    show (Code.seq (Code.block 12 (cGo [1, 1, 1, 1, 1, 1, 1, 1, 0, 1, 2, 3, 1, 1, 0, 2] bBody)) (cGo [1, 1, 1, 1, 1, 1, 1, 1, 0, 1, 2, 3, 1, 1, 1] bBody)).wp Tryz.prog _ a4 w3
    refine wp_seq (wp_block ?_)
    cases hf : st.places.find? (fun p => p.1 == nm) with
    | none =>
      refine secH_bad _ a4 w3 w0 _ ug uc st.uses.length mp gl n k j ls { st with rom := rom } nm at' ul hjl (by omega) hS4 p357 p358 p359 hug u0 u1' u2' hW3 hf (fun a' w' h1 h2 => ?_)
      show Q .ret a' w'
      refine hR a' w' ul 5 ?_ h1 (stp hW3.low h2)
      rw [hlay]; unfold S.lay; rw [hf]
    | some q =>
      have hq := hi.2.2 q (List.mem_of_find?_eq_some hf)
      have hnext : S.lay st.places st.uses st.rom = S.lay st.places (st.uses.drop (j + 1)) ((rom.set at' (UInt8.ofNat (q.2 / 256))).set (at' + 1) (UInt8.ofNat (q.2 % 256))) := by
        rw [hlay]
        conv => lhs; unfold S.lay
        simp only [hf]
      refine secH_ok _ a4 w3 w0 _ ug uc st.uses.length mp gl n k j ls { st with rom := rom } nm at' ul hjl (by omega) hS4 p357 p358 p359 hug u0 u1' u2' hW3 q hf ?_
      intro a5 hS5 r357 r358 r359 h36 h37
      have hb5 := stA (st0 w3) (.cells #[.int .i64 ul, .int .i64 at', .string (mk nm)] 50)
      have hW5 := hW3.kept hb5
      have hrow : (w3.alloc (.cells #[.int .i64 ul, .int .i64 at', .string (mk nm)] 50)).ownsRow w0.heap.size 5 1 (.slice (some ⟨rg, 0, none⟩) st.rom.length rc) st.rom.length (Lib.byteCells rom) := by
        have := hW5.rom
        simp only [hrl] at this
        exact this
      have hr1 := hi.1
      refine secH_106 _ a5 _ rg st.rom.length rc _ st.uses.length mp gl n k j w3.heap.size at' q.2 hS5 r357 r358 r359 h36 h37 (by simp) (cell_new _ _ _ _ rfl) (by omega) hat hr1 (by simp; omega) (by omega) _ _ ((hrow.cellAt at' (by omega)).trans (List.getElem?_eq_getElem (by rw [byteCells_len]; omega))) ((hrow.cellAt (at' + 1) (by omega)).trans (List.getElem?_eq_getElem (by rw [byteCells_len]; omega))) (hrow.frozenAt at') (hrow.frozenAt (at' + 1)) ?_
      intro a6 hS6 t357 t358 t359
      refine secH_107 _ a6 _ _ _ st.uses.length mp gl n k j (by omega) hS6 t357 t358 t359 ?_
      intro a7 hS7 y357 y358 y359
      have e1 : (.int .u8 ((q.2 : Int) / 256) : Value) = .int .u8 ((UInt8.ofNat (q.2 / 256)).toNat : Nat) := by rw [show (UInt8.ofNat (q.2 / 256)).toNat = q.2 / 256 by simp; omega]; rfl
      have e2 : (.int .u8 ((q.2 : Int) % 256) : Value) = .int .u8 ((UInt8.ofNat (q.2 % 256)).toNat : Nat) := by rw [show (UInt8.ofNat (q.2 % 256)).toNat = q.2 % 256 by simp]; rfl
      refine ⟨⟨j + 1, (rom.set at' (UInt8.ofNat (q.2 / 256))).set (at' + 1) (UInt8.ofNat (q.2 % 256)), by omega, hS7, y357, y358, y359, by simp [hrl], ?_, hnext⟩, ?_⟩
      · rw [e1, e2]
        have hA : BW w0 mp gl ls (.slice (some ⟨rg, 0, none⟩) rom.length rc) (.slice (some ⟨ug, 0, none⟩) st.uses.length uc) { st with rom := rom } (w3.alloc (.cells #[.int .i64 ul, .int .i64 at', .string (mk nm)] 50)) := by rw [hrl]; exact hW5
        have hB := BW.set_rom (st := { st with rom := rom }) hA at' (UInt8.ofNat (q.2 / 256))
        have hB' : BW w0 mp gl ls (.slice (some ⟨rg, 0, none⟩) (rom.set at' (UInt8.ofNat (q.2 / 256))).length rc) (.slice (some ⟨ug, 0, none⟩) st.uses.length uc) { st with rom := rom.set at' (UInt8.ofNat (q.2 / 256)) } ((w3.alloc (.cells #[.int .i64 ul, .int .i64 at', .string (mk nm)] 50)).setCell ⟨rg, at', none⟩ (.int .u8 (UInt8.ofNat (q.2 / 256)).toNat)) := by rw [List.length_set]; exact hB
        have hC := (BW.set_rom (st := { st with rom := rom.set at' (UInt8.ofNat (q.2 / 256)) }) hB' (at' + 1) (UInt8.ofNat (q.2 % 256))).kept (st0 _).drew
        rw [List.length_set, hrl] at hC
        exact hC
      · rw [μF_at (M := st.uses.length) y359]; omega
  · have hje : j = st.uses.length := by omega
    subst hje
    rw [List.drop_length] at hlay
    refine secH_x _ a3 w3 _ _ st.uses.length mp gl n k hS3 q357 q358 q359 (fun a' h => ex_in (hN a' w3 rom ?_ h ?_ hW3.low))
    · rw [hlay]; rfl
    · have := hW3.rom
      simp only [hrl] at this
      rw [hrl]; exact this
set_option maxRecDepth 100000 in
set_option maxHeartbeats 1600000 in
theorem secM_head (Q : Exit → Act → World → Prop) (a : Act) (w : World) (v5 v6 : Value) (mp gl n k : Nat) (hk : k < n) (hS : Sl a v5 v6 mp gl n k)
    (hz : ∀ a', Sl a' v5 v6 mp gl n k → ((cGo [1, 1, 1, 1, 1, 1, 1, 0, 1, 2, 3, 1, 1] bBody)).wp Tryz.prog Q a' w) :
    ((cGo [1, 1, 1, 1, 1, 1, 1, 0, 1, 2, 3] bBody)).wp Tryz.prog Q a w := by
  obtain ⟨sz, df, s5, s6, s7, s8, s52, s53, s54⟩ := hS
  have hk1 : (k : Int) < n := by omega
  obtain ⟨f, hf, rfl⟩ := act_open a sz df
  rw [hf] at s5 s6 s7 s8 s52 s53 s54
  clear hf sz df
  rw [s5, s6, s7, s8, s52, s53, s54]
  show (Code.seq (cGo [1, 1, 1, 1, 1, 1, 1, 0, 1, 2, 3, 0] bBody) (Code.seq (cGo [1, 1, 1, 1, 1, 1, 1, 0, 1, 2, 3, 1, 0] bBody) (cGo [1, 1, 1, 1, 1, 1, 1, 0, 1, 2, 3, 1, 1] bBody))).wp Tryz.prog Q _ w
  revert hz
  generalize (cGo [1, 1, 1, 1, 1, 1, 1, 0, 1, 2, 3, 1, 1] bBody) = z
  intro hz
  conv => arg 2; arg 1; whnf
  conv => arg 2; arg 2; arg 1; whnf
  go_wp2
  exact hz _ ⟨rfl, rfl, rfl, rfl, rfl, rfl, rfl, rfl, rfl⟩
set_option maxRecDepth 100000 in
set_option maxHeartbeats 1600000 in
theorem secM_99 (Q : Exit → Act → World → Prop) (a : Act) (w : World) (v5 v6 : Value) (mp gl n k : Nat) (hk : k ≤ 100000) (hS : Sl a v5 v6 mp gl n k)
    (hN : ∀ a', Sl a' v5 v6 mp gl n (k + 1) → Q .normal a' w) :
    ((cGo [1, 1, 1, 1, 1, 1, 1, 0, 1, 2, 3, 1, 1, 1] bBody)).wp Tryz.prog Q a w := by
  obtain ⟨sz, df, s5, s6, s7, s8, s52, s53, s54⟩ := hS
  obtain ⟨f, hf, rfl⟩ := act_open a sz df
  rw [hf] at s5 s6 s7 s8 s52 s53 s54
  clear hf sz df
  rw [s5, s6, s7, s8, s52, s53, s54]
  conv => arg 2; whnf
  go_wp2
  exact ⟨rfl, rfl, rfl, rfl, rfl, rfl, rfl, rfl, by first | rfl | simp [sl] | simp⟩
theorem uses_line {l : S.By} {ln : Nat} {st st' : S.St} (h : S.readLine l ln st = .ok st') : st'.uses.length ≤ st.uses.length + 1 := by
  have hput : ∀ (ws : List Int) (nm : S.By), S.put ws nm ln st = .ok st' → st'.uses.length ≤ st.uses.length + 1 := fun ws nm h => by
    obtain ⟨_, rfl⟩ := put_spec h
    simp only
    split <;> simp
  unfold S.readLine at h
  split at h
  · obtain ⟨_, _, rfl⟩ := place_inv h
    simp
  · split at h
    · match hp : S.partsOf (Lib.cut l [32]).2.1, h with
      | [p], h => obtain ⟨v, nm, _, _, _, hp⟩ := word_inv h; exact hput _ _ hp
      | [], h => cases h
      | _ :: _ :: _, h => cases h
    · obtain ⟨k, o, nm, _, _, _, _, _, _, hp⟩ := order_inv h
      exact hput _ _ hp
theorem secM (Q : Exit → Act → World → Prop) (a : Act) (w w0 : World) (v5 v6 : Value) (mp gl n : Nat) (ls : List S.By) (hS : Sl a v5 v6 mp gl n 0) (hn : n = ls.length) (hn0 : 0 < n) (hn10 : n ≤ 10000) (hls : ∀ t ∈ ls, t.length ≤ 4000) (hW : BW w0 mp gl ls v5 v6 S.St.zero w) (hN0 : Nl v5 v6 S.St.zero) (hF : AF w0) (hE : EF w0) (hA : Facts w0)
    (hN : ∀ a' w' v5' v6' k st, S.goLines ls 0 S.St.zero = .ok st → Sl a' v5' v6' mp gl n k → BW w0 mp gl ls v5' v6' st w' → Inv st → st.uses.length ≤ 100000 → Q .normal a' w')
    (hR : ∀ a' w' k e, S.goLines ls 0 S.St.zero = .error (k, e) → Rt a' k e → Below w0.heap.size w0 w' → Q .ret a' w') :
    ((cGo [1, 1, 1, 1, 1, 1, 1, 0, 1] bBody)).wp Tryz.prog Q a w := by
  show (Code.block 0 (Code.loop (cGo [1, 1, 1, 1, 1, 1, 1, 0, 1, 2, 3] bBody))).wp Tryz.prog Q a w
  refine wp_block (wp_loop (fun a w => ∃ (k : Nat) (v5 v6 : Value) (st : S.St), k < n ∧ Sl a v5 v6 mp gl n k ∧ BW w0 mp gl ls v5 v6 st w ∧ Nl v5 v6 st ∧ Inv st ∧ st.uses.length ≤ k ∧ S.goLines ls 0 S.St.zero = S.goLines (ls.drop k) k st) (μF 54 n) ⟨0, v5, v6, S.St.zero, hn0, hS, hW, hN0, inv_zero, by simp [S.St.zero], rfl⟩ ?_)
  rintro a3 w3 ⟨k, v5, v6, st, hk, hS3, hW3, hNl3, hi3, hu3, hgo⟩
  have hm3 := μF_at (M := n) (w := w3) hS3.s54
  rw [hm3]
  obtain ⟨t, ht⟩ : ∃ t, ls[k]? = some t := ⟨_, List.getElem?_eq_getElem (by omega)⟩
  rw [drop_cons ht] at hgo
  have htl := hls t (List.mem_of_getElem? ht)
  refine secM_head _ a3 w3 v5 v6 mp gl n k hk hS3 ?_
  intro a4 hS4
  show (Code.seq (Code.block 1 (cGo [1, 1, 1, 1, 1, 1, 1, 0, 1, 2, 3, 1, 1, 0, 2] bBody)) (cGo [1, 1, 1, 1, 1, 1, 1, 0, 1, 2, 3, 1, 1, 1] bBody)).wp Tryz.prog _ a4 w3
  refine wp_seq (wp_block ?_)
  by_cases hlast : k + 1 = n
  · have hd : ls.drop (k + 1) = [] := List.drop_eq_nil_of_le (by omega)
    rw [hd] at hgo
    by_cases h0 : t = []
    · refine secA_last _ a4 w3 v5 v6 mp gl n k t hS4 hlast hn10 hW3.gl_lt (bw_line hW3 k t ht) h0 (fun a' w' h1 h2 => ?_)
      have hgo' : S.goLines ls 0 S.St.zero = .ok st := by rw [hgo]; unfold S.goLines; rw [if_pos rfl, if_pos h0]
      show Q .normal a' w'
      exact hN a' w' v5 v6 k st hgo' h1 (by rw [h2]; exact hW3.kept (stA (st0 w3) _)) hi3 (by omega)
    · refine secA_bad _ a4 w3 v5 v6 mp gl n k t hS4 hlast hn10 hW3.gl_lt (bw_line hW3 k t ht) h0 (fun a' w' h1 h2 => ?_)
      have hgo' : S.goLines ls 0 S.St.zero = .error (k, 1) := by rw [hgo]; unfold S.goLines; rw [if_pos rfl, if_neg h0]
      show Q .ret a' w'
      exact hR a' w' k 1 hgo' h1 (stp hW3.low h2)
  · have hd : ls.drop (k + 1) ≠ [] := fun h => by
      have := congrArg List.length h
      simp at this; omega
    have hstep : ∀ st', S.readLine t k st = .ok st' → S.goLines ls 0 S.St.zero = S.goLines (ls.drop (k + 1)) (k + 1) st' := fun st' h => by
      rw [hgo]
      conv => lhs; unfold S.goLines
      rw [if_neg hd, h]
    have hJ : ∀ a' w' v5' v6' st', S.readLine t k st = .ok st' → Sl a' v5' v6' mp gl n k → BW w0 mp gl ls v5' v6' st' w' → Nl v5' v6' st' → ((cGo [1, 1, 1, 1, 1, 1, 1, 0, 1, 2, 3, 1, 1, 1] bBody)).wp Tryz.prog (Exit.then (fun a' w' => (∃ (k : Nat) (v5 v6 : Value) (st : S.St), k < n ∧ Sl a' v5 v6 mp gl n k ∧ BW w0 mp gl ls v5 v6 st w' ∧ Nl v5 v6 st ∧ Inv st ∧ st.uses.length ≤ k ∧ S.goLines ls 0 S.St.zero = S.goLines (ls.drop k) k st) ∧ μF 54 n a' w' < n - k) (Exit.inBlock 0 Q)) a' w' := by
      intro a' w' v5' v6' st' h1 h2 h3 h4
      refine secM_99 _ a' w' v5' v6' mp gl n k (by omega) h2 (fun a'' h5 => ⟨⟨k + 1, v5', v6', st', by omega, h5, h3, h4, inv_line hi3 h1, by have := uses_line h1; omega, hstep st' h1⟩, ?_⟩)
      rw [μF_at (M := n) (w := w') h5.s54]; omega
    refine secLine _ a4 w3 w0 v5 v6 mp gl n k ls st t hS4 (by omega) hn10 ht htl hW3 hNl3 hi3.1 (by omega) hF hE hA ?_ ?_ ?_
    · intro a' w' v5' v6' st' h1 h2 h3 h4
      exact hJ a' w' v5' v6' st' h1 h2 h3 h4
    · intro a' w' v5' v6' st' h1 h2 h3 h4
      exact hJ a' w' v5' v6' st' h1 h2 h3 h4
    · intro a' w' e h1 h2 h3
      show Q .ret a' w'
      refine hR a' w' k e ?_ h2 h3
      rw [hgo]
      conv => lhs; unfold S.goLines
      rw [if_neg hd, h1]
end Go.Proofs.YtdjhlfoapieohaaGreatDoor
