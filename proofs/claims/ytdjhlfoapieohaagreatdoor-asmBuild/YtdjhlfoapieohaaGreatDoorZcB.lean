/-
  The reference's Built: a line that names a place, a line's parts, a line that lays one word.
-/
import Derived.Test.YtdjhlfoapieohaaGreatDoorZcA
import Derived.Test.YtdjhlfoapieohaaGreatDoorAsmO
import Derived.Test.YtdjhlfoapieohaaGreatDoorShelfG
import Derived.Test.YtdjhlfoapieohaaGreatDoorZcR
namespace Go.Proofs.YtdjhlfoapieohaaGreatDoor
open Go.ChangeShapes Go.WideShapes Go.ChangeAt Go.RowKit
set_option linter.unusedVariables false

/-- Uses as the reference keeps them: line, place, name. -/
def uC : List (S.By × Nat × Nat) → List Value
  | [] => []
  | u :: us => [.int .i64 u.2.2, .int .i64 u.2.1, .string (mk u.1)] ++ uC us
theorem uC_len : ∀ l, (uC l).length = l.length * 3
  | [] => rfl
  | u :: us => by simp [uC, uC_len us]; omega
theorem uC_snoc : ∀ l (u : S.By × Nat × Nat), uC (l ++ [u]) = uC l ++ [.int .i64 u.2.2, .int .i64 u.2.1, .string (mk u.1)]
  | [], u => rfl
  | v :: us, u => by simp [uC, uC_snoc us u]
theorem uC_at : ∀ (us : List (S.By × Nat × Nat)) (j : Nat) (u : S.By × Nat × Nat), us[j]? = some u → (uC us)[j * 3]? = some (.int .i64 u.2.2) ∧ (uC us)[j * 3 + 1]? = some (.int .i64 u.2.1) ∧ (uC us)[j * 3 + 2]? = some (.string (mk u.1))
  | [], j, u, h => by simp at h
  | v :: us, 0, u, h => by simp at h; subst h; exact ⟨rfl, rfl, rfl⟩
  | v :: us, j + 1, u, h => by
    have ih := uC_at us j u (by simpa using h)
    rw [show (j + 1) * 3 = j * 3 + 3 by omega, show j * 3 + 3 + 1 = (j * 3 + 1) + 3 by omega, show j * 3 + 3 + 2 = (j * 3 + 2) + 3 by omega]
    exact ih
def lineCells (ls : List S.By) : Array Value := (ls.map (fun s => Value.string (mk s))).toArray
structure BW (w0 : World) (mp gl : Nat) (ls : List S.By) (v5 v6 : Value) (st : S.St) (W : World) : Prop where
  low : Below w0.heap.size w0 W
  map : mapS W mp (pl st.places)
  hmp : w0.heap.size ≤ mp
  uses : W.ownsRow w0.heap.size 50 3 v6 st.uses.length (uC st.uses)
  rom : W.ownsRow w0.heap.size 5 1 v5 st.rom.length (Lib.byteCells st.rom)
  lines : W.heap[gl]? = some (.cells (lineCells ls) 9 (0, 0))
section
variable {w0 W W' : World} {mp gl : Nat} {ls : List S.By} {v5 v6 : Value} {st : S.St}
theorem BW.gl_lt (h : BW w0 mp gl ls v5 v6 st W) : gl < W.heap.size := (Array.getElem?_eq_some_iff.1 h.lines).1
theorem bw_line (h : BW w0 mp gl ls v5 v6 st W) (k : Nat) (t : S.By) (ht : ls[k]? = some t) : W.cell? ⟨gl, k, none⟩ = some (.string (mk t)) := by
  rw [Lib.cell_of_heap h.lines k]
  unfold lineCells
  rw [List.getElem?_toArray, List.getElem?_map, ht]; rfl
theorem BW.kept (h : BW w0 mp gl ls v5 v6 st W) (hb : Below W.heap.size W W') : BW w0 mp gl ls v5 v6 st W' :=
  ⟨stp h.low hb, h.map.below hb h.map.lt, h.hmp, h.uses.kept (grown_of_below hb) (own_none _), h.rom.kept (grown_of_below hb) (own_none _), (hb.block gl h.gl_lt).trans h.lines⟩
theorem BW.big (h : BW w0 mp gl ls v5 v6 st W) : w0.heap.size ≤ W.heap.size := h.low.size
theorem BW.af (h : BW w0 mp gl ls v5 v6 st W) (hF : AF w0) : AF W := hF.kept h.low
theorem BW.ef (h : BW w0 mp gl ls v5 v6 st W) (hE : EF w0) : EF W := hE.kept h.low
theorem BW.fa (h : BW w0 mp gl ls v5 v6 st W) (hE : Facts w0) : Facts W := hE.kept h.low
/-- Another place. -/
theorem BW.put_place (h : BW w0 mp gl ls v5 v6 st W) (hg : W.grownBy W' (some mp)) {ps : List (S.By × Nat)} (hm : mapS W' mp (pl ps)) : BW w0 mp gl ls v5 v6 { st with places := ps } W' := by
  obtain ⟨es, c, hb, _⟩ := h.map
  refine ⟨h.low.grown hg h.big (fun k hk => by cases hk; exact h.hmp), hm, h.hmp, h.uses.kept hg (Or.inr (row_ne h.uses hb (fun cur e => by simp at e))), h.rom.kept hg (Or.inr (row_ne h.rom hb (fun cur e => by simp at e))), (grown_blk hg h.gl_lt (fun e => ?_)).trans h.lines⟩
  rw [← Option.some.inj e, h.lines] at hb
  simp at hb
/-- Another program. -/
theorem BW.put_rom (h : BW w0 mp gl ls v5 v6 st W) (hg : W.grownBy W' v5.ownBlock) {v5' : Value} {rom' : S.By} (hown : W'.ownsRow w0.heap.size 5 1 v5' rom'.length (Lib.byteCells rom')) : BW w0 mp gl ls v5' v6 { st with rom := rom' } W' := by
  obtain ⟨es, c, hb, hm⟩ := h.map
  have h1 : v5.ownBlock ≠ some mp := row_ne h.rom hb (fun cur e => by simp at e)
  have h2 : v5.ownBlock ≠ some gl := row_ne h.rom h.lines (fun cur e => by simp at e)
  have h3 : v6.ownBlock = none ∨ v6.ownBlock ≠ v5.ownBlock := by
    cases hu : v6.ownBlock with
    | none => exact Or.inl rfl
    | some x =>
      refine Or.inr (fun e => ?_)
      rcases h.uses.2 with ⟨hv, _⟩ | ⟨g, cap, cur, hv, _, hg', _⟩
      · rw [hv] at hu; simp [Value.ownBlock] at hu
      · rw [hv] at hu
        simp only [Value.ownBlock, Option.some.injEq] at hu
        subst hu
        exact row_ne h.rom hg' (fun cur' e' => by simp at e') e.symm
  exact ⟨h.low.grown hg h.big (fun k hk => (h.rom.lt k hk).1), mapS.of_block ⟨es, c, hb, hm⟩ (grown_blk hg (mapS.lt ⟨es, c, hb, hm⟩) (Ne.symm h1)), h.hmp, h.uses.kept hg h3, hown, (grown_blk hg h.gl_lt (Ne.symm h2)).trans h.lines⟩
/-- Other uses. -/
theorem BW.put_uses (h : BW w0 mp gl ls v5 v6 st W) (hg : W.grownBy W' v6.ownBlock) {v6' : Value} {us' : List (S.By × Nat × Nat)} (hown : W'.ownsRow w0.heap.size 50 3 v6' us'.length (uC us')) : BW w0 mp gl ls v5 v6' { st with uses := us' } W' := by
  obtain ⟨es, c, hb, hm⟩ := h.map
  have h1 : v6.ownBlock ≠ some mp := row_ne h.uses hb (fun cur e => by simp at e)
  have h2 : v6.ownBlock ≠ some gl := row_ne h.uses h.lines (fun cur e => by simp at e)
  have h3 : v5.ownBlock = none ∨ v5.ownBlock ≠ v6.ownBlock := by
    cases hu : v5.ownBlock with
    | none => exact Or.inl rfl
    | some x =>
      refine Or.inr (fun e => ?_)
      rcases h.rom.2 with ⟨hv, _⟩ | ⟨g, cap, cur, hv, _, hg', _⟩
      · rw [hv] at hu; simp [Value.ownBlock] at hu
      · rw [hv] at hu
        simp only [Value.ownBlock, Option.some.injEq] at hu
        subst hu
        exact row_ne h.uses hg' (fun cur' e' => by simp at e') e.symm
  exact ⟨h.low.grown hg h.big (fun k hk => (h.uses.lt k hk).1), mapS.of_block ⟨es, c, hb, hm⟩ (grown_blk hg (mapS.lt ⟨es, c, hb, hm⟩) (Ne.symm h1)), h.hmp, hown, h.rom.kept hg h3, (grown_blk hg h.gl_lt (Ne.symm h2)).trans h.lines⟩
end
/-- The line's number lies in its box. -/
structure Bi (W : World) (bi k : Nat) : Prop where
  z : bi < W.heap.size
  c : W.cell? ⟨bi, 0, none⟩ = some (.int .i64 k)
theorem Bi.kept {W W' : World} {bi k : Nat} (h : Bi W bi k) (hb : Below W.heap.size W W') : Bi W' bi k := ⟨Nat.lt_of_lt_of_le h.z hb.size, (hb.cell (p := ⟨bi, 0, none⟩) h.z).trans h.c⟩
theorem Bi.new (W : World) (k : Nat) : Bi (W.alloc (.cells #[.int .i64 k] 3)) W.heap.size k := ⟨by simp, cell_new _ _ _ _ rfl⟩
theorem Bi.fail {W : World} {bi k : Nat} (h : Bi W bi k) (e : Int) : Calls Tryz.prog 13 #[.int .i64 e, .pointer (some ⟨bi, 0, none⟩)] W fun x w' => x = .returned (.tuple #[.slice none 0 0, .int .i64 k, .int .i64 e]) ∧ Below W.heap.size W w' := fail_any bi k e W h.z h.c
theorem row_form {w : World} {B : Nat} {e : TypeId} {s : Nat} {v : Value} {n : Nat} {xs : List Value} (h : w.ownsRow B e s v n xs) : ∃ ra rc, v = .slice ra n rc := by
  rcases h.2 with ⟨rfl, rfl⟩ | ⟨g, cap, cur, rfl, _⟩
  · exact ⟨_, _, rfl⟩
  · exact ⟨_, _, rfl⟩
theorem suffix_any (t : S.By) (ht : t.length ≤ 10000) (w : World) : Calls Tryz.prog 14 #[.string (mk t), .string ⟨#[58]⟩] w fun e w' => e = .returned (.bool (Lib.hasSuffix t [58])) ∧ w = w' :=
  (Tryz.strings_HasSuffix (mk t) ⟨#[58]⟩ w (by rw [mk_size]; omega)).mono fun e w' hh => ⟨hh.1, hh.2.symm⟩
theorem suffix_form {t : S.By} (h : Lib.hasSuffix t [58] = true) : ∃ r, t = r ++ [58] ∧ Lib.trimSuffix t [58] = r := by
  obtain ⟨r, hr⟩ := List.isSuffixOf_iff_suffix.1 (show [58].isSuffixOf t = true from h)
  refine ⟨r, hr.symm, ?_⟩
  unfold Lib.trimSuffix
  rw [if_pos h, ← hr]
  simp
set_option maxRecDepth 100000 in
set_option maxHeartbeats 1600000 in
theorem secB_none (Q : Exit → Act → World → Prop) (a : Act) (w : World) (v5 v6 : Value) (mp gl n k bi : Nat) (t : S.By) (hS : Sn a v5 v6 mp gl n k bi t) (ht : t.length ≤ 10000) (hs : Lib.hasSuffix t [58] = false)
    (hN : ∀ a', Sn a' v5 v6 mp gl n k bi t → Q .normal a' w) :
    ((cGo [1, 1, 1, 1, 1, 1, 1, 0, 1, 2, 3, 1, 1, 0, 2, 1, 1, 1, 0] bBody)).wp Tryz.prog Q a w := by
  obtain ⟨⟨sz, df, s5, s6, s7, s8, s52, s53, s54⟩, s9, s10, s11⟩ := hS
  have HS := hid (suffix_any t ht w)
  rw [hs] at HS
  clear hs
  obtain ⟨f, hf, rfl⟩ := act_open a sz df
  rw [hf] at s5 s6 s7 s8 s52 s53 s54 s9 s10 s11
  clear hf sz df
  rw [s5, s6, s7, s8, s52, s53, s54, s9, s10, s11]
  conv => arg 2; whnf
  go_wp2_with (go_at_call 14; refine HS.out.mono ?_; rintro e w1 ⟨rfl, rfl⟩)
  exact ⟨⟨rfl, rfl, rfl, rfl, rfl, rfl, rfl, rfl, rfl⟩, rfl, rfl, rfl⟩
set_option maxRecDepth 100000 in
set_option maxHeartbeats 1600000 in
theorem secB_bad (Q : Exit → Act → World → Prop) (a : Act) (w : World) (v5 v6 : Value) (mp gl n k bi : Nat) (r : S.By) (hS : Sn a v5 v6 mp gl n k bi (r ++ [58])) (ht : (r ++ [58]).length ≤ 10000) (hn : S.nameOk r = false) (hF : AF w) (hB : Bi w bi k)
    (hR : ∀ a' w', Rt a' k 1 → Below w.heap.size w w' → Q .ret a' w') :
    ((cGo [1, 1, 1, 1, 1, 1, 1, 0, 1, 2, 3, 1, 1, 0, 2, 1, 1, 1, 0] bBody)).wp Tryz.prog Q a w := by
  obtain ⟨⟨sz, df, s5, s6, s7, s8, s52, s53, s54⟩, s9, s10, s11⟩ := hS
  have HS := hid (suffix_any (r ++ [58]) ht w)
  rw [show Lib.hasSuffix (r ++ [58]) [58] = true from List.isSuffixOf_iff_suffix.2 ⟨r, rfl⟩] at HS
  have HN := hid (isName_any r w hF)
  rw [hn] at HN
  have hsz : (mk (r ++ [58])).size = r.length + 1 := by rw [mk_size]; simp
  have hex := mk_init 58 r
  have hl : r.length + 1 ≤ 10000 := by simpa using ht
  have HB := hid hB
  clear hn hB
  obtain ⟨f, hf, rfl⟩ := act_open a sz df
  rw [hf] at s5 s6 s7 s8 s52 s53 s54 s9 s10 s11
  clear hf sz df
  rw [s5, s6, s7, s8, s52, s53, s54, s9, s10, s11]
  conv => arg 2; whnf
  go_wp2_with (first
    | (go_at_call 14; refine HS.out.mono ?_; rintro e w1 ⟨rfl, rfl⟩)
    | (go_at_call 8; refine HN.out.mono ?_; rintro e w1 ⟨rfl, hb1⟩)
    | (go_at_call 13; refine ((HB.out.kept hb1).fail 1).mono ?_; rintro e w2 ⟨rfl, hb2⟩))
  exact hR _ _ ⟨rfl, rfl, rfl, rfl⟩ (stp hb1 hb2)
set_option maxRecDepth 100000 in
set_option maxHeartbeats 1600000 in
theorem secB_twice (Q : Exit → Act → World → Prop) (a : Act) (w w0 : World) (v5 v6 : Value) (mp gl n k bi : Nat) (ls : List S.By) (st : S.St) (r : S.By) (hS : Sn a v5 v6 mp gl n k bi (r ++ [58])) (ht : (r ++ [58]).length ≤ 10000) (hn : S.nameOk r = true) (q : S.By × Nat) (hf : st.places.find? (fun p => p.1 == r) = some q) (hF : AF w) (hB : Bi w bi k) (hW : BW w0 mp gl ls v5 v6 st w)
    (hR : ∀ a' w', Rt a' k 6 → Below w.heap.size w w' → Q .ret a' w') :
    ((cGo [1, 1, 1, 1, 1, 1, 1, 0, 1, 2, 3, 1, 1, 0, 2, 1, 1, 1, 0] bBody)).wp Tryz.prog Q a w := by
  obtain ⟨⟨sz, df, s5, s6, s7, s8, s52, s53, s54⟩, s9, s10, s11⟩ := hS
  have HS := hid (suffix_any (r ++ [58]) ht w)
  rw [show Lib.hasSuffix (r ++ [58]) [58] = true from List.isSuffixOf_iff_suffix.2 ⟨r, rfl⟩] at HS
  have HN := hid (isName_any r w hF)
  rw [hn] at HN
  have hsz : (mk (r ++ [58])).size = r.length + 1 := by rw [mk_size]; simp
  have hex := mk_init 58 r
  have hl : r.length + 1 ≤ 10000 := by simpa using ht
  have HB := hid hB
  have HL : Hid (∀ w1, Below w.heap.size w w1 → (Instr.lookup 32 (.map (some mp)) (.string (mk r)) true).run Tryz.prog w1 = .ok (.tuple #[.int .i64 q.2, .bool true]) w1) := fun w1 hb => lookup_place (hW.kept hb).map r q hf
  clear hn hB hW hf
  obtain ⟨f, hf, rfl⟩ := act_open a sz df
  rw [hf] at s5 s6 s7 s8 s52 s53 s54 s9 s10 s11
  clear hf sz df
  rw [s5, s6, s7, s8, s52, s53, s54, s9, s10, s11]
  conv => arg 2; whnf
  go_wp2_with (first
    | (go_at_call 14; refine HS.out.mono ?_; rintro e w1 ⟨rfl, rfl⟩)
    | (go_at_call 8; refine HN.out.mono ?_; rintro e w1 ⟨rfl, hb1⟩; have hlk := HL.out w1 hb1)
    | (go_at_call 13; refine ((HB.out.kept hb1).fail 6).mono ?_; rintro e w2 ⟨rfl, hb2⟩))
  exact hR _ _ ⟨rfl, rfl, rfl, rfl⟩ (stp hb1 hb2)
set_option maxRecDepth 100000 in
set_option maxHeartbeats 1600000 in
theorem secB_ok (Q : Exit → Act → World → Prop) (a : Act) (w w0 : World) (ra : Option Addr) (rc : Nat) (v6 : Value) (mp gl n k bi : Nat) (ls : List S.By) (st : S.St) (r : S.By) (hS : Sn a (.slice ra st.rom.length rc) v6 mp gl n k bi (r ++ [58])) (ht : (r ++ [58]).length ≤ 10000) (hn : S.nameOk r = true) (hf : st.places.find? (fun p => p.1 == r) = none) (hF : AF w) (hW : BW w0 mp gl ls (.slice ra st.rom.length rc) v6 st w)
    (hC : ∀ a' w', Sl a' (.slice ra st.rom.length rc) v6 mp gl n k → BW w0 mp gl ls (.slice ra st.rom.length rc) v6 { st with places := st.places ++ [(r, st.rom.length)] } w' → Q (.exit 1) a' w') :
    ((cGo [1, 1, 1, 1, 1, 1, 1, 0, 1, 2, 3, 1, 1, 0, 2, 1, 1, 1, 0] bBody)).wp Tryz.prog Q a w := by
  obtain ⟨⟨sz, df, s5, s6, s7, s8, s52, s53, s54⟩, s9, s10, s11⟩ := hS
  have HS := hid (suffix_any (r ++ [58]) ht w)
  rw [show Lib.hasSuffix (r ++ [58]) [58] = true from List.isSuffixOf_iff_suffix.2 ⟨r, rfl⟩] at HS
  have HN := hid (isName_any r w hF)
  rw [hn] at HN
  have hsz : (mk (r ++ [58])).size = r.length + 1 := by rw [mk_size]; simp
  have hex := mk_init 58 r
  have hl : r.length + 1 ≤ 10000 := by simpa using ht
  have hfp : (pl st.places).find? (fun p => p.1 == mk r) = none := by rw [pl_find, bs_mk, hf]; rfl
  have HL : Hid (∀ w1, Below w.heap.size w w1 → (Instr.lookup 32 (.map (some mp)) (.string (mk r)) true).run Tryz.prog w1 = .ok (.tuple #[.int .i64 0, .bool false]) w1) := fun w1 hb => by
    have hlk := lookup_s (P := Tryz.prog) Tryz.underlying32 Tryz.underlying9 (hW.kept hb).map (mk r) (zero_int w1)
    rw [hfp] at hlk
    exact hlk
  have HW := hid hW
  have HP := hid hfp
  clear hn hW hf hfp
  obtain ⟨f, hf, rfl⟩ := act_open a sz df
  rw [hf] at s5 s6 s7 s8 s52 s53 s54 s9 s10 s11
  clear hf sz df
  rw [s5, s6, s7, s8, s52, s53, s54, s9, s10, s11]
  conv => arg 2; whnf
  go_wp2_with (first
    | (go_at_call 14; refine HS.out.mono ?_; rintro e w1 ⟨rfl, rfl⟩)
    | (go_at_call 8; refine HN.out.mono ?_; rintro e w1 ⟨rfl, hb1⟩; have hlk := HL.out w1 hb1)
    | (refine wpList_store_s _ rfl _ _ _ 32 rfl 9 3 Tryz.underlying32 Tryz.underlying9 mp (pl st.places) rfl (HW.out.kept hb1).map (mk r) (st.rom.length : Int) rfl rfl HP.out ?_; intro w2 hm2 hg2))
  exact hC _ _ ⟨rfl, rfl, rfl, rfl, rfl, rfl, rfl, rfl, rfl⟩ ((HW.out.kept hb1).put_place hg2 (by rw [pl_snoc]; exact hm2))
/-- The slots of a line that is cut into its first word and its parts. -/
structure Sc (a : Act) (v5 v6 : Value) (mp gl n k bi : Nat) (t op rest : S.By) (v17 : Value) : Prop extends Sn a v5 v6 mp gl n k bi t where
  s14 : sl a 14 = .string (mk op)
  s15 : sl a 15 = .string (mk rest)
  s17 : sl a 17 = v17
theorem indexByte_sp (t : S.By) (w : World) : Calls Tryz.prog 15 #[.string (mk t), .int .u8 32] w fun e w' => e = .returned (.int .i64 (Lib.index t [32])) ∧ w = w' :=
  (Tryz.strings_IndexByte (mk t) 32 w).mono fun e w' hh => ⟨hh.1.trans (by rw [Lib.index_one]; rfl), hh.2.symm⟩
theorem mk_take (t : S.By) (i : Nat) : (mk t).extract 0 i = mk (t.take i) := by
  apply ByteArray.ext
  rw [ByteArray.data_extract]
  unfold mk
  simp
theorem mk_drop (t : S.By) (i : Nat) : (mk t).extract i (mk t).size = mk (t.drop i) := by
  apply ByteArray.ext
  rw [ByteArray.data_extract, mk_size]
  unfold mk
  simp
  rw [List.take_of_length_le (by simp)]
set_option maxRecDepth 100000 in
set_option maxHeartbeats 1600000 in
theorem secC_none (Q : Exit → Act → World → Prop) (a : Act) (w : World) (v5 v6 : Value) (mp gl n k bi : Nat) (t : S.By) (hS : Sn a v5 v6 mp gl n k bi t) (hi : Lib.index t [32] = -1)
    (hz : ∀ a' w', Sc a' v5 v6 mp gl n k bi t t [] (.slice none 0 0) → Below w.heap.size w w' → ((cGo [1, 1, 1, 1, 1, 1, 1, 0, 1, 2, 3, 1, 1, 0, 2, 1, 1, 1, 1, 1, 1, 1] bBody)).wp Tryz.prog Q a' w') :
    ((cGo [1, 1, 1, 1, 1, 1, 1, 0, 1, 2, 3, 1, 1, 0, 2, 1, 1, 1, 1] bBody)).wp Tryz.prog Q a w := by
  obtain ⟨⟨sz, df, s5, s6, s7, s8, s52, s53, s54⟩, s9, s10, s11⟩ := hS
  have HI := hid (indexByte_sp t w)
  rw [hi] at HI
  clear hi
  obtain ⟨f, hf, rfl⟩ := act_open a sz df
  rw [hf] at s5 s6 s7 s8 s52 s53 s54 s9 s10 s11
  clear hf sz df
  rw [s5, s6, s7, s8, s52, s53, s54, s9, s10, s11]
  show (Code.seq (cGo [1, 1, 1, 1, 1, 1, 1, 0, 1, 2, 3, 1, 1, 0, 2, 1, 1, 1, 1, 0] bBody) (Code.seq (cGo [1, 1, 1, 1, 1, 1, 1, 0, 1, 2, 3, 1, 1, 0, 2, 1, 1, 1, 1, 1, 0] bBody) (Code.seq (cGo [1, 1, 1, 1, 1, 1, 1, 0, 1, 2, 3, 1, 1, 0, 2, 1, 1, 1, 1, 1, 1, 0] bBody) (cGo [1, 1, 1, 1, 1, 1, 1, 0, 1, 2, 3, 1, 1, 0, 2, 1, 1, 1, 1, 1, 1, 1] bBody)))).wp Tryz.prog Q _ w
  revert hz
  generalize (cGo [1, 1, 1, 1, 1, 1, 1, 0, 1, 2, 3, 1, 1, 0, 2, 1, 1, 1, 1, 1, 1, 1] bBody) = z
  intro hz
  conv => arg 2; arg 1; whnf
  conv => arg 2; arg 2; arg 1; whnf
  conv => arg 2; arg 2; arg 2; arg 1; whnf
  go_wp2_with (go_at_call 15; refine HI.out.mono ?_; rintro e w1 ⟨rfl, rfl⟩)
  exact hz _ _ ⟨⟨⟨rfl, rfl, rfl, rfl, rfl, rfl, rfl, rfl, rfl⟩, rfl, rfl, rfl⟩, rfl, rfl, rfl⟩ (st0 w)
set_option maxRecDepth 100000 in
set_option maxHeartbeats 1600000 in
theorem secC_some (Q : Exit → Act → World → Prop) (a : Act) (w : World) (v5 v6 : Value) (mp gl n k bi : Nat) (t : S.By) (ht : t.length ≤ 10000) (hS : Sn a v5 v6 mp gl n k bi t) (i : Nat) (hi : Lib.index t [32] = i) (hil : i + 1 ≤ t.length)
    (hz : ∀ a' w', Sc a' v5 v6 mp gl n k bi t (t.take i) (t.drop (i + 1)) (.slice none 0 0) → Below w.heap.size w w' → ((cGo [1, 1, 1, 1, 1, 1, 1, 0, 1, 2, 3, 1, 1, 0, 2, 1, 1, 1, 1, 1, 1, 1] bBody)).wp Tryz.prog Q a' w') :
    ((cGo [1, 1, 1, 1, 1, 1, 1, 0, 1, 2, 3, 1, 1, 0, 2, 1, 1, 1, 1] bBody)).wp Tryz.prog Q a w := by
  obtain ⟨⟨sz, df, s5, s6, s7, s8, s52, s53, s54⟩, s9, s10, s11⟩ := hS
  have HI := hid (indexByte_sp t w)
  rw [hi] at HI
  have h1 := mk_take t i
  have h2 := mk_drop t (i + 1)
  have hsz : (mk t).size = t.length := mk_size t
  rw [hsz] at h2
  have hiI : (i : Int) ≤ t.length := by omega
  have hiJ : (i : Int) + 1 ≤ t.length := by omega
  clear hi
  obtain ⟨f, hf, rfl⟩ := act_open a sz df
  rw [hf] at s5 s6 s7 s8 s52 s53 s54 s9 s10 s11
  clear hf sz df
  rw [s5, s6, s7, s8, s52, s53, s54, s9, s10, s11]
  show (Code.seq (cGo [1, 1, 1, 1, 1, 1, 1, 0, 1, 2, 3, 1, 1, 0, 2, 1, 1, 1, 1, 0] bBody) (Code.seq (cGo [1, 1, 1, 1, 1, 1, 1, 0, 1, 2, 3, 1, 1, 0, 2, 1, 1, 1, 1, 1, 0] bBody) (Code.seq (cGo [1, 1, 1, 1, 1, 1, 1, 0, 1, 2, 3, 1, 1, 0, 2, 1, 1, 1, 1, 1, 1, 0] bBody) (cGo [1, 1, 1, 1, 1, 1, 1, 0, 1, 2, 3, 1, 1, 0, 2, 1, 1, 1, 1, 1, 1, 1] bBody)))).wp Tryz.prog Q _ w
  revert hz
  generalize (cGo [1, 1, 1, 1, 1, 1, 1, 0, 1, 2, 3, 1, 1, 0, 2, 1, 1, 1, 1, 1, 1, 1] bBody) = z
  intro hz
  conv => arg 2; arg 1; whnf
  conv => arg 2; arg 2; arg 1; whnf
  conv => arg 2; arg 2; arg 2; arg 1; whnf
  go_wp2_with (go_at_call 15; refine HI.out.mono ?_; rintro e w1 ⟨rfl, rfl⟩)
  all_goals go_region
  all_goals go_wp2
  all_goals exact hz _ _ ⟨⟨⟨rfl, rfl, rfl, rfl, rfl, rfl, rfl, rfl, rfl⟩, rfl, rfl, rfl⟩, rfl, rfl, rfl⟩ (st0 w).drew
def strC (ps : List S.By) : List Value := ps.map (fun s => Value.string (mk s))
theorem strC_len (ps : List S.By) : (strC ps).length = ps.length := by unfold strC; simp
theorem strC_snoc (ps : List S.By) (x : S.By) : strC (ps ++ [x]) = strC ps ++ [.string (mk x)] := by unfold strC; simp
theorem info_str : (Tryz.prog.info? 9).map (fun i => (i.zero, i.size, i.bytes)) = some (some (.string ⟨#[]⟩), 1, 16) := by kernel_rfl
set_option maxRecDepth 100000 in
set_option maxHeartbeats 1600000 in
theorem secD_stop (Q : Exit → Act → World → Prop) (B : Nat) (a : Act) (w : World) (v5 v6 v17 : Value) (mp gl n k bi : Nat) (t op rest : S.By) (ps : List S.By) (hS : Sc a v5 v6 mp gl n k bi t op rest v17) (hO : w.ownsRow B 9 1 v17 ps.length (strC ps)) (hBw : B ≤ w.heap.size) (hl : ps.length + rest.length ≤ 10000) (hF : AF w) (h0 : rest = [])
    (hX : ∀ a', Sc a' v5 v6 mp gl n k bi t op rest v17 → Q (.exit 2) a' w) :
    ((cGo [1, 1, 1, 1, 1, 1, 1, 0, 1, 2, 3, 1, 1, 0, 2, 1, 1, 1, 1, 1, 1, 1, 0, 2, 3] bBody)).wp Tryz.prog Q a w := by
  obtain ⟨⟨⟨sz, df, s5, s6, s7, s8, s52, s53, s54⟩, s9, s10, s11⟩, s14, s15, s17⟩ := hS
  obtain ⟨i0, hi0, hz0, hz1, hz2⟩ := info_parts info_str
  have HF := hid hF
  clear hF
  have he : (mk rest).toList.isEmpty = true := by rw [h0]; exact mk_empty []
  clear h0
  obtain ⟨f, hf, rfl⟩ := act_open a sz df
  rw [hf] at s5 s6 s7 s8 s52 s53 s54 s9 s10 s11 s14 s15 s17
  clear hf sz df
  rw [s5, s6, s7, s8, s52, s53, s54, s9, s10, s11, s14, s15, s17]
  conv => arg 2; whnf
  go_wp2
  exact ⟨⟨⟨rfl, rfl, rfl, rfl, rfl, rfl, rfl, rfl, rfl⟩, rfl, rfl, rfl⟩, rfl, rfl, rfl⟩
set_option maxRecDepth 100000 in
set_option maxHeartbeats 1600000 in
theorem secD_last (Q : Exit → Act → World → Prop) (B : Nat) (a : Act) (w : World) (v5 v6 v17 : Value) (mp gl n k bi : Nat) (t op rest : S.By) (ps : List S.By) (hS : Sc a v5 v6 mp gl n k bi t op rest v17) (hO : w.ownsRow B 9 1 v17 ps.length (strC ps)) (hBw : B ≤ w.heap.size) (hl : ps.length + rest.length ≤ 10000) (hF : AF w) (h0 : rest ≠ []) (hi : Lib.index rest S.comma = -1)
    (hX : ∀ a' w' v17', Sc a' v5 v6 mp gl n k bi t op rest v17' → w'.ownsRow B 9 1 v17' (ps ++ [rest]).length (strC (ps ++ [rest])) → Below B w w' → Q (.exit 2) a' w') :
    ((cGo [1, 1, 1, 1, 1, 1, 1, 0, 1, 2, 3, 1, 1, 0, 2, 1, 1, 1, 1, 1, 1, 1, 0, 2, 3] bBody)).wp Tryz.prog Q a w := by
  obtain ⟨⟨⟨sz, df, s5, s6, s7, s8, s52, s53, s54⟩, s9, s10, s11⟩, s14, s15, s17⟩ := hS
  obtain ⟨i0, hi0, hz0, hz1, hz2⟩ := info_parts info_str
  have HF := hid hF
  clear hF
  have he : (mk rest).toList.isEmpty = false := by rw [mk_empty]; cases rest <;> simp_all
  have HI := hid (index_any (mk rest) ⟨#[44, 32]⟩ (by rw [mk_size]; omega) w HF.out)
  rw [show Lib.index (mk rest).data.toList (⟨#[44, 32]⟩ : ByteArray).data.toList = -1 from hi] at HI
  have HROW := hid (hO.kept (grown_of_below (stA (st0 w) (.cells #[.string (mk rest)] 9))) (own_none _))
  have HO := hid hO
  clear h0 hi hO
  obtain ⟨f, hf, rfl⟩ := act_open a sz df
  rw [hf] at s5 s6 s7 s8 s52 s53 s54 s9 s10 s11 s14 s15 s17
  clear hf sz df
  rw [s5, s6, s7, s8, s52, s53, s54, s9, s10, s11, s14, s15, s17]
  conv => arg 2; whnf
  go_wp2_with (first
    | (go_at_call 16; refine HI.out.mono ?_; rintro e w1 ⟨rfl, rfl⟩)
    | (at_builtin; refine wpList_append_lies _ (by rfl) _ _ _ (by rfl) B 9 i0 _ 1 16 Tryz.underlying33 hi0 hz0 hz1 hz2 rfl (by omega) _ ps.length _ (by rfl) HROW.out ⟨w.heap.size, 0, none⟩ 1 1 [.string (mk rest)] (by rfl) (by rfl) (World.news_of_block (cs := #[.string (mk rest)]) (t := 9) (fr := (0, 0)) (heap_alloc_new w _)) (by simp [Value.oneCell']) (by omega) (by unfold maxLen; omega) (by omega) (by have := hBw; simp; omega) (w.heap.size + 1) (by simp) ?_; intro gg cp w3 hown3 hgrow hat hlt3))
  refine hX _ _ _ ⟨⟨⟨rfl, rfl, rfl, rfl, rfl, rfl, rfl, rfl, rfl⟩, rfl, rfl, rfl⟩, rfl, rfl, rfl⟩ ?_ ?_
  · rw [strC_snoc, List.length_append]; exact hown3
  · exact ((Below.refl B w).alloc hBw _).grown hgrow (by simp; omega) (fun k hk => (HO.out.lt k hk).1)
set_option maxRecDepth 100000 in
set_option maxHeartbeats 1600000 in
theorem secD_next (Q : Exit → Act → World → Prop) (B : Nat) (a : Act) (w : World) (v5 v6 v17 : Value) (mp gl n k bi : Nat) (t op rest : S.By) (ps : List S.By) (hS : Sc a v5 v6 mp gl n k bi t op rest v17) (hO : w.ownsRow B 9 1 v17 ps.length (strC ps)) (hBw : B ≤ w.heap.size) (hl : ps.length + rest.length ≤ 10000) (hF : AF w) (h0 : rest ≠ []) (i : Nat) (hi : Lib.index rest S.comma = i) (hil : i + 2 ≤ rest.length) (hd : rest.drop (i + 2) ≠ [])
    (hX : ∀ a' w' v17', Sc a' v5 v6 mp gl n k bi t op (rest.drop (i + 2)) v17' → w'.ownsRow B 9 1 v17' (ps ++ [rest.take i]).length (strC (ps ++ [rest.take i])) → Below B w w' → Q .normal a' w') :
    ((cGo [1, 1, 1, 1, 1, 1, 1, 0, 1, 2, 3, 1, 1, 0, 2, 1, 1, 1, 1, 1, 1, 1, 0, 2, 3] bBody)).wp Tryz.prog Q a w := by
  obtain ⟨⟨⟨sz, df, s5, s6, s7, s8, s52, s53, s54⟩, s9, s10, s11⟩, s14, s15, s17⟩ := hS
  obtain ⟨i0, hi0, hz0, hz1, hz2⟩ := info_parts info_str
  have HF := hid hF
  clear hF
  have he : (mk rest).toList.isEmpty = false := by rw [mk_empty]; cases rest <;> simp_all
  have he2 : (mk (rest.drop (i + 2))).toList.isEmpty = false := by rw [mk_empty]; cases h : rest.drop (i + 2) <;> simp_all
  have HI := hid (index_any (mk rest) ⟨#[44, 32]⟩ (by rw [mk_size]; omega) w HF.out)
  rw [show Lib.index (mk rest).data.toList (⟨#[44, 32]⟩ : ByteArray).data.toList = i from hi] at HI
  have h1 := mk_take rest i
  have h2 := mk_drop rest (i + 2)
  have hsz : (mk rest).size = rest.length := mk_size rest
  rw [hsz] at h2
  have hiI : (i : Int) ≤ rest.length := by omega
  have hiJ : (i : Int) + 2 ≤ rest.length := by omega
  have HROW := hid (hO.kept (grown_of_below (stA (st0 w) (.cells #[.string (mk (rest.take i))] 9))) (own_none _))
  have HO := hid hO
  clear h0 hi hO hd
  obtain ⟨f, hf, rfl⟩ := act_open a sz df
  rw [hf] at s5 s6 s7 s8 s52 s53 s54 s9 s10 s11 s14 s15 s17
  clear hf sz df
  rw [s5, s6, s7, s8, s52, s53, s54, s9, s10, s11, s14, s15, s17]
  conv => arg 2; whnf
  go_wp2_with (first
    | (go_at_call 16; refine HI.out.mono ?_; rintro e w1 ⟨rfl, rfl⟩)
    | (at_builtin; refine wpList_append_lies _ (by rfl) _ _ _ (by rfl) B 9 i0 _ 1 16 Tryz.underlying33 hi0 hz0 hz1 hz2 rfl (by omega) _ ps.length _ (by rfl) HROW.out ⟨w.heap.size, 0, none⟩ 1 1 [.string (mk (rest.take i))] (by rfl) (by rfl) (World.news_of_block (cs := #[.string (mk (rest.take i))]) (t := 9) (fr := (0, 0)) (heap_alloc_new w _)) (by simp [Value.oneCell']) (by omega) (by unfold maxLen; omega) (by omega) (by have := hBw; simp; omega) (w.heap.size + 1) (by simp) ?_; intro gg cp w3 hown3 hgrow hat hlt3))
  refine hX _ _ _ ⟨⟨⟨rfl, rfl, rfl, rfl, rfl, rfl, rfl, rfl, rfl⟩, rfl, rfl, rfl⟩, rfl, by first | rfl | exact congrArg Value.string h2, rfl⟩ ?_ ?_
  · rw [strC_snoc, List.length_append]; exact hown3
  · exact ((Below.refl B w).alloc hBw _).grown hgrow (by simp; omega) (fun k hk => (HO.out.lt k hk).1)
set_option maxRecDepth 100000 in
set_option maxHeartbeats 1600000 in
theorem secD_end (Q : Exit → Act → World → Prop) (B : Nat) (a : Act) (w : World) (v5 v6 v17 : Value) (mp gl n k bi : Nat) (t op rest : S.By) (ps : List S.By) (hS : Sc a v5 v6 mp gl n k bi t op rest v17) (hO : w.ownsRow B 9 1 v17 ps.length (strC ps)) (hBw : B ≤ w.heap.size) (hl : ps.length + rest.length ≤ 10000) (hF : AF w) (h0 : rest ≠ []) (i : Nat) (hi : Lib.index rest S.comma = i) (hil : i + 2 ≤ rest.length) (hd : rest.drop (i + 2) = [])
    (hX : ∀ a' w' v17', Sc a' v5 v6 mp gl n k bi t op [] v17' → w'.ownsRow B 9 1 v17' (ps ++ [rest.take i] ++ [[]]).length (strC (ps ++ [rest.take i] ++ [[]])) → Below B w w' → Q .normal a' w') :
    ((cGo [1, 1, 1, 1, 1, 1, 1, 0, 1, 2, 3, 1, 1, 0, 2, 1, 1, 1, 1, 1, 1, 1, 0, 2, 3] bBody)).wp Tryz.prog Q a w := by
  obtain ⟨⟨⟨sz, df, s5, s6, s7, s8, s52, s53, s54⟩, s9, s10, s11⟩, s14, s15, s17⟩ := hS
  obtain ⟨i0, hi0, hz0, hz1, hz2⟩ := info_parts info_str
  have HF := hid hF
  clear hF
  have he : (mk rest).toList.isEmpty = false := by rw [mk_empty]; cases rest <;> simp_all
  have he2 : (mk []).toList.isEmpty = true := mk_empty []
  have HI := hid (index_any (mk rest) ⟨#[44, 32]⟩ (by rw [mk_size]; omega) w HF.out)
  rw [show Lib.index (mk rest).data.toList (⟨#[44, 32]⟩ : ByteArray).data.toList = i from hi] at HI
  have h1 := mk_take rest i
  have h2 := mk_drop rest (i + 2)
  rw [hd] at h2
  have hsz : (mk rest).size = rest.length := mk_size rest
  rw [hsz] at h2
  have hiI : (i : Int) ≤ rest.length := by omega
  have hiJ : (i : Int) + 2 ≤ rest.length := by omega
  have HROW := hid (hO.kept (grown_of_below (stA (st0 w) (.cells #[.string (mk (rest.take i))] 9))) (own_none _))
  have HO := hid hO
  clear h0 hi hO hd
  obtain ⟨f, hf, rfl⟩ := act_open a sz df
  rw [hf] at s5 s6 s7 s8 s52 s53 s54 s9 s10 s11 s14 s15 s17
  clear hf sz df
  rw [s5, s6, s7, s8, s52, s53, s54, s9, s10, s11, s14, s15, s17]
  conv => arg 2; whnf
  go_wp2_with (first
    | (go_at_call 16; refine HI.out.mono ?_; rintro e w1 ⟨rfl, rfl⟩)
    | (have zz := HR4.out; clear zz; at_builtin; refine wpList_append_lies _ (by rfl) _ _ _ (by rfl) B 9 i0 _ 1 16 Tryz.underlying33 hi0 hz0 hz1 hz2 rfl (by omega) _ (ps.length + 1) _ (by rfl) HR4.out ⟨w3.heap.size, 0, none⟩ 1 1 [.string (⟨#[]⟩ : ByteArray)] (by rfl) (by rfl) (World.news_of_block (cs := #[.string (⟨#[]⟩ : ByteArray)]) (t := 9) (fr := (0, 0)) (heap_alloc_new w3 _)) (by simp [Value.oneCell']) (by omega) (by unfold maxLen; omega) (by omega) (by have := hBw; have := hgrow.size; simp at this ⊢; omega) (w3.heap.size + 1) (by simp) ?_; intro gg4 cp4 w4 hown4 hgrow4 hat4 hlt4)
    | (at_builtin; refine wpList_append_lies _ (by rfl) _ _ _ (by rfl) B 9 i0 _ 1 16 Tryz.underlying33 hi0 hz0 hz1 hz2 rfl (by omega) _ ps.length _ (by rfl) HROW.out ⟨w.heap.size, 0, none⟩ 1 1 [.string (mk (rest.take i))] (by rfl) (by rfl) (World.news_of_block (cs := #[.string (mk (rest.take i))]) (t := 9) (fr := (0, 0)) (heap_alloc_new w _)) (by simp [Value.oneCell']) (by omega) (by unfold maxLen; omega) (by omega) (by have := hBw; simp; omega) (w.heap.size + 1) (by simp) ?_; intro gg cp w3 hown3 hgrow hat hlt3; have HR4 := hid (hown3.kept (grown_of_below (stA (st0 w3) (.cells #[.string (⟨#[]⟩ : ByteArray)] 9))) (own_none _)); have HG3 := hid hgrow; have HO3 := hid hown3; clear hown3))
  have hb3 : Below B w w3 := ((Below.refl B w).alloc hBw _).grown HG3.out (by simp; omega) (fun k hk => (HO.out.lt k hk).1)
  refine hX _ _ _ ⟨⟨⟨rfl, rfl, rfl, rfl, rfl, rfl, rfl, rfl, rfl⟩, rfl, rfl, rfl⟩, rfl, rfl, rfl⟩ ?_ ?_
  · rw [strC_snoc, strC_snoc, List.length_append, List.length_append]; exact hown4
  · exact (hb3.alloc (Nat.le_trans hBw hb3.size) _).grown hgrow4 (by have := hb3.size; simp; omega) (fun k hk => (HO3.out.lt k hk).1)
theorem ex_in {K : Act → World → Prop} {Q : Exit → Act → World → Prop} {i : Nat} {a : Act} {w : World} (h : Q .normal a w) : Exit.then K (Exit.inBlock i Q) (.exit i) a w := by
  show (if i = i then Q .normal a w else Q (.exit i) a w)
  rw [if_pos rfl]; exact h
theorem partsL (r : S.By) : (S.partsOf r).length ≤ r.length + 1 := by
  have key : ∀ n (r : S.By), r.length ≤ n → (S.partsOf r).length ≤ r.length + 1 := by
    intro n
    induction n with
    | zero =>
      intro r hr
      have : r = [] := List.length_eq_zero_iff.1 (by omega)
      subst this
      rw [S.partsOf_nil]; simp
    | succ n ih =>
      intro r hr
      by_cases h0 : r = []
      · subst h0; rw [S.partsOf_nil]; simp
      rcases S.index_or r S.comma with h | ⟨i, h, hi⟩
      · rw [S.partsOf_miss h0 h]; simp
      · have hi2 : i + 2 ≤ r.length := hi
        by_cases hd : r.drop (i + 2) = []
        · rw [S.partsOf_end h0 h hd]; simp; omega
        · rw [S.partsOf_hit h0 h hd]
          have := ih (r.drop (i + 2)) (by simp; omega)
          simp at this ⊢; omega
  exact key r.length r (Nat.le_refl _)
/-- The parts' loop, between two rounds. -/
def ID (w0 : World) (v5 v6 : Value) (mp gl n k bi : Nat) (t op rest : S.By) (a : Act) (w : World) : Prop :=
  ∃ ps r v17, Sc a v5 v6 mp gl n k bi t op r v17 ∧ w.ownsRow w0.heap.size 9 1 v17 ps.length (strC ps) ∧ Below w0.heap.size w0 w ∧ ps ++ S.partsOf r = S.partsOf rest ∧ ps.length + r.length ≤ rest.length
def μD (a : Act) (_ : World) : Nat := match sl a 15 with | .string x => x.size | _ => 0
theorem μD_at {a : Act} {w : World} {v5 v6 v17 : Value} {mp gl n k bi : Nat} {t op r : S.By} (h : Sc a v5 v6 mp gl n k bi t op r v17) : μD a w = r.length := by
  unfold μD
  rw [h.s15]
  exact mk_size r
theorem secD (Q : Exit → Act → World → Prop) (a : Act) (w : World) (v5 v6 : Value) (mp gl n k bi : Nat) (t op rest : S.By) (hS : Sc a v5 v6 mp gl n k bi t op rest (.slice none 0 0)) (hl : rest.length ≤ 5000) (hF : AF w)
    (hN : ∀ a' w' v17 r, Sc a' v5 v6 mp gl n k bi t op r v17 → w'.ownsRow w.heap.size 9 1 v17 (S.partsOf rest).length (strC (S.partsOf rest)) → Below w.heap.size w w' → Q .normal a' w') :
    ((cGo [1, 1, 1, 1, 1, 1, 1, 0, 1, 2, 3, 1, 1, 0, 2, 1, 1, 1, 1, 1, 1, 1, 0] bBody)).wp Tryz.prog Q a w := by
  show (Code.block 2 (Code.loop (cGo [1, 1, 1, 1, 1, 1, 1, 0, 1, 2, 3, 1, 1, 0, 2, 1, 1, 1, 1, 1, 1, 1, 0, 2, 3] bBody))).wp Tryz.prog Q a w
  refine wp_block (wp_loop (ID w v5 v6 mp gl n k bi t op rest) μD ⟨[], rest, _, hS, ⟨rfl, Or.inl ⟨rfl, rfl⟩⟩, st0 w, rfl, by simp⟩ ?_)
  rintro a1 w1 ⟨ps, r, v17, hS1, hO1, hb1, hp, hlen⟩
  have hm := μD_at (w := w1) hS1
  rw [hm]
  have hB1 := hb1.size
  have hF1 := hF.kept hb1
  by_cases h0 : r = []
  · refine secD_stop _ w.heap.size a1 w1 v5 v6 v17 mp gl n k bi t op r ps hS1 hO1 hB1 (by omega) hF1 h0 (fun a' h => ex_in (hN a' w1 v17 r h ?_ hb1))
    rw [h0, S.partsOf_nil, List.append_nil] at hp
    rw [← hp]; exact hO1
  · rcases S.index_or r S.comma with h | ⟨i, h, hi⟩
    · refine secD_last _ w.heap.size a1 w1 v5 v6 v17 mp gl n k bi t op r ps hS1 hO1 hB1 (by omega) hF1 h0 h (fun a' w' v' h1 h2 h3 => ex_in (hN a' w' v' r h1 ?_ (hb1.trans h3)))
      rw [S.partsOf_miss h0 h] at hp
      rw [← hp]; exact h2
    · have hi2 : i + 2 ≤ r.length := hi
      by_cases hd : r.drop (i + 2) = []
      · refine secD_end _ w.heap.size a1 w1 v5 v6 v17 mp gl n k bi t op r ps hS1 hO1 hB1 (by omega) hF1 h0 i h hi2 hd (fun a' w' v' h1 h2 h3 => ⟨⟨_, [], v', h1, h2, hb1.trans h3, ?_, ?_⟩, ?_⟩)
        · rw [S.partsOf_nil, List.append_nil, ← hp, S.partsOf_end h0 h hd]; simp
        · simp; omega
        · rw [μD_at (w := w') h1]; simp; omega
      · refine secD_next _ w.heap.size a1 w1 v5 v6 v17 mp gl n k bi t op r ps hS1 hO1 hB1 (by omega) hF1 h0 i h hi2 hd (fun a' w' v' h1 h2 h3 => ⟨⟨_, _, v', h1, h2, hb1.trans h3, ?_, ?_⟩, ?_⟩)
        · rw [← hp, S.partsOf_hit h0 h hd]; simp
        · simp; omega
        · rw [μD_at (w := w') h1]; simp; omega
/-- The slots of a line whose words are known. -/
structure Se (a : Act) (v5 v6 : Value) (mp gl n k bi : Nat) (t : S.By) (g c : Nat) (ws : List Int) (nm : S.By) : Prop extends Sn a v5 v6 mp gl n k bi t where
  s19 : sl a 19 = .slice (some ⟨g, 0, none⟩) ws.length c
  s20 : sl a 20 = .string (mk nm)
theorem whole_at (p : S.By) (hp : p.length ≤ 10000) (w : World) (hF : AF w) (hE : EF w) :
    Calls Tryz.prog 17 #[.string (mk p)] w fun e w' => ∃ n, e = .returned (.tuple #[.int .i64 n, .bool (S.num p).isSome]) ∧ (∀ v, S.num p = some v → n = v) ∧ Below w.heap.size w w' := by
  have := whole_any (mk p) (by rw [mk_size]; exact hp) w hF hE
  rw [bs_mk] at this
  exact this
theorem row_one {w : World} {B : Nat} {v : Value} {p : S.By} (h : w.ownsRow B 9 1 v 1 (strC [p])) : ∃ g c, v = .slice (some ⟨g, 0, none⟩) 1 c ∧ w.cell? ⟨g, 0, none⟩ = some (.string (mk p)) ∧ g < w.heap.size := by
  rcases h.2 with ⟨_, h0⟩ | ⟨g, cap, cur, rfl, _⟩
  · omega
  · have hc := h.cellAt 0 (by omega)
    exact ⟨g, cap, rfl, hc, World.block_lt_of_cell? w _ hc⟩
set_option maxRecDepth 100000 in
set_option maxHeartbeats 1600000 in
theorem secE_form (Q : Exit → Act → World → Prop) (a : Act) (w : World) (v5 v6 : Value) (mp gl n k bi : Nat) (t op rest : S.By) (ra : Option Addr) (L rc : Nat) (hS : Sc a v5 v6 mp gl n k bi t op rest (.slice ra L rc)) (ho : op = S.plain) (hL : L ≠ 1) (hLb : L ≤ 10000) (hB : Bi w bi k)
    (hR : ∀ a' w', Rt a' k 4 → Below w.heap.size w w' → Q .ret a' w') :
    ((cGo [1, 1, 1, 1, 1, 1, 1, 0, 1, 2, 3, 1, 1, 0, 2, 1, 1, 1, 1, 1, 1, 1, 1] bBody)).wp Tryz.prog Q a w := by
  obtain ⟨⟨⟨sz, df, s5, s6, s7, s8, s52, s53, s54⟩, s9, s10, s11⟩, s14, s15, s17⟩ := hS
  have hop : ((mk op).toList == [46, 119, 111, 114, 100]) = true := by rw [ho, mk_toList]; rfl
  have hL1 : ((L : Int) == 1) = false := by simp; omega
  have hL2 : ((L : Int) != 1) = true := by simp; omega
  have HB := hid hB
  clear hB ho hL
  obtain ⟨f, hf, rfl⟩ := act_open a sz df
  rw [hf] at s5 s6 s7 s8 s52 s53 s54 s9 s10 s11 s14 s15 s17
  clear hf sz df
  rw [s5, s6, s7, s8, s52, s53, s54, s9, s10, s11, s14, s15, s17]
  show (Code.seq (cGo [1, 1, 1, 1, 1, 1, 1, 0, 1, 2, 3, 1, 1, 0, 2, 1, 1, 1, 1, 1, 1, 1, 1, 0] bBody) (Code.seq (cGo [1, 1, 1, 1, 1, 1, 1, 0, 1, 2, 3, 1, 1, 0, 2, 1, 1, 1, 1, 1, 1, 1, 1, 1, 0] bBody) (Code.seq (cGo [1, 1, 1, 1, 1, 1, 1, 0, 1, 2, 3, 1, 1, 0, 2, 1, 1, 1, 1, 1, 1, 1, 1, 1, 1, 0] bBody) (cGo [1, 1, 1, 1, 1, 1, 1, 0, 1, 2, 3, 1, 1, 0, 2, 1, 1, 1, 1, 1, 1, 1, 1, 1, 1, 1] bBody)))).wp Tryz.prog Q _ w
  generalize (cGo [1, 1, 1, 1, 1, 1, 1, 0, 1, 2, 3, 1, 1, 0, 2, 1, 1, 1, 1, 1, 1, 1, 1, 1, 1, 1] bBody) = z
  conv => arg 2; arg 1; whnf
  conv => arg 2; arg 2; arg 1; whnf
  conv => arg 2; arg 2; arg 2; arg 1; whnf
  go_wp2_with (go_at_call 13; refine (HB.out.fail 4).mono ?_; rintro e w2 ⟨rfl, hb2⟩)
  exact hR _ _ ⟨rfl, rfl, rfl, rfl⟩ hb2
set_option maxRecDepth 100000 in
set_option maxHeartbeats 1600000 in
theorem secE_name (Q : Exit → Act → World → Prop) (a : Act) (w : World) (v5 v6 : Value) (mp gl n k bi : Nat) (t op rest : S.By) (g cp : Nat) (p : S.By) (hS : Sc a v5 v6 mp gl n k bi t op rest (.slice (some ⟨g, 0, none⟩) 1 cp)) (ho : op = S.plain) (hg : g < w.heap.size) (hc : w.cell? ⟨g, 0, none⟩ = some (.string (mk p))) (hp : p.length ≤ 10000) (hB : Bi w bi k) (hF : AF w) (hE : EF w) (hn : S.nameOk p = true)
    (hz : ∀ a' w' g' c', Se a' v5 v6 mp gl n k bi t g' c' [0] p → wordsAt w' g' [0] → g' < w'.heap.size → Below w.heap.size w w' → ((cGo [1, 1, 1, 1, 1, 1, 1, 0, 1, 2, 3, 1, 1, 0, 2, 1, 1, 1, 1, 1, 1, 1, 1, 1, 1, 1] bBody)).wp Tryz.prog Q a' w') :
    ((cGo [1, 1, 1, 1, 1, 1, 1, 0, 1, 2, 3, 1, 1, 0, 2, 1, 1, 1, 1, 1, 1, 1, 1] bBody)).wp Tryz.prog Q a w := by
  obtain ⟨⟨⟨sz, df, s5, s6, s7, s8, s52, s53, s54⟩, s9, s10, s11⟩, s14, s15, s17⟩ := hS
  have hop : ((mk op).toList == [46, 119, 111, 114, 100]) = true := by rw [ho, mk_toList]; rfl
  have HB := hid hB
  have HWh := hid (whole_at p hp w hF hE)
  have HNm : Hid (∀ w', AF w' → Calls Tryz.prog 8 #[.string (mk p)] w' fun e w' => e = .returned (.bool (S.nameOk p)) ∧ Below _ _ w') := fun w' h => isName_any p w' h
  have HF := hid hF
  rw [hn] at HNm
  clear hn
  clear hB ho hF hE
  obtain ⟨f, hf, rfl⟩ := act_open a sz df
  rw [hf] at s5 s6 s7 s8 s52 s53 s54 s9 s10 s11 s14 s15 s17
  clear hf sz df
  rw [s5, s6, s7, s8, s52, s53, s54, s9, s10, s11, s14, s15, s17]
  show (Code.seq (cGo [1, 1, 1, 1, 1, 1, 1, 0, 1, 2, 3, 1, 1, 0, 2, 1, 1, 1, 1, 1, 1, 1, 1, 0] bBody) (Code.seq (cGo [1, 1, 1, 1, 1, 1, 1, 0, 1, 2, 3, 1, 1, 0, 2, 1, 1, 1, 1, 1, 1, 1, 1, 1, 0] bBody) (Code.seq (cGo [1, 1, 1, 1, 1, 1, 1, 0, 1, 2, 3, 1, 1, 0, 2, 1, 1, 1, 1, 1, 1, 1, 1, 1, 1, 0] bBody) (cGo [1, 1, 1, 1, 1, 1, 1, 0, 1, 2, 3, 1, 1, 0, 2, 1, 1, 1, 1, 1, 1, 1, 1, 1, 1, 1] bBody)))).wp Tryz.prog Q _ w
  revert hz
  generalize (cGo [1, 1, 1, 1, 1, 1, 1, 0, 1, 2, 3, 1, 1, 0, 2, 1, 1, 1, 1, 1, 1, 1, 1, 1, 1, 1] bBody) = z
  intro hz
  conv => arg 2; arg 1; whnf
  conv => arg 2; arg 2; arg 1; whnf
  conv => arg 2; arg 2; arg 2; arg 1; whnf
  go_wp2_with (first
    | (go_at_call 17; refine HWh.out.mono ?_; rintro e w1 ⟨nv, rfl, hnv, hb1⟩; obtain ⟨k1, f1⟩ := bcell hb1; have z1 := Nat.lt_of_lt_of_le hg hb1.size)
    | (go_at_call 8; refine (HNm.out _ (HF.out.kept hb1)).mono ?_; rintro e w2 ⟨rfl, hb2⟩; obtain ⟨k2, f2⟩ := bcell hb2; have z2 := Nat.lt_of_lt_of_le z1 hb2.size)
    | (go_at_call 13; refine (((HB.out.kept hb1).kept hb2).fail _).mono ?_; rintro e w3 ⟨rfl, hb3⟩))
  refine hz _ _ _ _ ⟨⟨⟨rfl, rfl, rfl, rfl, rfl, rfl, rfl, rfl, rfl⟩, rfl, rfl, rfl⟩, rfl, rfl⟩ ?_ (by simp) (stA (stp hb1 hb2) _)
  intro j hj
  match j, hj with
  | 0, _ => exact cell_new _ _ _ _ rfl
set_option maxRecDepth 100000 in
set_option maxHeartbeats 1600000 in
theorem secE_none (Q : Exit → Act → World → Prop) (a : Act) (w : World) (v5 v6 : Value) (mp gl n k bi : Nat) (t op rest : S.By) (g cp : Nat) (p : S.By) (hS : Sc a v5 v6 mp gl n k bi t op rest (.slice (some ⟨g, 0, none⟩) 1 cp)) (ho : op = S.plain) (hg : g < w.heap.size) (hc : w.cell? ⟨g, 0, none⟩ = some (.string (mk p))) (hp : p.length ≤ 10000) (hB : Bi w bi k) (hF : AF w) (hE : EF w) (hn : S.nameOk p = false) (hm : S.num p = none)
    (hR : ∀ a' w', Rt a' k 1 → Below w.heap.size w w' → Q .ret a' w') :
    ((cGo [1, 1, 1, 1, 1, 1, 1, 0, 1, 2, 3, 1, 1, 0, 2, 1, 1, 1, 1, 1, 1, 1, 1] bBody)).wp Tryz.prog Q a w := by
  obtain ⟨⟨⟨sz, df, s5, s6, s7, s8, s52, s53, s54⟩, s9, s10, s11⟩, s14, s15, s17⟩ := hS
  have hop : ((mk op).toList == [46, 119, 111, 114, 100]) = true := by rw [ho, mk_toList]; rfl
  have HB := hid hB
  have HWh := hid (whole_at p hp w hF hE)
  have HNm : Hid (∀ w', AF w' → Calls Tryz.prog 8 #[.string (mk p)] w' fun e w' => e = .returned (.bool (S.nameOk p)) ∧ Below _ _ w') := fun w' h => isName_any p w' h
  have HF := hid hF
  rw [hn] at HNm
  rw [hm] at HWh
  clear hn hm
  clear hB ho hF hE
  obtain ⟨f, hf, rfl⟩ := act_open a sz df
  rw [hf] at s5 s6 s7 s8 s52 s53 s54 s9 s10 s11 s14 s15 s17
  clear hf sz df
  rw [s5, s6, s7, s8, s52, s53, s54, s9, s10, s11, s14, s15, s17]
  show (Code.seq (cGo [1, 1, 1, 1, 1, 1, 1, 0, 1, 2, 3, 1, 1, 0, 2, 1, 1, 1, 1, 1, 1, 1, 1, 0] bBody) (Code.seq (cGo [1, 1, 1, 1, 1, 1, 1, 0, 1, 2, 3, 1, 1, 0, 2, 1, 1, 1, 1, 1, 1, 1, 1, 1, 0] bBody) (Code.seq (cGo [1, 1, 1, 1, 1, 1, 1, 0, 1, 2, 3, 1, 1, 0, 2, 1, 1, 1, 1, 1, 1, 1, 1, 1, 1, 0] bBody) (cGo [1, 1, 1, 1, 1, 1, 1, 0, 1, 2, 3, 1, 1, 0, 2, 1, 1, 1, 1, 1, 1, 1, 1, 1, 1, 1] bBody)))).wp Tryz.prog Q _ w
  generalize (cGo [1, 1, 1, 1, 1, 1, 1, 0, 1, 2, 3, 1, 1, 0, 2, 1, 1, 1, 1, 1, 1, 1, 1, 1, 1, 1] bBody) = z
  conv => arg 2; arg 1; whnf
  conv => arg 2; arg 2; arg 1; whnf
  conv => arg 2; arg 2; arg 2; arg 1; whnf
  go_wp2_with (first
    | (go_at_call 17; refine HWh.out.mono ?_; rintro e w1 ⟨nv, rfl, hnv, hb1⟩; obtain ⟨k1, f1⟩ := bcell hb1; have z1 := Nat.lt_of_lt_of_le hg hb1.size)
    | (go_at_call 8; refine (HNm.out _ (HF.out.kept hb1)).mono ?_; rintro e w2 ⟨rfl, hb2⟩; obtain ⟨k2, f2⟩ := bcell hb2; have z2 := Nat.lt_of_lt_of_le z1 hb2.size)
    | (go_at_call 13; refine (((HB.out.kept hb1).kept hb2).fail _).mono ?_; rintro e w3 ⟨rfl, hb3⟩))
  exact hR _ _ ⟨rfl, rfl, rfl, rfl⟩ (stp (stp hb1 hb2) hb3)
set_option maxRecDepth 100000 in
set_option maxHeartbeats 1600000 in
theorem secE_low (Q : Exit → Act → World → Prop) (a : Act) (w : World) (v5 v6 : Value) (mp gl n k bi : Nat) (t op rest : S.By) (g cp : Nat) (p : S.By) (hS : Sc a v5 v6 mp gl n k bi t op rest (.slice (some ⟨g, 0, none⟩) 1 cp)) (ho : op = S.plain) (hg : g < w.heap.size) (hc : w.cell? ⟨g, 0, none⟩ = some (.string (mk p))) (hp : p.length ≤ 10000) (hB : Bi w bi k) (hF : AF w) (hE : EF w) (hn : S.nameOk p = false) (v : Int) (hm : S.num p = some v) (hv : v < 0)
    (hR : ∀ a' w', Rt a' k 3 → Below w.heap.size w w' → Q .ret a' w') :
    ((cGo [1, 1, 1, 1, 1, 1, 1, 0, 1, 2, 3, 1, 1, 0, 2, 1, 1, 1, 1, 1, 1, 1, 1] bBody)).wp Tryz.prog Q a w := by
  obtain ⟨⟨⟨sz, df, s5, s6, s7, s8, s52, s53, s54⟩, s9, s10, s11⟩, s14, s15, s17⟩ := hS
  have hop : ((mk op).toList == [46, 119, 111, 114, 100]) = true := by rw [ho, mk_toList]; rfl
  have HB := hid hB
  have HWh := hid (whole_at p hp w hF hE)
  have HNm : Hid (∀ w', AF w' → Calls Tryz.prog 8 #[.string (mk p)] w' fun e w' => e = .returned (.bool (S.nameOk p)) ∧ Below _ _ w') := fun w' h => isName_any p w' h
  have HF := hid hF
  rw [hn] at HNm
  rw [hm] at HWh
  clear hn hm
  clear hB ho hF hE
  obtain ⟨f, hf, rfl⟩ := act_open a sz df
  rw [hf] at s5 s6 s7 s8 s52 s53 s54 s9 s10 s11 s14 s15 s17
  clear hf sz df
  rw [s5, s6, s7, s8, s52, s53, s54, s9, s10, s11, s14, s15, s17]
  show (Code.seq (cGo [1, 1, 1, 1, 1, 1, 1, 0, 1, 2, 3, 1, 1, 0, 2, 1, 1, 1, 1, 1, 1, 1, 1, 0] bBody) (Code.seq (cGo [1, 1, 1, 1, 1, 1, 1, 0, 1, 2, 3, 1, 1, 0, 2, 1, 1, 1, 1, 1, 1, 1, 1, 1, 0] bBody) (Code.seq (cGo [1, 1, 1, 1, 1, 1, 1, 0, 1, 2, 3, 1, 1, 0, 2, 1, 1, 1, 1, 1, 1, 1, 1, 1, 1, 0] bBody) (cGo [1, 1, 1, 1, 1, 1, 1, 0, 1, 2, 3, 1, 1, 0, 2, 1, 1, 1, 1, 1, 1, 1, 1, 1, 1, 1] bBody)))).wp Tryz.prog Q _ w
  generalize (cGo [1, 1, 1, 1, 1, 1, 1, 0, 1, 2, 3, 1, 1, 0, 2, 1, 1, 1, 1, 1, 1, 1, 1, 1, 1, 1] bBody) = z
  conv => arg 2; arg 1; whnf
  conv => arg 2; arg 2; arg 1; whnf
  conv => arg 2; arg 2; arg 2; arg 1; whnf
  go_wp2_with (first
    | (go_at_call 17; refine HWh.out.mono ?_; rintro e w1 ⟨nv, rfl, hnv, hb1⟩; obtain ⟨k1, f1⟩ := bcell hb1; have z1 := Nat.lt_of_lt_of_le hg hb1.size; obtain rfl := hnv v rfl)
    | (go_at_call 8; refine (HNm.out _ (HF.out.kept hb1)).mono ?_; rintro e w2 ⟨rfl, hb2⟩; obtain ⟨k2, f2⟩ := bcell hb2; have z2 := Nat.lt_of_lt_of_le z1 hb2.size)
    | (go_at_call 13; refine (((HB.out.kept hb1).kept hb2).fail _).mono ?_; rintro e w3 ⟨rfl, hb3⟩))
  exact hR _ _ ⟨rfl, rfl, rfl, rfl⟩ (stp (stp hb1 hb2) hb3)
set_option maxRecDepth 100000 in
set_option maxHeartbeats 1600000 in
theorem secE_high (Q : Exit → Act → World → Prop) (a : Act) (w : World) (v5 v6 : Value) (mp gl n k bi : Nat) (t op rest : S.By) (g cp : Nat) (p : S.By) (hS : Sc a v5 v6 mp gl n k bi t op rest (.slice (some ⟨g, 0, none⟩) 1 cp)) (ho : op = S.plain) (hg : g < w.heap.size) (hc : w.cell? ⟨g, 0, none⟩ = some (.string (mk p))) (hp : p.length ≤ 10000) (hB : Bi w bi k) (hF : AF w) (hE : EF w) (hn : S.nameOk p = false) (v : Int) (hm : S.num p = some v) (hv0 : 0 ≤ v) (hv : 65535 < v)
    (hR : ∀ a' w', Rt a' k 3 → Below w.heap.size w w' → Q .ret a' w') :
    ((cGo [1, 1, 1, 1, 1, 1, 1, 0, 1, 2, 3, 1, 1, 0, 2, 1, 1, 1, 1, 1, 1, 1, 1] bBody)).wp Tryz.prog Q a w := by
  obtain ⟨⟨⟨sz, df, s5, s6, s7, s8, s52, s53, s54⟩, s9, s10, s11⟩, s14, s15, s17⟩ := hS
  have hop : ((mk op).toList == [46, 119, 111, 114, 100]) = true := by rw [ho, mk_toList]; rfl
  have HB := hid hB
  have HWh := hid (whole_at p hp w hF hE)
  have HNm : Hid (∀ w', AF w' → Calls Tryz.prog 8 #[.string (mk p)] w' fun e w' => e = .returned (.bool (S.nameOk p)) ∧ Below _ _ w') := fun w' h => isName_any p w' h
  have HF := hid hF
  have hv1 : ¬ v < 0 := by omega
  rw [hn] at HNm
  rw [hm] at HWh
  clear hn hm
  clear hB ho hF hE
  obtain ⟨f, hf, rfl⟩ := act_open a sz df
  rw [hf] at s5 s6 s7 s8 s52 s53 s54 s9 s10 s11 s14 s15 s17
  clear hf sz df
  rw [s5, s6, s7, s8, s52, s53, s54, s9, s10, s11, s14, s15, s17]
  show (Code.seq (cGo [1, 1, 1, 1, 1, 1, 1, 0, 1, 2, 3, 1, 1, 0, 2, 1, 1, 1, 1, 1, 1, 1, 1, 0] bBody) (Code.seq (cGo [1, 1, 1, 1, 1, 1, 1, 0, 1, 2, 3, 1, 1, 0, 2, 1, 1, 1, 1, 1, 1, 1, 1, 1, 0] bBody) (Code.seq (cGo [1, 1, 1, 1, 1, 1, 1, 0, 1, 2, 3, 1, 1, 0, 2, 1, 1, 1, 1, 1, 1, 1, 1, 1, 1, 0] bBody) (cGo [1, 1, 1, 1, 1, 1, 1, 0, 1, 2, 3, 1, 1, 0, 2, 1, 1, 1, 1, 1, 1, 1, 1, 1, 1, 1] bBody)))).wp Tryz.prog Q _ w
  generalize (cGo [1, 1, 1, 1, 1, 1, 1, 0, 1, 2, 3, 1, 1, 0, 2, 1, 1, 1, 1, 1, 1, 1, 1, 1, 1, 1] bBody) = z
  conv => arg 2; arg 1; whnf
  conv => arg 2; arg 2; arg 1; whnf
  conv => arg 2; arg 2; arg 2; arg 1; whnf
  go_wp2_with (first
    | (go_at_call 17; refine HWh.out.mono ?_; rintro e w1 ⟨nv, rfl, hnv, hb1⟩; obtain ⟨k1, f1⟩ := bcell hb1; have z1 := Nat.lt_of_lt_of_le hg hb1.size; obtain rfl := hnv v rfl)
    | (go_at_call 8; refine (HNm.out _ (HF.out.kept hb1)).mono ?_; rintro e w2 ⟨rfl, hb2⟩; obtain ⟨k2, f2⟩ := bcell hb2; have z2 := Nat.lt_of_lt_of_le z1 hb2.size)
    | (go_at_call 13; refine (((HB.out.kept hb1).kept hb2).fail _).mono ?_; rintro e w3 ⟨rfl, hb3⟩))
  exact hR _ _ ⟨rfl, rfl, rfl, rfl⟩ (stp (stp hb1 hb2) hb3)
set_option maxRecDepth 100000 in
set_option maxHeartbeats 1600000 in
theorem secE_num (Q : Exit → Act → World → Prop) (a : Act) (w : World) (v5 v6 : Value) (mp gl n k bi : Nat) (t op rest : S.By) (g cp : Nat) (p : S.By) (hS : Sc a v5 v6 mp gl n k bi t op rest (.slice (some ⟨g, 0, none⟩) 1 cp)) (ho : op = S.plain) (hg : g < w.heap.size) (hc : w.cell? ⟨g, 0, none⟩ = some (.string (mk p))) (hp : p.length ≤ 10000) (hB : Bi w bi k) (hF : AF w) (hE : EF w) (hn : S.nameOk p = false) (v : Int) (hm : S.num p = some v) (hv0 : 0 ≤ v) (hv : v ≤ 65535)
    (hz : ∀ a' w' g' c', Se a' v5 v6 mp gl n k bi t g' c' [v] [] → wordsAt w' g' [v] → g' < w'.heap.size → Below w.heap.size w w' → ((cGo [1, 1, 1, 1, 1, 1, 1, 0, 1, 2, 3, 1, 1, 0, 2, 1, 1, 1, 1, 1, 1, 1, 1, 1, 1, 1] bBody)).wp Tryz.prog Q a' w') :
    ((cGo [1, 1, 1, 1, 1, 1, 1, 0, 1, 2, 3, 1, 1, 0, 2, 1, 1, 1, 1, 1, 1, 1, 1] bBody)).wp Tryz.prog Q a w := by
  obtain ⟨⟨⟨sz, df, s5, s6, s7, s8, s52, s53, s54⟩, s9, s10, s11⟩, s14, s15, s17⟩ := hS
  have hop : ((mk op).toList == [46, 119, 111, 114, 100]) = true := by rw [ho, mk_toList]; rfl
  have HB := hid hB
  have HWh := hid (whole_at p hp w hF hE)
  have HNm : Hid (∀ w', AF w' → Calls Tryz.prog 8 #[.string (mk p)] w' fun e w' => e = .returned (.bool (S.nameOk p)) ∧ Below _ _ w') := fun w' h => isName_any p w' h
  have HF := hid hF
  have hv1 : ¬ v < 0 := by omega
  have hv2 : ¬ 65535 < v := by omega
  have hw : IntKind.u16.wrap v = v := by rw [IntKind.wrap_u16]; omega
  rw [hn] at HNm
  rw [hm] at HWh
  clear hn hm
  clear hB ho hF hE
  obtain ⟨f, hf, rfl⟩ := act_open a sz df
  rw [hf] at s5 s6 s7 s8 s52 s53 s54 s9 s10 s11 s14 s15 s17
  clear hf sz df
  rw [s5, s6, s7, s8, s52, s53, s54, s9, s10, s11, s14, s15, s17]
  show (Code.seq (cGo [1, 1, 1, 1, 1, 1, 1, 0, 1, 2, 3, 1, 1, 0, 2, 1, 1, 1, 1, 1, 1, 1, 1, 0] bBody) (Code.seq (cGo [1, 1, 1, 1, 1, 1, 1, 0, 1, 2, 3, 1, 1, 0, 2, 1, 1, 1, 1, 1, 1, 1, 1, 1, 0] bBody) (Code.seq (cGo [1, 1, 1, 1, 1, 1, 1, 0, 1, 2, 3, 1, 1, 0, 2, 1, 1, 1, 1, 1, 1, 1, 1, 1, 1, 0] bBody) (cGo [1, 1, 1, 1, 1, 1, 1, 0, 1, 2, 3, 1, 1, 0, 2, 1, 1, 1, 1, 1, 1, 1, 1, 1, 1, 1] bBody)))).wp Tryz.prog Q _ w
  revert hz
  generalize (cGo [1, 1, 1, 1, 1, 1, 1, 0, 1, 2, 3, 1, 1, 0, 2, 1, 1, 1, 1, 1, 1, 1, 1, 1, 1, 1] bBody) = z
  intro hz
  conv => arg 2; arg 1; whnf
  conv => arg 2; arg 2; arg 1; whnf
  conv => arg 2; arg 2; arg 2; arg 1; whnf
  go_wp2_with (first
    | (go_at_call 17; refine HWh.out.mono ?_; rintro e w1 ⟨nv, rfl, hnv, hb1⟩; obtain ⟨k1, f1⟩ := bcell hb1; have z1 := Nat.lt_of_lt_of_le hg hb1.size; obtain rfl := hnv v rfl)
    | (go_at_call 8; refine (HNm.out _ (HF.out.kept hb1)).mono ?_; rintro e w2 ⟨rfl, hb2⟩; obtain ⟨k2, f2⟩ := bcell hb2; have z2 := Nat.lt_of_lt_of_le z1 hb2.size)
    | (go_at_call 13; refine (((HB.out.kept hb1).kept hb2).fail _).mono ?_; rintro e w3 ⟨rfl, hb3⟩))
  refine hz _ _ _ _ ⟨⟨⟨rfl, rfl, rfl, rfl, rfl, rfl, rfl, rfl, rfl⟩, rfl, rfl, rfl⟩, rfl, rfl⟩ ?_ (by simp) (stA (stp hb1 hb2) _)
  intro j hj
  match j, hj with
  | 0, _ => exact cell_new _ _ _ _ rfl
end Go.Proofs.YtdjhlfoapieohaaGreatDoor
