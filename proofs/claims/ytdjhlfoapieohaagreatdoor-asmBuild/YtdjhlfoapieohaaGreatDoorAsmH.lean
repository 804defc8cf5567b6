/-
  Package asm's reader in memory: what its block, maps and rows hold; and what its small functions answer where nothing is wrong.
-/
import Derived.Test.YtdjhlfoapieohaaGreatDoorAsmG
import Derived.Test.YtdjhlfoapieohaaGreatDoorStrMap
namespace Go.Proofs.YtdjhlfoapieohaaGreatDoor
open Go.ChangeShapes Go.WideShapes Go.ChangeAt Go.RowKit
set_option linter.unusedVariables false

/-! ### the orders by their names -/
def opsTo (j : Nat) : List (ByteArray × Int) := ((List.range j).filter (fun k => k != 30)).map (fun k => (O.nameS k, (k : Int)))
theorem opsTo_no : ∀ j, j < 32 → j ≠ 30 → (opsTo j).find? (fun p => p.1 == O.nameS j) = none := by decide +kernel
theorem opsTo_step {j : Nat} (h : j ≠ 30) : opsTo (j + 1) = opsTo j ++ [(O.nameS j, (j : Int))] := by
  unfold opsTo; rw [List.range_succ, List.filter_append]; simp [h]
theorem opsTo_30 : opsTo 31 = opsTo 30 := by
  unfold opsTo; rw [show (31 : Nat) = 30 + 1 from rfl, List.range_succ, List.filter_append]; simp
theorem find_fm {α β : Type} (f : α → β) (p : α → Bool) (q : β → Bool) : ∀ l : List α, ((l.filter p).map f).find? q = (l.find? (fun x => p x && q (f x))).map f
  | [] => rfl
  | a :: l => by
    have ih := find_fm f p q l
    cases hp : p a
    · simp [hp, ih]
    · cases hq : q (f a)
      · simp [hp, hq, ih]
      · simp [hp, hq]
theorem mk_eq (l : List UInt8) (c : ByteArray) : (mk l == c) = (l == bs c) := by
  rw [beq_s]
  by_cases h : l = bs c
  · subst h; rw [mk_bs]; simp
  · have : ¬ mk l = c := fun e => h (by rw [← e]; rfl)
    rw [decide_eq_false this]; simp [h]
theorem ops_find (c : ByteArray) : (opsTo 32).find? (fun p => p.1 == c) = (S.opOf (bs c)).map (fun k => (O.nameS k, (k : Int))) := by
  unfold opsTo S.opOf
  rw [find_fm]
  congr 1
  congr 1
  funext k
  by_cases h : k = 30
  · subst h; rfl
  · have e : O.nameS k = mk (K.row k).1 := name_mk k h
    rw [e, mk_eq]

/-! ### the reader -/
def pl (l : List (S.By × Nat)) : List (ByteArray × Int) := l.map (fun p => (mk p.1, (p.2 : Int)))
theorem pl_find (l : List (S.By × Nat)) (c : ByteArray) : (pl l).find? (fun p => p.1 == c) = (l.find? (fun p => p.1 == bs c)).map (fun p => (mk p.1, (p.2 : Int))) := by
  unfold pl
  rw [List.find?_map]
  congr 2
  funext p
  exact mk_eq p.1 c
def useCells : List (S.By × Nat × Nat) → List Value
  | [] => []
  | u :: us => [.string (mk u.1), .int .i64 u.2.1, .int .i64 u.2.2] ++ useCells us
theorem useCells_len : ∀ l, (useCells l).length = l.length * 3
  | [] => rfl
  | u :: us => by simp [useCells, useCells_len us]; omega
theorem useCells_snoc : ∀ l (u : S.By × Nat × Nat), useCells (l ++ [u]) = useCells l ++ [.string (mk u.1), .int .i64 u.2.1, .int .i64 u.2.2]
  | [], u => rfl
  | v :: us, u => by simp [useCells, useCells_snoc us u]
structure Rd (w : World) (B b mo mp : Nat) (ua : Option Addr) (uc : Nat) (ra : Option Addr) (rc : Nat) (st : S.St) (ln : Nat) : Prop where
  hB : B ≤ b
  blk : w.heap[b]? = some (.cells #[.map (some mo), .map (some mp), .slice ua st.uses.length uc, .slice ra st.rom.length rc, .int .i64 ln] 62 (0, 0))
  ops : mapS w mo (opsTo 32)
  places : mapS w mp (pl st.places)
  hmp : B ≤ mp
  ne : mo ≠ mp
  uses : w.ownsRow B 95 3 (.slice ua st.uses.length uc) st.uses.length (useCells st.uses)
  rom : w.ownsRow B 5 1 (.slice ra st.rom.length rc) st.rom.length (Lib.byteCells st.rom)
section
variable {w w' : World} {B b mo mp : Nat} {ua ra : Option Addr} {uc rc : Nat} {st : S.St} {ln : Nat}
theorem Rd.lt (h : Rd w B b mo mp ua uc ra rc st ln) : b < w.heap.size := (Array.getElem?_eq_some_iff.1 h.blk).1
theorem Rd.cell (h : Rd w B b mo mp ua uc ra rc st ln) (i : Nat) : w.cell? ⟨b, i, none⟩ = (#[.map (some mo), .map (some mp), .slice ua st.uses.length uc, .slice ra st.rom.length rc, .int .i64 ln] : Array Value)[i]? := Lib.cell_of_heap h.blk i
theorem Rd.frozen (h : Rd w B b mo mp ua uc ra rc st ln) (i : Nat) : w.frozen? ⟨b, i, none⟩ = false := Lib.frozen_of_heap h.blk i
theorem Rd.kept (h : Rd w B b mo mp ua uc ra rc st ln) (hb : Below w.heap.size w w') : Rd w' B b mo mp ua uc ra rc st ln :=
  ⟨h.hB, (hb.block b h.lt).trans h.blk, h.ops.below hb h.ops.lt, h.places.below hb h.places.lt, h.hmp, h.ne, h.uses.kept (grown_of_below hb) (own_none _), h.rom.kept (grown_of_below hb) (own_none _)⟩
theorem row_ne {w : World} {B : Nat} {e : TypeId} {s : Nat} {v : Value} {n : Nat} {xs : List Value} {x : Nat} {o : Obj} (hown : w.ownsRow B e s v n xs) (hb : w.heap[x]? = some o) (hne : ∀ cur, o ≠ .cells cur e (0, 0)) : v.ownBlock ≠ some x := by
  rcases hown.2 with ⟨rfl, _⟩ | ⟨g, cap, cur, rfl, _, hg, _⟩
  · simp [Value.ownBlock]
  · intro h
    simp only [Value.ownBlock, Option.some.injEq] at h
    subst h
    rw [hg] at hb
    exact hne cur (Option.some.inj hb).symm
theorem Rd.rom_b (h : Rd w B b mo mp ua uc ra rc st ln) : (Value.slice ra st.rom.length rc).ownBlock ≠ some b := row_ne h.rom h.blk (fun cur e => by simp at e)
theorem Rd.uses_b (h : Rd w B b mo mp ua uc ra rc st ln) : (Value.slice ua st.uses.length uc).ownBlock ≠ some b := row_ne h.uses h.blk (fun cur e => by simp at e)
theorem Rd.rom_mp (h : Rd w B b mo mp ua uc ra rc st ln) : (Value.slice ra st.rom.length rc).ownBlock ≠ some mp := by
  obtain ⟨es, c, hb, _⟩ := h.places
  exact row_ne h.rom hb (fun cur e => by simp at e)
theorem Rd.uses_mp (h : Rd w B b mo mp ua uc ra rc st ln) : (Value.slice ua st.uses.length uc).ownBlock ≠ some mp := by
  obtain ⟨es, c, hb, _⟩ := h.places
  exact row_ne h.uses hb (fun cur e => by simp at e)
theorem Rd.rom_mo (h : Rd w B b mo mp ua uc ra rc st ln) : (Value.slice ra st.rom.length rc).ownBlock ≠ some mo := by
  obtain ⟨es, c, hb, _⟩ := h.ops
  exact row_ne h.rom hb (fun cur e => by simp at e)
theorem Rd.uses_mo (h : Rd w B b mo mp ua uc ra rc st ln) : (Value.slice ua st.uses.length uc).ownBlock ≠ some mo := by
  obtain ⟨es, c, hb, _⟩ := h.ops
  exact row_ne h.uses hb (fun cur e => by simp at e)
theorem Rd.mp_b (h : Rd w B b mo mp ua uc ra rc st ln) : b ≠ mp := fun e => by
  obtain ⟨es, c, hb, _⟩ := h.places
  rw [← e, h.blk] at hb
  simp at hb
theorem Rd.mo_b (h : Rd w B b mo mp ua uc ra rc st ln) : b ≠ mo := fun e => by
  obtain ⟨es, c, hb, _⟩ := h.ops
  rw [← e, h.blk] at hb
  simp at hb
theorem Rd.rows (h : Rd w B b mo mp ua uc ra rc st ln) : (Value.slice ua st.uses.length uc).ownBlock = none ∨ (Value.slice ua st.uses.length uc).ownBlock ≠ (Value.slice ra st.rom.length rc).ownBlock := by
  cases hu : (Value.slice ua st.uses.length uc).ownBlock with
  | none => exact Or.inl rfl
  | some x =>
    refine Or.inr (fun e => ?_)
    rcases h.uses.2 with ⟨hv, _⟩ | ⟨g, cap, cur, hv, _, hg, _⟩
    · rw [hv] at hu; simp [Value.ownBlock] at hu
    · rw [hv] at hu
      simp only [Value.ownBlock, Option.some.injEq] at hu
      subst hu
      exact row_ne h.rom hg (fun cur' e' => by simp at e') e.symm
theorem setCell_blk {w : World} {b i : Nat} {cs : Array Value} {t : TypeId} {fr : Nat × Nat} (h : w.heap[b]? = some (.cells cs t fr)) (v : Value) : (w.setCell ⟨b, i, none⟩ v).heap[b]? = some (.cells (cs.setIfInBounds i v) t fr) := by
  simp [World.setCell, Array.getElem?_modify, h]
theorem grown_set (w : World) (b i : Nat) (v : Value) : w.grownBy (w.setCell ⟨b, i, none⟩ v) (some b) :=
  ⟨rfl, rfl, rfl, by simp [World.setCell], fun k _ hk => Below.heap_setCell _ _ _ _ (fun e => hk (by rw [e]))⟩
theorem grown_blk {w w' : World} {x : Option Nat} (hg : w.grownBy w' x) {k : Nat} (hk : k < w.heap.size) (hne : some k ≠ x) : w'.heap[k]? = w.heap[k]? := hg.block k hk hne
/-- Another program is laid in. -/
theorem Rd.put_rom (h : Rd w B b mo mp ua uc ra rc st ln) {w1 : World} (hg : w.grownBy w1 (Value.slice ra st.rom.length rc).ownBlock) {ra' : Option Addr} {rc' : Nat} {rom' : S.By} (hown : w1.ownsRow B 5 1 (.slice ra' rom'.length rc') rom'.length (Lib.byteCells rom')) :
    Rd (w1.setCell ⟨b, 3, none⟩ (.slice ra' rom'.length rc')) B b mo mp ua uc ra' rc' { st with rom := rom' } ln := by
  have hb1 : w1.heap[b]? = _ := (grown_blk hg h.lt (Ne.symm h.rom_b)).trans h.blk
  have hg2 := grown_set w1 b 3 (.slice ra' rom'.length rc')
  have ho1 : mapS w1 mo (opsTo 32) := h.ops.of_block (grown_blk hg h.ops.lt (Ne.symm h.rom_mo))
  have hp1 : mapS w1 mp (pl st.places) := h.places.of_block (grown_blk hg h.places.lt (Ne.symm h.rom_mp))
  have hu1 := h.uses.kept hg h.rows
  refine ⟨h.hB, (setCell_blk hb1 _).trans (by simp), ho1.of_block (grown_blk hg2 ho1.lt (fun e => h.mo_b (Option.some.inj e).symm)), hp1.of_block (grown_blk hg2 hp1.lt (fun e => h.mp_b (Option.some.inj e).symm)), h.hmp, h.ne, hu1.kept hg2 (Or.inr h.uses_b), hown.kept hg2 (Or.inr (row_ne hown hb1 (fun cur e => by simp at e)))⟩
/-- Other uses are laid in. -/
theorem Rd.put_uses (h : Rd w B b mo mp ua uc ra rc st ln) {w1 : World} (hg : w.grownBy w1 (Value.slice ua st.uses.length uc).ownBlock) {ua' : Option Addr} {uc' : Nat} {us' : List (S.By × Nat × Nat)} (hown : w1.ownsRow B 95 3 (.slice ua' us'.length uc') us'.length (useCells us')) :
    Rd (w1.setCell ⟨b, 2, none⟩ (.slice ua' us'.length uc')) B b mo mp ua' uc' ra rc { st with uses := us' } ln := by
  have hb1 : w1.heap[b]? = _ := (grown_blk hg h.lt (Ne.symm h.uses_b)).trans h.blk
  have hg2 := grown_set w1 b 2 (.slice ua' us'.length uc')
  have ho1 : mapS w1 mo (opsTo 32) := h.ops.of_block (grown_blk hg h.ops.lt (Ne.symm h.uses_mo))
  have hp1 : mapS w1 mp (pl st.places) := h.places.of_block (grown_blk hg h.places.lt (Ne.symm h.uses_mp))
  have hr1 := h.rom.kept hg (by rcases h.rows with hh | hh
                                · rw [hh]; exact own_none _
                                · exact Or.inr (fun e => hh e.symm))
  refine ⟨h.hB, (setCell_blk hb1 _).trans (by simp), ho1.of_block (grown_blk hg2 ho1.lt (fun e => h.mo_b (Option.some.inj e).symm)), hp1.of_block (grown_blk hg2 hp1.lt (fun e => h.mp_b (Option.some.inj e).symm)), h.hmp, h.ne, hown.kept hg2 (Or.inr (row_ne hown hb1 (fun cur e => by simp at e))), hr1.kept hg2 (Or.inr h.rom_b)⟩
/-- The next line. -/
theorem Rd.put_line (h : Rd w B b mo mp ua uc ra rc st ln) (ln' : Nat) : Rd (w.setCell ⟨b, 4, none⟩ (.int .i64 ln')) B b mo mp ua uc ra rc st ln' := by
  have hg2 := grown_set w b 4 (.int .i64 ln')
  exact ⟨h.hB, (setCell_blk h.blk _).trans (by simp), h.ops.of_block (grown_blk hg2 h.ops.lt (fun e => h.mo_b (Option.some.inj e).symm)), h.places.of_block (grown_blk hg2 h.places.lt (fun e => h.mp_b (Option.some.inj e).symm)), h.hmp, h.ne, h.uses.kept hg2 (Or.inr h.uses_b), h.rom.kept hg2 (Or.inr h.rom_b)⟩
/-- A place is laid in. -/
theorem Rd.put_place (h : Rd w B b mo mp ua uc ra rc st ln) {w1 : World} (hg : w.grownBy w1 (some mp)) {ps : List (S.By × Nat)} (hm : mapS w1 mp (pl ps)) : Rd w1 B b mo mp ua uc ra rc { st with places := ps } ln :=
  ⟨h.hB, (grown_blk hg h.lt (fun e => h.mp_b (Option.some.inj e))).trans h.blk, h.ops.of_block (grown_blk hg h.ops.lt (fun e => h.ne (Option.some.inj e))), hm, h.hmp, h.ne, h.uses.kept hg (Or.inr h.uses_mp), h.rom.kept hg (Or.inr h.rom_mp)⟩
end
end Go.Proofs.YtdjhlfoapieohaaGreatDoor
