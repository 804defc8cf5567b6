/-
  What package asm's List answers, of any bytes; nothing old is written.
-/
import Derived.Test.YtdjhlfoapieohaaGreatDoorAsmF
namespace Go.Proofs.YtdjhlfoapieohaaGreatDoor
open Go.ChangeShapes Go.WideShapes Go.ChangeAt Go.RowKit
set_option linter.unusedVariables false

theorem list_many (a : Option Addr) (n cap : Nat) (hn : (1024 : Int) < n) (w : World) :
    Calls Tryz.prog 21 #[.slice a n cap] w fun e w' => e = .returned (.tuple #[.string (mk []), .int .i64 2]) ∧ w' = w := by
  go_enter Tryz.func21, Tryz.ntmps21
  go_wp2
  go_ret2
  exact ⟨rfl, rfl⟩
theorem list_odd (a : Option Addr) (n cap : Nat) (hn : ¬ (1024 : Int) < n) (ho : (n : Int) % 2 = 1) (w : World) :
    Calls Tryz.prog 21 #[.slice a n cap] w fun e w' => e = .returned (.tuple #[.string (mk []), .int .i64 4]) ∧ w' = w := by
  have h1 : ¬ (n : Int) % 2 = 0 := by omega
  have h2 : (n : Int).tmod 2 = 1 := by rw [Int.tmod_eq_emod_of_nonneg (by omega)]; exact ho
  go_enter Tryz.func21, Tryz.ntmps21
  go_wp2
  go_ret2
  exact ⟨rfl, rfl⟩
theorem isB_kept {T e : TypeId} {B b : Nat} {bs : List Value} {w w' : World} (h : Lib.IsBuilder T e B b bs w) (hb : Below w.heap.size w w') : Lib.IsBuilder T e B b bs w' := by
  have key : ∀ p, Lib.BuilderAt T e B b p bs w → Lib.BuilderAt T e B b p bs w' := fun p hp => by
    have hlt := hp.lt
    obtain ⟨hB, v, hk, hown, hne⟩ := hp
    exact ⟨hB, v, (hb.block b hlt).trans hk, hown.kept (grown_of_below hb) (own_none v), hne⟩
  rcases h with h | h
  · exact Or.inl (key _ h)
  · exact Or.inr (key _ h)
theorem strCells_mk (l : List UInt8) : Lib.strCells (mk l) = Lib.byteCells l := by
  first | rfl | simp [Lib.strCells, Lib.byteCells, mk]
theorem byteCells_append (a b : List UInt8) : Lib.byteCells a ++ Lib.byteCells b = Lib.byteCells (a ++ b) := by
  first | rfl | simp [Lib.byteCells]
theorem byteCells_len (a : List UInt8) : (Lib.byteCells a).length = a.length := by
  first | rfl | simp [Lib.byteCells]
theorem write_any (B b : Nat) (acc : List UInt8) (s : List UInt8) (w : World) (h : Lib.IsBuilder 76 5 B b (Lib.byteCells acc) w) (hl : acc.length + s.length ≤ 1000000) (hB : B ≤ w.heap.size) :
    Calls Tryz.prog 41 #[.pointer (some ⟨b, 0, none⟩), .string (mk s)] w fun e w' => e = .returned (.tuple #[.int .i64 (mk s).size, .nilIface]) ∧ Lib.IsBuilder 76 5 B b (Lib.byteCells (acc ++ s)) w' ∧ Below B w w' := by
  refine (Any.Builder_WriteString (ρ := Tryz.lays156_ren) { Tryz.lays156 with } Tryz.Builder_Extra_156 B b (Lib.byteCells acc) (mk s) w h ?_ hB).mono fun e w' ⟨he, h1, h2⟩ => ⟨he, Or.inr ?_, h2⟩
  · rw [byteCells_len, mk_size]; omega
  · rw [strCells_mk, byteCells_append] at h1
    exact h1
theorem name_len : ∀ k, k < 32 → (K.row k).1.length ≤ 4 := by decide +kernel
theorem line_len (l : List UInt8) : (S.firstLine l).1.length ≤ 60 := by
  have hb := S.second_bd l
  unfold S.firstLine S.lineOf
  split
  · have hok := O.read_ok (S.second l) (S.second (l.drop 2)) hb (S.second_bd _)
    obtain ⟨o1, o2, o3⟩ := (O.isOp_iff _).1 (O.rOp_isOp (S.second l) hb)
    have hn := name_len (O.rk (S.second l)) (by show (O.rOp _).toNat < 32; omega)
    have hj := join_small (k := O.rk (S.second l)) (o := S.rOrd (S.second l) (S.second (l.drop 2))) hok
    show (S.orderText _ _).length ≤ 60
    unfold S.orderText
    rw [List.length_append]
    split
    · simp; omega
    · rw [List.length_cons]; omega
  · have := itoa_len (S.second l) (by omega)
    show (S.wordText _).length ≤ 60
    unfold S.wordText
    simp [S.plain]; omega
theorem listN_step (f : Nat) (rom : List UInt8) (h : rom ≠ []) : S.listN (f + 1) rom = (S.firstLine rom).1 ++ [10] ++ S.listN f (rom.drop (S.firstLine rom).2) := by
  simp [S.listN, h]
theorem listN_fuel : ∀ (f : Nat) (rom : List UInt8), rom.length ≤ f → ∀ g, rom.length ≤ g → S.listN f rom = S.listN g rom
  | 0, rom, hf, g, hg => by
    have : rom = [] := List.length_eq_zero_iff.1 (by omega)
    subst this
    cases g <;> simp [S.listN]
  | f + 1, rom, hf, g, hg => by
    by_cases h0 : rom = []
    · subst h0; cases g <;> simp [S.listN]
    · have hl : rom.length ≠ 0 := fun h => h0 (List.length_eq_zero_iff.1 h)
      obtain ⟨g', rfl⟩ : ∃ g', g = g' + 1 := ⟨g - 1, by omega⟩
      rw [listN_step f rom h0, listN_step g' rom h0]
      have hs := S.first_size rom
      rw [listN_fuel f (rom.drop (S.firstLine rom).2) (by simp; omega) g' (by simp; omega)]
theorem list_step (rom : List UInt8) (h : rom ≠ []) : S.list rom = (S.firstLine rom).1 ++ [10] ++ S.list (rom.drop (S.firstLine rom).2) := by
  have hl : rom.length ≠ 0 := fun h' => h (List.length_eq_zero_iff.1 h')
  obtain ⟨f, hf⟩ : ∃ f, rom.length = f + 1 := ⟨rom.length - 1, by omega⟩
  have hs := S.first_size rom
  unfold S.list
  rw [hf, listN_step f rom h, listN_fuel f (rom.drop (S.firstLine rom).2) (by simp; omega) _ (Nat.le_refl _)]
theorem string_any (B b : Nat) (l : List UInt8) (w : World) (h : Lib.IsBuilder 76 5 B b (Lib.byteCells l) w) (hB : B ≤ w.heap.size) :
    Calls Tryz.prog 42 #[.pointer (some ⟨b, 0, none⟩)] w fun e w' => e = .returned (.string (mk l)) ∧ Below B w w' := Tryz.Builder_String_any B b l w h hB
set_option maxRecDepth 100000 in
set_option maxHeartbeats 1600000 in
theorem list_0 (a : Option Addr) (cap : Nat) (w : World) :
    Calls Tryz.prog 21 #[.slice a 0 cap] w fun e w' => e = .returned (.tuple #[.string (mk []), .int .i64 0]) ∧ Below w.heap.size w w' := by
  go_enter Tryz.func21, Tryz.ntmps21
  go_wp2
  go_loop [0] (fun r => r = .slice a 0 cap) (fun _ => 0)
  case atStart => rfl
  case round =>
    subst hrel
    go_wp2_with (go_at_call 42; refine (string_any w.heap.size w.heap.size [] _ (Lib.fresh_isBuilder _ _ w) (by simp)).mono ?_; rintro e w1 ⟨rfl, hb1⟩)
    go_ret2
    exact ⟨rfl, (stA (st0 _) _).trans hb1⟩
set_option maxRecDepth 100000 in
set_option maxHeartbeats 1600000 in
theorem list_n (g o n cap : Nat) (l : List UInt8) (hn : l.length = n) (h2 : 2 ≤ n) (he : n % 2 = 0) (hm : n ≤ 1024) (hcap : n ≤ cap) (w : World) (hg : g < w.heap.size) (hb : bytesAt w g o l) (hF : AF w) :
    Calls Tryz.prog 21 #[.slice (some ⟨g, o, none⟩) n cap] w fun e w' => e = .returned (.tuple #[.string (mk (S.list l)), .int .i64 0]) ∧ Below w.heap.size w w' := by
  have HF := hid hF
  have HB := hid hb
  have he0 : (n : Int) % 2 = 0 := by omega
  have he1 : (n : Int).tmod 2 = 0 := by rw [Int.tmod_eq_emod_of_nonneg (by omega)]; exact he0
  have hm' : ¬ (1024 : Int) < n := by omega
  clear hF hb
  go_enter Tryz.func21, Tryz.ntmps21
  go_wp2
  go_loopw [0] (fun r wr => ∃ (q : Nat) (acc : List UInt8) (a : Option Addr), q ≤ n ∧ q % 2 = 0 ∧ r = .slice a (n - q) (cap - q) ∧ (q < n → a = some ⟨g, o + q, none⟩) ∧ Lib.IsBuilder 76 5 w.heap.size w.heap.size (Lib.byteCells acc) wr ∧ Below w.heap.size w wr ∧ acc ++ S.list (l.drop q) = S.list l ∧ acc.length ≤ 64 * q) (fun r _ => match r with | .slice _ k _ => k | _ => 0)
  case atStart => exact ⟨0, [], _, by omega, rfl, rfl, fun _ => rfl, Lib.fresh_isBuilder _ _ w, stA (st0 _) _, rfl, by simp⟩
  case round =>
    obtain ⟨q, acc, a, hq, hq2, rfl, ha, hB, hbl, hacc, hlen⟩ := hrel
    have hszr := hbl.size
    by_cases hlt : q < n
    · obtain rfl := ha hlt
      have hlt' : (0 : Int) < ((n - q : Nat) : Int) := by omega
      have hld : (l.drop q).length = n - q := by rw [List.length_drop, hn]
      have hne : l.drop q ≠ [] := fun h => by rw [h] at hld; simp at hld; omega
      have HL := hid (firstLine_any g (o + q) (n - q) (cap - q) (l.drop q) hld (by omega) (by omega) (by omega) wr (by omega) ((HB.out.kept hbl hg).drop q) (HF.out.kept hbl))
      have hll := line_len (l.drop q)
      have hst := hid (list_step (l.drop q) hne)
      have hfl := S.first_le (l.drop q) (by omega)
      rcases S.first_size (l.drop q) with hs | hs
      · rw [hs] at HL hst hfl
        have hfl' : (2 : Int) ≤ ((n - q : Nat) : Int) := by omega
        go_wp2_with (first
          | (go_at_call 40; refine HL.out.mono ?_; rintro e w1 ⟨rfl, hb1⟩)
          | (go_at_call 41; refine (write_any w.heap.size w.heap.size acc _ _ (isB_kept hB hb1) (by simp; omega) (Nat.le_trans hszr hb1.size)).mono ?_; rintro e w2 ⟨rfl, hB2, hb2⟩))
        refine ⟨⟨q + 2, acc ++ ((S.firstLine (l.drop q)).1 ++ [10]), _, by omega, by omega, by rw [show n - q - 2 = n - (q + 2) by omega, show cap - q - 2 = cap - (q + 2) by omega], fun h => ?_, hB2, (stp hbl hb1).trans hb2, ?_, ?_⟩, ?_⟩
        · rw [if_neg (by omega)]; rfl
        · rw [← hacc, hst.out, List.drop_drop]; simp
        · simp; omega
        · simp only; omega
      · rw [hs] at HL hst hfl
        have hfl' : (4 : Int) ≤ ((n - q : Nat) : Int) := by omega
        go_wp2_with (first
          | (go_at_call 40; refine HL.out.mono ?_; rintro e w1 ⟨rfl, hb1⟩)
          | (go_at_call 41; refine (write_any w.heap.size w.heap.size acc _ _ (isB_kept hB hb1) (by simp; omega) (Nat.le_trans hszr hb1.size)).mono ?_; rintro e w2 ⟨rfl, hB2, hb2⟩))
        refine ⟨⟨q + 4, acc ++ ((S.firstLine (l.drop q)).1 ++ [10]), _, by omega, by omega, by rw [show n - q - 4 = n - (q + 4) by omega, show cap - q - 4 = cap - (q + 4) by omega], fun h => ?_, hB2, (stp hbl hb1).trans hb2, ?_, ?_⟩, ?_⟩
        · rw [if_neg (by omega)]; rfl
        · rw [← hacc, hst.out, List.drop_drop]; simp
        · simp; omega
        · simp only; omega
    · have hqn : q = n := by omega
      subst hqn
      have h0 : q - q = 0 := by omega
      rw [h0]
      have hacc' : acc = S.list l := by
        rw [← hacc, List.drop_of_length_le (by omega)]; simp [S.list, S.listN]
      subst hacc'
      go_wp2_with (go_at_call 42; refine (string_any w.heap.size w.heap.size (S.list l) _ hB hszr).mono ?_; rintro e w1 ⟨rfl, hb1⟩)
      go_ret2
      exact ⟨rfl, hbl.trans hb1⟩
/-- What is listed of any bytes. -/
def listRes (l : List UInt8) : List UInt8 × Int := if 1024 < l.length then ([], 2) else if l.length % 2 = 1 then ([], 4) else (S.list l, 0)
/-- A slice of these bytes. -/
def sliceAt (w : World) (v : Value) (l : List UInt8) : Prop := (∃ a cap, v = .slice a 0 cap ∧ l = []) ∨ ∃ g o cap, v = .slice (some ⟨g, o, none⟩) l.length cap ∧ l.length ≤ cap ∧ g < w.heap.size ∧ bytesAt w g o l
theorem sliceAt.kept {w w' : World} {v : Value} {l : List UInt8} (h : sliceAt w v l) (hb : Below w.heap.size w w') : sliceAt w' v l := by
  rcases h with h | ⟨g, o, cap, h1, h2, h3, h4⟩
  · exact Or.inl h
  · exact Or.inr ⟨g, o, cap, h1, h2, Nat.lt_of_lt_of_le h3 hb.size, h4.kept hb h3⟩
theorem list_any (v : Value) (l : List UInt8) (w : World) (h : sliceAt w v l) (hF : AF w) :
    Calls Tryz.prog 21 #[v] w fun e w' => e = .returned (.tuple #[.string (mk (listRes l).1), .int .i64 (listRes l).2]) ∧ Below w.heap.size w w' := by
  rcases h with ⟨a, cap, rfl, rfl⟩ | ⟨g, o, cap, rfl, h2, h3, h4⟩
  · exact list_0 a cap w
  · unfold listRes
    by_cases hm : 1024 < l.length
    · rw [if_pos hm]
      exact (list_many _ _ cap (by omega) w).mono fun e w' hh => ⟨hh.1, hh.2 ▸ st0 _⟩
    · rw [if_neg hm]
      by_cases ho : l.length % 2 = 1
      · rw [if_pos ho]
        exact (list_odd _ _ cap (by omega) (by omega) w).mono fun e w' hh => ⟨hh.1, hh.2 ▸ st0 _⟩
      · rw [if_neg ho]
        by_cases h0 : l.length = 0
        · have : l = [] := List.length_eq_zero_iff.1 h0
          subst this
          exact list_0 _ cap w
        · exact list_n g o l.length cap l rfl (by omega) (by omega) (by omega) h2 w h3 h4 hF
end Go.Proofs.YtdjhlfoapieohaaGreatDoor
