/-
  Package asm where something is wrong; what Build answers of any text.
-/
import Derived.Test.YtdjhlfoapieohaaGreatDoorZcA
import Derived.Test.YtdjhlfoapieohaaGreatDoorAsmR
import Derived.Test.YtdjhlfoapieohaaGreatDoorAsmT
import Derived.Test.YtdjhlfoapieohaaGreatDoorAsmV
import Derived.LaidLaws
namespace Go.Proofs.YtdjhlfoapieohaaGreatDoor
open Go.ChangeShapes Go.WideShapes Go.ChangeAt Go.RowKit
set_option linter.unusedVariables false

/-- A line ends the reading. -/
abbrev LineNo (w : World) (B ln : Nat) (e : Int) (x : Ending) (w' : World) : Prop := x = flt ln e ∧ Below B w w'
theorem put_no_inv {ws : List Int} {nm : S.By} {ln : Nat} {st : S.St} {e : Int} (h : S.put ws nm ln st = .error e) : 1024 < st.rom.length + 2 * ws.length ∧ e = 2 := by
  unfold S.put at h
  split at h
  · rename_i hh
    cases h
    exact ⟨hh, rfl⟩
  · cases h
theorem put_no (w : World) (B b mo mp : Nat) (ua ra : Option Addr) (uc rc : Nat) (st : S.St) (ln : Nat) (hR : Rd w B b mo mp ua uc ra rc st ln) (a : Option Addr) (n c : Nat) (ws : List Int) (hn : n = ws.length) (hn2 : n ≤ 2) (hrl : st.rom.length ≤ 1024) (nm : ByteArray) (nm' : S.By) (e : Int) (hS : S.put ws nm' ln st = .error e) :
    Calls Tryz.prog 105 #[.pointer (some ⟨b, 0, none⟩), .slice a n c, .string nm] w fun x w' => x = flt ln e ∧ w = w' := by
  obtain ⟨h1, rfl⟩ := put_no_inv hS
  have hlt := hR.lt
  have c3 : w.cell? ⟨b, 3, none⟩ = some (.slice ra st.rom.length rc) := hR.cell 3
  have HG := hid (giveUp_any b ln 2 w hR.lt (hR.cell 4))
  have hm1 : (1024 : Int) < st.rom.length + 2 * n := by omega
  clear hR hS h1 hn
  go_enter Tryz.func105, Tryz.ntmps105
  go_wp2_with (go_at_call 52; refine HG.out.mono ?_; rintro e w' ⟨rfl, rfl⟩)
  exact ⟨rfl, rfl, rfl⟩

/-! ### words -/
theorem readWord_form (w : World) (b : Nat) (ln : Nat) (hlt : b < w.heap.size) (h4 : w.cell? ⟨b, 4, none⟩ = some (.int .i64 ln)) (a : Option Addr) (n c : Nat) (hn : n ≠ 1) :
    Calls Tryz.prog 79 #[.pointer (some ⟨b, 0, none⟩), .slice a n c] w fun x w' => x = flt ln 4 ∧ w = w' := by
  have HG := hid (giveUp_any b ln 4 w hlt h4)
  have hn1 : ((n : Int) == 1) = false := by simp; omega
  clear h4
  go_enter Tryz.func79, Tryz.ntmps79
  go_wp2_with (go_at_call 52; refine HG.out.mono ?_; rintro e w' ⟨rfl, rfl⟩)
  exact ⟨rfl, rfl, rfl⟩
theorem readWord_text (w : World) (b : Nat) (ln : Nat) (hlt : b < w.heap.size) (h4 : w.cell? ⟨b, 4, none⟩ = some (.int .i64 ln)) (g c : Nat) (p : S.By) (hp : p.length ≤ 4000) (hcell : w.cell? ⟨g, 0, none⟩ = some (.string (mk p))) (hg : g < w.heap.size) (hc : 1 ≤ c)
    (hS : S.wordOrName p = none) (hF : AF w) (hE : EF w) :
    Calls Tryz.prog 79 #[.pointer (some ⟨b, 0, none⟩), .slice (some ⟨g, 0, none⟩) 1 c] w fun x w' => x = flt ln 1 ∧ Below w.heap.size w w' := by
  have HW := hid (wordOrName_no b ln (mk p) (by rw [mk_size]; omega) hS w hlt h4 hF hE)
  clear h4 hS hF hE
  go_enter Tryz.func79, Tryz.ntmps79
  go_wp2_with (go_at_call 104; refine HW.out.mono ?_; rintro e w1 ⟨rfl, hb1⟩)
  exact ⟨rfl, rfl, hb1⟩
set_option maxRecDepth 100000 in
set_option maxHeartbeats 1600000 in
theorem readWord_low (w : World) (b : Nat) (ln : Nat) (hlt : b < w.heap.size) (h4 : w.cell? ⟨b, 4, none⟩ = some (.int .i64 ln)) (g c : Nat) (p : S.By) (hp : p.length ≤ 4000) (hcell : w.cell? ⟨g, 0, none⟩ = some (.string (mk p))) (hg : g < w.heap.size) (hc : 1 ≤ c)
    (v : Int) (nm : S.By) (hS : S.wordOrName p = some (v, nm)) (hv : v < 0) (hF : AF w) :
    Calls Tryz.prog 79 #[.pointer (some ⟨b, 0, none⟩), .slice (some ⟨g, 0, none⟩) 1 c] w fun x w' => x = flt ln 3 ∧ Below w.heap.size w w' := by
  have HW := hid (wordOrName_ok (some ⟨b, 0, none⟩) (mk p) (v, nm) (by rw [mk_size]; omega) hS w hF)
  have H4 := hid h4
  clear h4 hS hF
  go_enter Tryz.func79, Tryz.ntmps79
  go_wp2_with (first
    | (go_at_call 104; refine HW.out.mono ?_; rintro e w1 ⟨rfl, hb1⟩)
    | (go_at_call 52; refine (giveUp_any b ln 3 _ (Nat.lt_of_lt_of_le hlt hb1.size) ((hb1.cell hlt).trans H4.out)).mono ?_; rintro e w' ⟨rfl, rfl⟩))
  exact ⟨rfl, rfl, hb1⟩
set_option maxRecDepth 100000 in
set_option maxHeartbeats 1600000 in
theorem readWord_high (w : World) (b : Nat) (ln : Nat) (hlt : b < w.heap.size) (h4 : w.cell? ⟨b, 4, none⟩ = some (.int .i64 ln)) (g c : Nat) (p : S.By) (hp : p.length ≤ 4000) (hcell : w.cell? ⟨g, 0, none⟩ = some (.string (mk p))) (hg : g < w.heap.size) (hc : 1 ≤ c)
    (v : Int) (nm : S.By) (hS : S.wordOrName p = some (v, nm)) (hv : 65535 < v) (hF : AF w) :
    Calls Tryz.prog 79 #[.pointer (some ⟨b, 0, none⟩), .slice (some ⟨g, 0, none⟩) 1 c] w fun x w' => x = flt ln 3 ∧ Below w.heap.size w w' := by
  have HW := hid (wordOrName_ok (some ⟨b, 0, none⟩) (mk p) (v, nm) (by rw [mk_size]; omega) hS w hF)
  have H4 := hid h4
  have hv0 : ¬ v < 0 := by omega
  clear h4 hS hF
  go_enter Tryz.func79, Tryz.ntmps79
  go_wp2_with (first
    | (go_at_call 104; refine HW.out.mono ?_; rintro e w1 ⟨rfl, hb1⟩)
    | (go_at_call 52; refine (giveUp_any b ln 3 _ (Nat.lt_of_lt_of_le hlt hb1.size) ((hb1.cell hlt).trans H4.out)).mono ?_; rintro e w' ⟨rfl, rfl⟩))
  exact ⟨rfl, rfl, hb1⟩
set_option maxRecDepth 100000 in
set_option maxHeartbeats 1600000 in
theorem readWord_many (w : World) (B b mo mp : Nat) (ua ra : Option Addr) (uc rc : Nat) (st : S.St) (ln : Nat) (hR : Rd w B b mo mp ua uc ra rc st ln) (hrl : st.rom.length ≤ 1024) (g c : Nat) (p : S.By) (hp : p.length ≤ 4000) (hcell : w.cell? ⟨g, 0, none⟩ = some (.string (mk p))) (hg : g < w.heap.size) (hc : 1 ≤ c)
    (v : Int) (nm : S.By) (hS : S.wordOrName p = some (v, nm)) (v0 : 0 ≤ v) (v1 : v ≤ 65535) (e : Int) (hput : S.put [v] nm ln st = .error e) (hF : AF w) :
    Calls Tryz.prog 79 #[.pointer (some ⟨b, 0, none⟩), .slice (some ⟨g, 0, none⟩) 1 c] w fun x w' => x = flt ln e ∧ Below w.heap.size w w' := by
  have HW := hid (wordOrName_ok (some ⟨b, 0, none⟩) (mk p) (v, nm) (by rw [mk_size]; omega) hS w hF)
  have HR := hid hR
  have HP := hid hput
  have v0' : ¬ v < 0 := by omega
  have v1' : ¬ 65535 < v := by omega
  clear hR hput hS hF
  go_enter Tryz.func79, Tryz.ntmps79
  go_wp2_with (first
    | (go_at_call 104; refine HW.out.mono ?_; rintro e w1 ⟨rfl, hb1⟩)
    | (go_at_call 105; refine (put_no _ B b mo mp ua ra uc rc st ln (HR.out.kept (stA hb1 (.cells #[.int .u16 v] 40))) _ 1 1 [v] rfl (Nat.le_succ 1) hrl _ nm e HP.out).mono ?_; rintro x w2 ⟨rfl, rfl⟩))
  exact ⟨rfl, rfl, stA hb1 _⟩
theorem readWord_no (w : World) (B b mo mp : Nat) (ua ra : Option Addr) (uc rc : Nat) (st : S.St) (ln : Nat) (hR : Rd w B b mo mp ua uc ra rc st ln) (hrl : st.rom.length ≤ 1024) (ps : List S.By) (hps : ∀ s ∈ ps, s.length ≤ 4000) (e : Int) (hS : S.readWord ps ln st = .error e) (gp : Nat) (hgp : gp < w.heap.size) (hsp : strsAt w gp ps) (hF : AF w) (hE : EF w) :
    Calls Tryz.prog 79 #[.pointer (some ⟨b, 0, none⟩), .slice (some ⟨gp, 0, none⟩) ps.length ps.length] w (LineNo w w.heap.size ln e) := by
  have form : ∀ n : Nat, n ≠ 1 → (.error 4 : Except Int S.St) = .error e → Calls Tryz.prog 79 #[.pointer (some ⟨b, 0, none⟩), .slice (some ⟨gp, 0, none⟩) n n] w (LineNo w w.heap.size ln e) := fun n hn he => by
    cases he
    exact (readWord_form w b ln hR.lt (hR.cell 4) _ n n hn).mono fun x w' ⟨h1, h2⟩ => ⟨h1, h2 ▸ st0 _⟩
  match ps, hps, hS, hsp with
  | [p], hps, hS, hsp =>
    have hp := hps p (by simp)
    have hcell := hsp 0 p rfl
    unfold S.readWord at hS
    simp only at hS
    split at hS
    · rename_i v nm hv
      split at hS
      · rename_i hr
        cases hS
        by_cases h0 : v < 0
        · exact readWord_low w b ln hR.lt (hR.cell 4) gp 1 p hp hcell hgp (Nat.le_refl _) v nm hv h0 hF
        · exact readWord_high w b ln hR.lt (hR.cell 4) gp 1 p hp hcell hgp (Nat.le_refl _) v nm hv (by omega) hF
      · exact readWord_many w B b mo mp ua ra uc rc st ln hR hrl gp 1 p hp hcell hgp (Nat.le_refl _) v nm hv (by omega) (by omega) e hS hF
    · rename_i hn
      cases hS
      exact readWord_text w b ln hR.lt (hR.cell 4) gp 1 p hp hcell hgp (Nat.le_refl _) hn hF hE
  | [], _, hS, _ => exact form 0 (by omega) hS
  | _ :: _ :: l, _, hS, _ => exact form _ (by simp) hS
theorem readWord_nil (w : World) (B b mo mp : Nat) (ua ra : Option Addr) (uc rc : Nat) (st : S.St) (ln : Nat) (hR : Rd w B b mo mp ua uc ra rc st ln) (e : Int) (hS : S.readWord [] ln st = .error e) :
    Calls Tryz.prog 79 #[.pointer (some ⟨b, 0, none⟩), .slice none 0 0] w (LineNo w w.heap.size ln e) := by
  cases hS
  exact (readWord_form w b ln hR.lt (hR.cell 4) _ 0 0 (by omega)).mono fun x w' ⟨h1, h2⟩ => ⟨h1, h2 ▸ st0 _⟩

/-! ### places -/
theorem readPlace_text (w : World) (b : Nat) (ln : Nat) (hlt : b < w.heap.size) (h4 : w.cell? ⟨b, 4, none⟩ = some (.int .i64 ln)) (name : S.By) (hn : S.nameOk name = false) :
    Calls Tryz.prog 78 #[.pointer (some ⟨b, 0, none⟩), .string (mk name)] w fun x w' => x = flt ln 1 ∧ w = w' := by
  have HN := hid (asmName_at (mk name) w)
  rw [bs_mk, hn] at HN
  have HG := hid (giveUp_any b ln 1 w hlt h4)
  clear h4 hn
  go_enter Tryz.func78, Tryz.ntmps78
  go_wp2_with (first
    | (go_at_call 7; refine HN.out.mono ?_; rintro e w' ⟨rfl, rfl⟩)
    | (go_at_call 52; refine HG.out.mono ?_; rintro e w' ⟨rfl, rfl⟩))
  exact ⟨rfl, rfl, rfl⟩
theorem readPlace_twice (w : World) (B b mo mp : Nat) (ua ra : Option Addr) (uc rc : Nat) (st : S.St) (ln : Nat) (hR : Rd w B b mo mp ua uc ra rc st ln) (name : S.By) (hn : S.nameOk name = true) (q : S.By × Nat) (hf : st.places.find? (fun p => p.1 == name) = some q) :
    Calls Tryz.prog 78 #[.pointer (some ⟨b, 0, none⟩), .string (mk name)] w fun x w' => x = flt ln 6 ∧ w = w' := by
  have HN := hid (asmName_at (mk name) w)
  rw [bs_mk, hn] at HN
  have hfp : (pl st.places).find? (fun p => p.1 == mk name) = some (mk q.1, (q.2 : Int)) := by rw [pl_find, bs_mk, hf]; rfl
  have hlk := lookup_s (P := Tryz.prog) Tryz.underlying32 Tryz.underlying9 hR.places (mk name) (zero_int w)
  rw [hfp] at hlk
  simp only [Option.map_some, Option.getD_some, Option.isSome_some] at hlk
  have c1 : w.cell? ⟨b, 1, none⟩ = some (.map (some mp)) := hR.cell 1
  have hlt := hR.lt
  have HG := hid (giveUp_any b ln 6 w hR.lt (hR.cell 4))
  clear hR hn hf hfp
  go_enter Tryz.func78, Tryz.ntmps78
  go_wp2_with (first
    | (go_at_call 7; refine HN.out.mono ?_; rintro e w' ⟨rfl, rfl⟩)
    | (go_at_call 52; refine HG.out.mono ?_; rintro e w' ⟨rfl, rfl⟩))
  exact ⟨rfl, rfl, rfl⟩
theorem readPlace_no (w : World) (B b mo mp : Nat) (ua ra : Option Addr) (uc rc : Nat) (st : S.St) (ln : Nat) (hR : Rd w B b mo mp ua uc ra rc st ln) (name : S.By) (e : Int) (hS : S.readPlace name st = .error e) :
    Calls Tryz.prog 78 #[.pointer (some ⟨b, 0, none⟩), .string (mk name)] w (LineNo w w.heap.size ln e) := by
  unfold S.readPlace at hS
  split at hS
  · rename_i hn
    split at hS
    · rename_i q hf
      cases hS
      exact (readPlace_twice w B b mo mp ua ra uc rc st ln hR name hn q hf).mono fun x w' ⟨h1, h2⟩ => ⟨h1, h2 ▸ st0 _⟩
    · cases hS
  · rename_i hn
    cases hS
    exact (readPlace_text w b ln hR.lt (hR.cell 4) name (by simpa using hn)).mono fun x w' ⟨h1, h2⟩ => ⟨h1, h2 ▸ st0 _⟩
theorem lookup_none {w : World} {mo : Nat} (h : mapS w mo (opsTo 32)) (c : S.By) (hk : S.opOf c = none) : (Instr.lookup 32 (.map (some mo)) (.string (mk c)) true).run Tryz.prog w = .ok (.tuple #[.int .i64 0, .bool false]) w := by
  have := lookup_s (P := Tryz.prog) Tryz.underlying32 Tryz.underlying9 h (mk c) (zero_int w)
  rw [ops_find, bs_mk, hk] at this
  exact this
theorem readOrder_who (w : World) (B b mo mp : Nat) (ua ra : Option Addr) (uc rc : Nat) (st : S.St) (ln : Nat) (hR : Rd w B b mo mp ua uc ra rc st ln) (called : S.By) (hop : S.opOf called = none) (a : Option Addr) (n c : Nat) :
    Calls Tryz.prog 80 #[.pointer (some ⟨b, 0, none⟩), .string (mk called), .slice a n c] w fun x w' => x = flt ln 5 ∧ w = w' := by
  have hlk := lookup_none hR.ops called hop
  have hc0 : w.cell? ⟨b, 0, none⟩ = some (.map (some mo)) := hR.cell 0
  have hlt := hR.lt
  have HG := hid (giveUp_any b ln 5 w hR.lt (hR.cell 4))
  clear hR hop
  go_enter Tryz.func80, Tryz.ntmps80
  go_wp2_with (go_at_call 52; refine HG.out.mono ?_; rintro e w' ⟨rfl, rfl⟩)
  exact ⟨rfl, rfl, rfl⟩
theorem partsOf_len (k : Nat) (hk : k < 32) (h30 : k ≠ 30) (w : World) (hs : shapesAt w) :
    Calls Tryz.prog 96 #[.int .i64 k] w fun e w' => ∃ a cap, e = .returned (.slice a (S.parts k).length cap) ∧ Below w.heap.size w w' := by
  by_cases hp : S.parts k = []
  · exact (partsOf_0 k hk h30 hp w hs).mono fun e w' ⟨a, cap, h1, h2⟩ => ⟨a, cap, by rw [hp]; exact h1, h2⟩
  · exact (partsOf_n k hk h30 (List.length_pos_iff.2 hp) w hs).mono fun e w' ⟨g, cap, h1, _, _, _, _, h2⟩ => ⟨_, cap, h1, h2⟩
set_option maxRecDepth 100000 in
set_option maxHeartbeats 1600000 in
theorem readOrder_form (w : World) (B b mo mp : Nat) (ua ra : Option Addr) (uc rc : Nat) (st : S.St) (ln : Nat) (hR : Rd w B b mo mp ua uc ra rc st ln) (called : S.By) (k : Nat) (hop : S.opOf called = some k) (hk : k < 32) (h30 : k ≠ 30) (a : Option Addr) (n c : Nat) (hn : n ≠ (S.parts k).length) (hF : AF w) :
    Calls Tryz.prog 80 #[.pointer (some ⟨b, 0, none⟩), .string (mk called), .slice a n c] w fun x w' => x = flt ln 4 ∧ Below w.heap.size w w' := by
  have hlk := lookup_op hR.ops called k hop
  have hc0 : w.cell? ⟨b, 0, none⟩ = some (.map (some mo)) := hR.cell 0
  have hlt := hR.lt
  have HR := hid hR
  have HP := hid (partsOf_len k hk h30 w hF.shapes)
  have hn1 : ((n : Int) == ((S.parts k).length : Int)) = false := by simp; omega
  generalize (S.parts k).length = m at *
  clear hR hop hF hn
  go_enter Tryz.func80, Tryz.ntmps80
  go_wp2_with (first
    | (go_at_call 96; refine HP.out.mono ?_; rintro e w1 ⟨a1, cap1, rfl, hb1⟩)
    | (go_at_call 52; refine (giveUp_any b ln 4 _ (HR.out.kept hb1).lt ((HR.out.kept hb1).cell 4)).mono ?_; rintro e w' ⟨rfl, rfl⟩))
  exact ⟨rfl, rfl, hb1⟩
theorem readParts_or {k j p : Nat} {ps : List S.By} {s : S.By} {o : S.Ord} {nm : S.By} {R : Option (S.Ord × S.By)} (hp : (S.parts k)[j]? = some p) (hs : ps[j]? = some s) (h : S.readParts ((S.parts k).drop j) (ps.drop j) o nm = R) :
    (S.readPart p s o nm = none ∧ R = none) ∨ ∃ x, S.readPart p s o nm = some x ∧ S.readParts ((S.parts k).drop (j + 1)) (ps.drop (j + 1)) x.1 x.2 = R := by
  rw [drop_at hp, drop_at hs] at h
  simp only [S.readParts] at h
  cases hx : S.readPart p s o nm with
  | none => rw [hx] at h; exact Or.inl ⟨rfl, h.symm⟩
  | some x => rw [hx] at h; exact Or.inr ⟨x, rfl, h⟩
theorem words_le (k : Nat) (o : S.Ord) : (O.words k o.d o.s o.n o.w).length ≤ 2 := by unfold O.words; split <;> simp
theorem reg_no (s : ByteArray) (h : S.reg (bs s) = none) (w : World) : Calls Tryz.prog 23 #[.string s] w fun e w' => e = .returned (.tuple #[.int .i64 0, .bool false]) ∧ w = w' := by
  have := register_any s w
  rw [h] at this
  exact this.mono fun e w' hh => ⟨hh.1, hh.2.symm⟩
/-- What is wrong with an order's parts, if anything is. -/
def Wrong (k : Nat) (ln : Nat) (st : S.St) (e : Int) : Option (S.Ord × S.By) → Prop
  | none => e = 1
  | some x => (O.ck k x.1.d x.1.s x.1.n x.1.w = e ∧ e ≠ 0) ∨ (O.okB k x.1.d x.1.s x.1.n x.1.w = true ∧ S.put (O.words k x.1.d x.1.s x.1.n x.1.w) x.2 ln st = .error e)
set_option maxRecDepth 100000 in
set_option maxHeartbeats 1600000 in
theorem readOrder_bad (w : World) (B b mo mp : Nat) (ua ra : Option Addr) (uc rc : Nat) (st : S.St) (ln : Nat) (hR : Rd w B b mo mp ua uc ra rc st ln) (hrl : st.rom.length ≤ 1024) (called : S.By) (k : Nat) (hop : S.opOf called = some k) (hk : k < 32) (h30 : k ≠ 30) (hp : 0 < (S.parts k).length) (R : Option (S.Ord × S.By)) (er : Int) (ps : List S.By) (hpl : ps.length = (S.parts k).length) (hps : ∀ s ∈ ps, s.length ≤ 4000) (hrp : S.readParts (S.parts k) ps S.Ord.zero [] = R) (hwr : Wrong k ln st er R)
    (gp cp : Nat) (hcp : (S.parts k).length ≤ cp) (hgp : gp < w.heap.size) (hsp : strsAt w gp ps) (hF : AF w) (hE : EF w) :
    Calls Tryz.prog 80 #[.pointer (some ⟨b, 0, none⟩), .string (mk called), .slice (some ⟨gp, 0, none⟩) (S.parts k).length cp] w fun x w' =>
      x = flt ln er ∧ Below w.heap.size w w' := by
  have hlk := lookup_op hR.ops called k hop
  have hc0 : w.cell? ⟨b, 0, none⟩ = some (.map (some mo)) := hR.cell 0
  have hlt := hR.lt
  have HR := hid hR
  have HF0 := hid hF
  have HWR := hid hwr
  have HE0 := hid hE
  have HPS := hid hps
  have HSP := hid hsp
  have HRP := hid hrp
  have h4 := parts_le k
  clear hR hF hE hop hps hsp hrp hwr
  go_enter Tryz.func80, Tryz.ntmps80
  go_wp2_with (go_at_call 96; refine (partsOf_n k hk h30 hp _ HF0.out.shapes).mono ?_; rintro e w1 ⟨g1, cap1, rfl, hpa, hg1, hg1', hcap1, hb1⟩)
  have HF := hid (HF0.out.kept hb1)
  have HE := hid (HE0.out.kept hb1)
  have HR1 := hid (HR.out.kept hb1)
  have HSP1 := hid (HSP.out.kept hb1 hgp)
  have hPA := hid hpa
  have hsz1 := hb1.size
  clear hpa
  go_loopw [10, 42] (fun n i wr => ∃ (j : Nat) (o : S.Ord) (nm : S.By), j ≤ (S.parts k).length ∧ i = .int .i64 j ∧ n = .string (mk nm) ∧ S.readParts ((S.parts k).drop j) (ps.drop j) o nm = R ∧ ordAt wr w1.heap.size k o ∧ Below w1.heap.size w1 wr) (fun _ i _ => (S.parts k).length - (intOf i).toNat)
  case atStart => exact ⟨0, S.Ord.zero, [], by omega, rfl, rfl, HRP.out, heap_alloc_new w1 _, stA (st0 _) _⟩
  case round =>
    obtain ⟨j, o, nm, hj, rfl, rfl, hrd, hO, hbl⟩ := hrel
    have hszr := hbl.size
    have hO := hid hO
    by_cases hlt2 : j < (S.parts k).length
    · obtain ⟨p, hpj⟩ : ∃ p, (S.parts k)[j]? = some p := ⟨_, List.getElem?_eq_getElem hlt2⟩
      obtain ⟨s, hsj⟩ : ∃ s, ps[j]? = some s := ⟨_, List.getElem?_eq_getElem (by omega)⟩
      have hpart := readParts_or hpj hsj hrd
      have hp4 := parts_lt hpj
      have hsl := HPS.out s (List.mem_of_getElem? hsj)
      have cs : wr.cell? ⟨gp, j, none⟩ = some (.string (mk s)) := (HSP1.out.kept hbl (by omega)) j s hsj
      have ck : wr.cell? ⟨g1, j, none⟩ = some (.int .i64 p) := (hPA.out.kept hbl hg1') j p hpj
      have hgpr : gp < wr.heap.size := by omega
      have hg1r : g1 < wr.heap.size := by omega
      have hjI : (j : Int) < (S.parts k).length := by omega
      clear hrd hpj hsj
      have hRr := hid (HR1.out.kept hbl)
      have hc : p = 0 ∨ p = 1 ∨ p = 2 ∨ p = 3 := by omega
      clear hp4
      rcases hc with rfl | rfl | rfl | rfl
      · rcases hpart with ⟨hx, hR0⟩ | ⟨x, hx, hnext⟩
        · have hy : S.reg s = none := by
            simp only [S.readPart, show ¬ (0 : Nat) = 2 by omega, show ¬ (0 : Nat) = 3 by omega, if_false] at hx
            cases hw : S.reg s with
            | none => rfl
            | some y => rw [hw] at hx; cases hx
          have he1 : er = 1 := by have := HWR.out; rw [hR0] at this; exact this
          subst he1
          have HY := hid hy
          clear hx hy hR0
          go_wp2_with (first
            | (go_at_call 97; refine (of_at0 _ _).mono ?_; rintro e w' ⟨rfl, rfl⟩)
            | (go_at_call 23; refine (reg_no (mk s) HY.out _).mono ?_; rintro e w' ⟨rfl, rfl⟩)
            | (go_at_call 106; refine (known_no b 0 ln _ hRr.out.lt (hRr.out.cell 4)).mono ?_; rintro e w' ⟨rfl, rfl⟩))
          exact ⟨rfl, rfl, stp hb1 hbl⟩
        · have HN2 := hid hnext
          clear hnext
          obtain ⟨y, hy, rfl⟩ : ∃ y, S.reg s = some y ∧ x = (o.set 0 y, nm) := by
            simp only [S.readPart, show ¬ (0 : Nat) = 2 by omega, show ¬ (0 : Nat) = 3 by omega, if_false] at hx
            cases hw : S.reg s with
            | none => rw [hw] at hx; cases hx
            | some y => rw [hw] at hx; exact ⟨y, rfl, (Option.some.inj hx).symm⟩
          have HY := hid hy
          have f2 := hO.out.frozen 1
          have z2 := hO.out.lt
          have d2 : wr.cell? ⟨w1.heap.size, 1, none⟩ = some (.int .i64 o.d) := hO.out.cell 1
          clear hy
          clear hx
          go_wp2_with (first
            | (go_at_call 97; refine (of_at0 _ _).mono ?_; rintro e w' ⟨rfl, rfl⟩)
            | (go_at_call 23; refine (reg_at (mk s) y HY.out _).mono ?_; rintro e w' ⟨rfl, rfl⟩)
            | (go_at_call 106; refine (known_at _ y _).mono ?_; rintro e w' ⟨rfl, rfl⟩))
          go_roundw
          case rel => exact ⟨j + 1, o.set 0 y, nm, by omega, by go_num, rfl, HN2.out, (hO.out.set 0 (by omega) y), hbl.setCell (Nat.le_refl _) _⟩
          case measure => simp [intOf]; omega
      · rcases hpart with ⟨hx, hR0⟩ | ⟨x, hx, hnext⟩
        · have hy : S.reg s = none := by
            simp only [S.readPart, show ¬ (1 : Nat) = 2 by omega, show ¬ (1 : Nat) = 3 by omega, if_false] at hx
            cases hw : S.reg s with
            | none => rfl
            | some y => rw [hw] at hx; cases hx
          have he1 : er = 1 := by have := HWR.out; rw [hR0] at this; exact this
          subst he1
          have HY := hid hy
          clear hx hy hR0
          go_wp2_with (first
            | (go_at_call 97; refine (of_at1 _ _).mono ?_; rintro e w' ⟨rfl, rfl⟩)
            | (go_at_call 23; refine (reg_no (mk s) HY.out _).mono ?_; rintro e w' ⟨rfl, rfl⟩)
            | (go_at_call 106; refine (known_no b 0 ln _ hRr.out.lt (hRr.out.cell 4)).mono ?_; rintro e w' ⟨rfl, rfl⟩))
          exact ⟨rfl, rfl, stp hb1 hbl⟩
        · have HN2 := hid hnext
          clear hnext
          obtain ⟨y, hy, rfl⟩ : ∃ y, S.reg s = some y ∧ x = (o.set 1 y, nm) := by
            simp only [S.readPart, show ¬ (1 : Nat) = 2 by omega, show ¬ (1 : Nat) = 3 by omega, if_false] at hx
            cases hw : S.reg s with
            | none => rw [hw] at hx; cases hx
            | some y => rw [hw] at hx; exact ⟨y, rfl, (Option.some.inj hx).symm⟩
          have HY := hid hy
          have f2 := hO.out.frozen 2
          have z2 := hO.out.lt
          have d2 : wr.cell? ⟨w1.heap.size, 2, none⟩ = some (.int .i64 o.s) := hO.out.cell 2
          clear hy
          clear hx
          go_wp2_with (first
            | (go_at_call 97; refine (of_at1 _ _).mono ?_; rintro e w' ⟨rfl, rfl⟩)
            | (go_at_call 23; refine (reg_at (mk s) y HY.out _).mono ?_; rintro e w' ⟨rfl, rfl⟩)
            | (go_at_call 106; refine (known_at _ y _).mono ?_; rintro e w' ⟨rfl, rfl⟩))
          go_roundw
          case rel => exact ⟨j + 1, o.set 1 y, nm, by omega, by go_num, rfl, HN2.out, (hO.out.set 1 (by omega) y), hbl.setCell (Nat.le_refl _) _⟩
          case measure => simp [intOf]; omega
      · rcases hpart with ⟨hx, hR0⟩ | ⟨x, hx, hnext⟩
        · have hy : S.wordOrName s = none := by
            simp only [S.readPart, if_true] at hx
            cases hw : S.wordOrName s with
            | none => rfl
            | some y => rw [hw] at hx; cases hx
          have he1 : er = 1 := by have := HWR.out; rw [hR0] at this; exact this
          subst he1
          have HY := hid hy
          clear hx hy hR0
          go_wp2_with (first
            | (go_at_call 97; refine (of_at2 _ _).mono ?_; rintro e w' ⟨rfl, rfl⟩)
            | (go_at_call 104; refine (wordOrName_no b ln (mk s) (by rw [mk_size]; omega) HY.out _ hRr.out.lt (hRr.out.cell 4) (HF.out.kept hbl) (HE.out.kept hbl)).mono ?_; rintro e w2 ⟨rfl, hb2⟩))
          exact ⟨rfl, rfl, stp (stp hb1 hbl) hb2⟩
        · have HN2 := hid hnext
          clear hnext
          obtain ⟨y, hy, rfl⟩ : ∃ y, S.wordOrName s = some y ∧ x = (o.set 2 y.1, y.2) := by
            simp only [S.readPart, if_true] at hx
            cases hw : S.wordOrName s with
            | none => rw [hw] at hx; cases hx
            | some y => rw [hw] at hx; exact ⟨y, rfl, (Option.some.inj hx).symm⟩
          have HC := hid (wordOrName_ok (some ⟨b, 0, none⟩) (mk s) y (by rw [mk_size]; omega) hy wr (HF.out.kept hbl))
          clear hx
          go_wp2_with (first
            | (go_at_call 97; refine (of_at2 _ _).mono ?_; rintro e w' ⟨rfl, rfl⟩)
            | (go_at_call 104; refine HC.out.mono ?_; rintro e w2 ⟨rfl, hb2⟩; have hO2 := hid (hO.out.kept hb2); have f2 := hO2.out.frozen 4; have z2 := hO2.out.lt; have d2 : w2.cell? ⟨w1.heap.size, 4, none⟩ = some (.int .i64 o.w) := hO2.out.cell 4))
          go_roundw
          case rel => exact ⟨j + 1, o.set 2 y.1, y.2, by omega, by go_num, rfl, HN2.out, (hO2.out.set 2 (by omega) y.1), (stp hbl hb2).setCell (Nat.le_refl _) _⟩
          case measure => simp [intOf]; omega
      · rcases hpart with ⟨hx, hR0⟩ | ⟨x, hx, hnext⟩
        · have hy : S.num s = none := by
            simp only [S.readPart, show ¬ (3 : Nat) = 2 by omega, if_false, if_true] at hx
            cases hw : S.num s with
            | none => rfl
            | some y => rw [hw] at hx; cases hx
          have he1 : er = 1 := by have := HWR.out; rw [hR0] at this; exact this
          subst he1
          have HY := hid hy
          clear hx hy hR0
          go_wp2_with (first
            | (go_at_call 97; refine (of_at3 _ _).mono ?_; rintro e w' ⟨rfl, rfl⟩)
            | (go_at_call 107; refine (number_no (mk s) (by rw [mk_size]; omega) HY.out _ (HF.out.kept hbl) (HE.out.kept hbl)).mono ?_; rintro e w2 ⟨rfl, hb2⟩; have hR2 := hid (hRr.out.kept hb2))
            | (go_at_call 106; refine (known_no b 0 ln _ hR2.out.lt (hR2.out.cell 4)).mono ?_; rintro e w' ⟨rfl, rfl⟩))
          exact ⟨rfl, rfl, stp (stp hb1 hbl) hb2⟩
        · have HN2 := hid hnext
          clear hnext
          obtain ⟨y, hy, rfl⟩ : ∃ y, S.num s = some y ∧ x = (o.set 3 y, nm) := by
            simp only [S.readPart, show ¬ (3 : Nat) = 2 by omega, if_false, if_true] at hx
            cases hw : S.num s with
            | none => rw [hw] at hx; cases hx
            | some y => rw [hw] at hx; exact ⟨y, rfl, (Option.some.inj hx).symm⟩
          have HC := hid (number_ok (mk s) y (by rw [mk_size]; omega) hy wr (HF.out.kept hbl))
          clear hx
          go_wp2_with (first
            | (go_at_call 97; refine (of_at3 _ _).mono ?_; rintro e w' ⟨rfl, rfl⟩)
            | (go_at_call 107; refine HC.out.mono ?_; rintro e w2 ⟨rfl, hb2⟩; have hO2 := hid (hO.out.kept hb2); have f2 := hO2.out.frozen 3; have z2 := hO2.out.lt; have d2 : w2.cell? ⟨w1.heap.size, 3, none⟩ = some (.int .i64 o.n) := hO2.out.cell 3)
            | (go_at_call 106; refine (known_at _ y _).mono ?_; rintro e w' ⟨rfl, rfl⟩))
          go_roundw
          case rel => exact ⟨j + 1, o.set 3 y, nm, by omega, by go_num, rfl, HN2.out, (hO2.out.set 3 (by omega) y), (stp hbl hb2).setCell (Nat.le_refl _) _⟩
          case measure => simp [intOf]; omega
    · have hjn : j = (S.parts k).length := by omega
      subst hjn
      rw [List.drop_length, ← hpl, List.drop_length] at hrd
      have hrd' : some (o, nm) = R := hrd
      have HW2 : Hid (Wrong k ln st er (some (o, nm))) := by rw [hrd']; exact HWR.out
      have e0 : wr.cell? ⟨w1.heap.size, 0, none⟩ = some (.int .i64 k) := hO.out.cell 0
      have e1 : wr.cell? ⟨w1.heap.size, 1, none⟩ = some (.int .i64 o.d) := hO.out.cell 1
      have e2 : wr.cell? ⟨w1.heap.size, 2, none⟩ = some (.int .i64 o.s) := hO.out.cell 2
      have e3 : wr.cell? ⟨w1.heap.size, 3, none⟩ = some (.int .i64 o.n) := hO.out.cell 3
      have e4 : wr.cell? ⟨w1.heap.size, 4, none⟩ = some (.int .i64 o.w) := hO.out.cell 4
      have z0 := hO.out.lt
      have hRr := hid (HR1.out.kept hbl)
      clear hrd hrd' HWR HRP
      rcases HW2.out with ⟨hck, he0⟩ | ⟨hok, hput⟩
      · have HC : Hid ((O.ck k o.d o.s o.n o.w == 0) = false) := by show _ = false; rw [hck]; simpa using he0
        have he1 : (er == 0) = false := by simpa using he0
        have HWN : Hid (∀ w, shapesAt w → Calls Tryz.prog 67 #[.agg #[.int .i64 k, .int .i64 o.d, .int .i64 o.s, .int .i64 o.n, .int .i64 o.w]] w fun e w' => e = .returned (.tuple #[.slice none 0 0, .int .i64 er]) ∧ Below w.heap.size w w') := fun w hs => by
          have := words_no k o.d o.s o.n o.w HC.out w hs
          rw [hck] at this
          exact this
        clear hck he0
        go_wp2_with (first
          | (go_at_call 67; refine (HWN.out _ (HF.out.kept hbl).shapes).mono ?_; rintro e w2 ⟨rfl, hb2⟩; have hR2 := hid (hRr.out.kept hb2))
          | (go_at_call 52; refine (giveUp_any b ln er _ hR2.out.lt (hR2.out.cell 4)).mono ?_; rintro e w' ⟨rfl, rfl⟩))
        exact ⟨rfl, rfl, stp (stp hb1 hbl) hb2⟩
      · have HOK := hid hok
        have HPUT := hid hput
        clear hok hput
        go_wp2_with (first
          | (go_at_call 67; refine (words_box k hk h30 o HOK.out _ (HF.out.kept hbl).shapes).mono ?_; rintro e w2 ⟨g, rfl, hw2, hg0, hg2, hb2⟩)
          | (go_at_call 105; refine (put_no w2 B b mo mp ua ra uc rc st ln (hRr.out.kept hb2) _ _ _ (O.words k o.d o.s o.n o.w) rfl (words_le k o) hrl _ nm er HPUT.out).mono ?_; rintro e w' ⟨rfl, rfl⟩))
        exact ⟨rfl, rfl, stp (stp hb1 hbl) hb2⟩
set_option maxRecDepth 100000 in
set_option maxHeartbeats 1600000 in
theorem readOrder_0many (w : World) (B b mo mp : Nat) (ua ra : Option Addr) (uc rc : Nat) (st : S.St) (ln : Nat) (hR : Rd w B b mo mp ua uc ra rc st ln) (hrl : st.rom.length ≤ 1024) (called : S.By) (k : Nat) (hop : S.opOf called = some k) (hk : k < 32) (h30 : k ≠ 30) (hp : S.parts k = []) (er : Int) (hput : S.put (O.words k 0 0 0 0) [] ln st = .error er) (hok : O.okB k 0 0 0 0 = true) (a0 : Option Addr) (c0 : Nat) (hF : AF w) :
    Calls Tryz.prog 80 #[.pointer (some ⟨b, 0, none⟩), .string (mk called), .slice a0 0 c0] w fun x w' => x = flt ln er ∧ Below w.heap.size w w' := by
  have hlk := lookup_op hR.ops called k hop
  have hc0 : w.cell? ⟨b, 0, none⟩ = some (.map (some mo)) := hR.cell 0
  have hlt := hR.lt
  have HR := hid hR
  have HP := hid hp
  have HF := hid hF
  have HPUT := hid hput
  have HOK := hid hok
  clear hR hp hF hput hop hok
  go_enter Tryz.func80, Tryz.ntmps80
  go_wp2_with (go_at_call 96; refine (partsOf_0 k hk h30 HP.out _ HF.out.shapes).mono ?_; rintro e w1 ⟨a1, cap1, rfl, hb1⟩)
  go_loop [10, 42] (fun n i => n = .string ⟨#[]⟩ ∧ i = .int .i64 0) (fun _ _ => 0)
  case atStart => exact ⟨rfl, rfl⟩
  case round =>
    obtain ⟨rfl, rfl⟩ := hrel
    go_wp2_with (first
      | (go_at_call 67; refine (words_box k hk h30 S.Ord.zero HOK.out _ (af_alloc (HF.out.kept hb1) _).shapes).mono ?_; rintro e w2 ⟨g, rfl, hw2, hg0, hg2, hb2⟩)
      | (go_at_call 105; refine (put_no w2 B b mo mp ua ra uc rc st ln ((HR.out.kept (stA hb1 (.cells #[.int .i64 k, .int .i64 0, .int .i64 0, .int .i64 0, .int .i64 0] 42))).kept hb2) _ _ _ (O.words k 0 0 0 0) rfl (words_le k S.Ord.zero) hrl _ [] er HPUT.out).mono ?_; rintro e w3 ⟨rfl, rfl⟩))
    exact ⟨rfl, rfl, stp (stA hb1 _) hb2⟩
theorem bare_ok : ∀ k : Fin 32, k.val ≠ 30 → S.parts k.val = [] → O.okB k.val 0 0 0 0 = true := by decide +kernel
theorem readOrder_ps_no (w : World) (B b mo mp : Nat) (ua ra : Option Addr) (uc rc : Nat) (st : S.St) (ln : Nat) (hR : Rd w B b mo mp ua uc ra rc st ln) (hrl : st.rom.length ≤ 1024) (called : S.By) (ps : List S.By) (hps : ∀ s ∈ ps, s.length ≤ 4000) (er : Int) (hS : S.readOrder called ps ln st = .error er) (hp0 : 0 < ps.length) (gp : Nat) (hgp : gp < w.heap.size) (hsp : strsAt w gp ps) (hF : AF w) (hE : EF w) :
    Calls Tryz.prog 80 #[.pointer (some ⟨b, 0, none⟩), .string (mk called), .slice (some ⟨gp, 0, none⟩) ps.length ps.length] w (LineNo w w.heap.size ln er) := by
  unfold S.readOrder at hS
  split at hS
  · rename_i hop
    cases hS
    exact (readOrder_who w B b mo mp ua ra uc rc st ln hR called hop _ _ _).mono fun x w' ⟨h1, h2⟩ => ⟨h1, h2 ▸ st0 _⟩
  · rename_i k hop
    have hm := List.mem_of_find?_eq_some hop
    have hpp := List.find?_some hop
    have hk : k < 32 := by simpa using hm
    have h30 : k ≠ 30 := by simp at hpp; exact hpp.1
    split at hS
    · rename_i hl
      have hw : Wrong k ln st er (S.readParts (S.parts k) ps S.Ord.zero []) := by
        split at hS
        · rename_i hr
          cases hS
          rw [hr]; rfl
        · rename_i o nm hr
          rw [hr]
          split at hS
          · rename_i hc
            refine Or.inr ⟨?_, hS⟩
            unfold O.ck at hc
            rw [(O.isOp_iff _).2 ⟨by omega, by omega, by omega⟩, Int.toNat_natCast] at hc
            show O.okB k o.d o.s o.n o.w = true
            cases hb : O.okB k o.d o.s o.n o.w
            · rw [hb] at hc; simp at hc
            · rfl
          · rename_i hc
            cases hS
            exact Or.inl ⟨rfl, hc⟩
      have := readOrder_bad w B b mo mp ua ra uc rc st ln hR hrl called k hop hk h30 (by omega) _ er ps hl hps rfl hw gp ps.length (by omega) hgp hsp hF hE
      rw [← hl] at this
      exact this
    · rename_i hl
      cases hS
      exact readOrder_form w B b mo mp ua ra uc rc st ln hR called k hop hk h30 _ _ _ hl hF
theorem readOrder_nil_no (w : World) (B b mo mp : Nat) (ua ra : Option Addr) (uc rc : Nat) (st : S.St) (ln : Nat) (hR : Rd w B b mo mp ua uc ra rc st ln) (hrl : st.rom.length ≤ 1024) (called : S.By) (er : Int) (hS : S.readOrder called [] ln st = .error er) (hF : AF w) :
    Calls Tryz.prog 80 #[.pointer (some ⟨b, 0, none⟩), .string (mk called), .slice none 0 0] w (LineNo w w.heap.size ln er) := by
  unfold S.readOrder at hS
  split at hS
  · rename_i hop
    cases hS
    exact (readOrder_who w B b mo mp ua ra uc rc st ln hR called hop _ _ _).mono fun x w' ⟨h1, h2⟩ => ⟨h1, h2 ▸ st0 _⟩
  · rename_i k hop
    have hm := List.mem_of_find?_eq_some hop
    have hpp := List.find?_some hop
    have hk : k < 32 := by simpa using hm
    have h30 : k ≠ 30 := by simp at hpp; exact hpp.1
    split at hS
    · rename_i hl
      have hp : S.parts k = [] := List.length_eq_zero_iff.1 (by simpa using hl.symm)
      have hok := bare_ok ⟨k, hk⟩ h30 hp
      rw [hp] at hS
      simp only [S.readParts, S.Ord.zero] at hS
      have hc : O.ck k 0 0 0 0 = 0 := by
        unfold O.ck
        rw [(O.isOp_iff _).2 ⟨by omega, by omega, by omega⟩, Int.toNat_natCast]
        simp only [if_true]
        rw [if_pos hok]
      rw [if_pos hc] at hS
      exact readOrder_0many w B b mo mp ua ra uc rc st ln hR hrl called k hop hk h30 hp er hS hok none 0 hF
    · rename_i hl
      cases hS
      exact readOrder_form w B b mo mp ua ra uc rc st ln hR called k hop hk h30 _ _ _ (by simpa using hl) hF
set_option maxRecDepth 100000 in
set_option maxHeartbeats 1600000 in
theorem readLine_place_no (w : World) (B b mo mp : Nat) (ua ra : Option Addr) (uc rc : Nat) (st : S.St) (ln : Nat) (hR : Rd w B b mo mp ua uc ra rc st ln) (hrl : st.rom.length ≤ 1024) (er : Int) (l : S.By) (hl : l.length ≤ 4000) (hc : Lib.hasSuffix l [58] = true) (hS : S.readPlace (Lib.trimSuffix l [58]) st = .error er) :
    Calls Tryz.prog 53 #[.pointer (some ⟨b, 0, none⟩), .string (mk l)] w (LineNo w w.heap.size ln er) := by
  have HC := hid (cutSuffix_any l [58] (by omega) w)
  rw [hc] at HC
  have HP := hid (readPlace_no w B b mo mp ua ra uc rc st ln hR _ er hS)
  clear hR hS hc
  go_enter Tryz.func53, Tryz.ntmps53
  go_wp2_with (first
    | (go_at_call 77; refine HC.out.mono ?_; rintro e w' ⟨rfl, rfl⟩)
    | (go_at_call 78; refine HP.out.mono ?_; rintro e w1 ⟨rfl, hb1⟩))
  exact ⟨rfl, rfl, hb1⟩
set_option maxRecDepth 100000 in
set_option maxHeartbeats 1600000 in
theorem readLine_word_no (w : World) (B b mo mp : Nat) (ua ra : Option Addr) (uc rc : Nat) (st : S.St) (ln : Nat) (hR : Rd w B b mo mp ua uc ra rc st ln) (hrl : st.rom.length ≤ 1024) (er : Int) (l : S.By) (hl : l.length ≤ 4000) (hc : Lib.hasSuffix l [58] = false) (hw : (Lib.cut l [32]).1 = S.plain) (hr : (Lib.cut l [32]).2.1 ≠ [])
    (hS : S.readWord (Lib.split (Lib.cut l [32]).2.1 S.comma) ln st = .error er) (hF : AF w) (hE : EF w) :
    Calls Tryz.prog 53 #[.pointer (some ⟨b, 0, none⟩), .string (mk l)] w (LineNo w w.heap.size ln er) := by
  have HC := hid (cutSuffix_any l [58] (by omega) w)
  rw [hc] at HC
  have HK := hid (cut_any l [32] (by omega) w hF)
  have hlen := (cut1_len l [32]).2
  have HSP : Hid (∀ w1, AF w1 → _) := fun w1 hF1 => split_strs (Lib.cut l [32]).2.1 (by omega) w1 hF1
  have he : (mk (Lib.cut l [32]).2.1).toList.isEmpty = false := by rw [mk_empty]; cases h : (Lib.cut l [32]).2.1 <;> simp_all
  rw [hw] at HK
  have hps : ∀ s ∈ Lib.split (Lib.cut l [32]).2.1 S.comma, s.length ≤ 4000 := fun s hs => by have := splitK_len _ _ _ s hs; omega
  have HR := hid hR
  have HF := hid hF
  have HE := hid hE
  have HS := hid hS
  have HPS := hid hps
  generalize hrest : (Lib.cut l [32]).2.1 = rest at *
  clear hR hS hc hF hE hw hps hrest hr
  have hq : ((mk S.plain).toList == [46, 119, 111, 114, 100]) = true := by rw [mk_toList]; rfl
  go_enter Tryz.func53, Tryz.ntmps53
  go_wp2_with (first
    | (go_at_call 77; refine HC.out.mono ?_; rintro e w' ⟨rfl, rfl⟩)
    | (go_at_call 51; refine HK.out.mono ?_; rintro e w1 ⟨rfl, hb1⟩)
    | (go_at_call 12; refine (HSP.out _ (HF.out.kept hb1)).mono ?_; rintro e w2 ⟨rfl, hst2, hz2, hb2⟩)
    | (go_at_call 79; refine (readWord_no w2 B b mo mp ua ra uc rc st ln (HR.out.kept (stp hb1 hb2)) hrl _ HPS.out er HS.out w1.heap.size hz2 hst2 (HF.out.kept (stp hb1 hb2)) (HE.out.kept (stp hb1 hb2))).mono ?_; rintro e w3 ⟨rfl, hb3⟩))
  exact ⟨rfl, rfl, stp (stp hb1 hb2) hb3⟩
set_option maxRecDepth 100000 in
set_option maxHeartbeats 1600000 in
theorem readLine_order_no (w : World) (B b mo mp : Nat) (ua ra : Option Addr) (uc rc : Nat) (st : S.St) (ln : Nat) (hR : Rd w B b mo mp ua uc ra rc st ln) (hrl : st.rom.length ≤ 1024) (er : Int) (l : S.By) (hl : l.length ≤ 4000) (hc : Lib.hasSuffix l [58] = false) (hw : (Lib.cut l [32]).1 ≠ S.plain) (hr : (Lib.cut l [32]).2.1 ≠ [])
    (hS : S.readOrder (Lib.cut l [32]).1 (Lib.split (Lib.cut l [32]).2.1 S.comma) ln st = .error er) (hF : AF w) (hE : EF w) :
    Calls Tryz.prog 53 #[.pointer (some ⟨b, 0, none⟩), .string (mk l)] w (LineNo w w.heap.size ln er) := by
  have HC := hid (cutSuffix_any l [58] (by omega) w)
  rw [hc] at HC
  have HK := hid (cut_any l [32] (by omega) w hF)
  have hlen := (cut1_len l [32]).2
  have HSP : Hid (∀ w1, AF w1 → _) := fun w1 hF1 => split_strs (Lib.cut l [32]).2.1 (by omega) w1 hF1
  have he : (mk (Lib.cut l [32]).2.1).toList.isEmpty = false := by rw [mk_empty]; cases h : (Lib.cut l [32]).2.1 <;> simp_all
  have hq : ((mk (Lib.cut l [32]).1).toList == [46, 119, 111, 114, 100]) = false := by rw [mk_toList]; simpa [S.plain] using hw
  have hps : ∀ s ∈ Lib.split (Lib.cut l [32]).2.1 S.comma, s.length ≤ 4000 := fun s hs => by have := splitK_len _ _ _ s hs; omega
  have HR := hid hR
  have HF := hid hF
  have HE := hid hE
  have HS := hid hS
  have HPS := hid hps
  generalize hrest : (Lib.cut l [32]).2.1 = rest at *
  generalize hfst : (Lib.cut l [32]).1 = called at *
  clear hR hS hc hF hE hw hps hrest hr hfst
  go_enter Tryz.func53, Tryz.ntmps53
  go_wp2_with (first
    | (go_at_call 77; refine HC.out.mono ?_; rintro e w' ⟨rfl, rfl⟩)
    | (go_at_call 51; refine HK.out.mono ?_; rintro e w1 ⟨rfl, hb1⟩)
    | (go_at_call 12; refine (HSP.out _ (HF.out.kept hb1)).mono ?_; rintro e w2 ⟨rfl, hst2, hz2, hb2⟩)
    | (go_at_call 80; refine (readOrder_ps_no w2 B b mo mp ua ra uc rc st ln (HR.out.kept (stp hb1 hb2)) hrl called _ HPS.out er HS.out (splitK_pos _ _ _) w1.heap.size hz2 hst2 (HF.out.kept (stp hb1 hb2)) (HE.out.kept (stp hb1 hb2))).mono ?_; rintro e w3 ⟨rfl, hb3⟩))
  exact ⟨rfl, rfl, stp (stp hb1 hb2) hb3⟩
set_option maxRecDepth 100000 in
set_option maxHeartbeats 1600000 in
theorem readLine_bare_no (w : World) (B b mo mp : Nat) (ua ra : Option Addr) (uc rc : Nat) (st : S.St) (ln : Nat) (hR : Rd w B b mo mp ua uc ra rc st ln) (hrl : st.rom.length ≤ 1024) (er : Int) (l : S.By) (hl : l.length ≤ 4000) (hc : Lib.hasSuffix l [58] = false) (hw : (Lib.cut l [32]).1 ≠ S.plain) (hr : (Lib.cut l [32]).2.1 = [])
    (hS : S.readOrder (Lib.cut l [32]).1 [] ln st = .error er) (hF : AF w) (hE : EF w) :
    Calls Tryz.prog 53 #[.pointer (some ⟨b, 0, none⟩), .string (mk l)] w (LineNo w w.heap.size ln er) := by
  have HC := hid (cutSuffix_any l [58] (by omega) w)
  rw [hc] at HC
  have HK := hid (cut_any l [32] (by omega) w hF)
  have he : (mk (Lib.cut l [32]).2.1).toList.isEmpty = true := by rw [mk_empty, hr]; rfl
  have hq : ((mk (Lib.cut l [32]).1).toList == [46, 119, 111, 114, 100]) = false := by rw [mk_toList]; simpa [S.plain] using hw
  have HR := hid hR
  have HF := hid hF
  have HE := hid hE
  have HS := hid hS
  generalize hrest : (Lib.cut l [32]).2.1 = rest at *
  generalize hfst : (Lib.cut l [32]).1 = called at *
  clear hR hS hc hF hE hw hrest hr hfst
  go_enter Tryz.func53, Tryz.ntmps53
  go_wp2_with (first
    | (go_at_call 77; refine HC.out.mono ?_; rintro e w' ⟨rfl, rfl⟩)
    | (go_at_call 51; refine HK.out.mono ?_; rintro e w1 ⟨rfl, hb1⟩)
    | (go_at_call 80; refine (readOrder_nil_no w1 B b mo mp ua ra uc rc st ln (HR.out.kept hb1) hrl called er HS.out (HF.out.kept hb1)).mono ?_; rintro e w3 ⟨rfl, hb3⟩))
  exact ⟨rfl, rfl, stp hb1 hb3⟩
set_option maxRecDepth 100000 in
set_option maxHeartbeats 1600000 in
theorem readLine_noword (w : World) (B b mo mp : Nat) (ua ra : Option Addr) (uc rc : Nat) (st : S.St) (ln : Nat) (hR : Rd w B b mo mp ua uc ra rc st ln) (er : Int) (l : S.By) (hl : l.length ≤ 4000) (hc : Lib.hasSuffix l [58] = false) (hw : (Lib.cut l [32]).1 = S.plain) (hr : (Lib.cut l [32]).2.1 = [])
    (hS : S.readWord [] ln st = .error er) (hF : AF w) :
    Calls Tryz.prog 53 #[.pointer (some ⟨b, 0, none⟩), .string (mk l)] w (LineNo w w.heap.size ln er) := by
  have HC := hid (cutSuffix_any l [58] (by omega) w)
  rw [hc] at HC
  have HK := hid (cut_any l [32] (by omega) w hF)
  have he : (mk (Lib.cut l [32]).2.1).toList.isEmpty = true := by rw [mk_empty, hr]; rfl
  rw [hw] at HK
  have hq : ((mk S.plain).toList == [46, 119, 111, 114, 100]) = true := by rw [mk_toList]; rfl
  have HR := hid hR
  have HS := hid hS
  generalize hrest : (Lib.cut l [32]).2.1 = rest at *
  clear hR hS hc hF hw hrest hr
  go_enter Tryz.func53, Tryz.ntmps53
  go_wp2_with (first
    | (go_at_call 77; refine HC.out.mono ?_; rintro e w' ⟨rfl, rfl⟩)
    | (go_at_call 51; refine HK.out.mono ?_; rintro e w1 ⟨rfl, hb1⟩)
    | (go_at_call 79; refine (readWord_nil w1 B b mo mp ua ra uc rc st ln (HR.out.kept hb1) er HS.out).mono ?_; rintro e w3 ⟨rfl, hb3⟩))
  exact ⟨rfl, rfl, stp hb1 hb3⟩
theorem readLine_no (w : World) (B b mo mp : Nat) (ua ra : Option Addr) (uc rc : Nat) (st : S.St) (ln : Nat) (hR : Rd w B b mo mp ua uc ra rc st ln) (hrl : st.rom.length ≤ 1024) (er : Int) (l : S.By) (hl : l.length ≤ 4000) (hS : S.readLine l ln st = .error er) (hF : AF w) (hE : EF w) :
    Calls Tryz.prog 53 #[.pointer (some ⟨b, 0, none⟩), .string (mk l)] w (LineNo w w.heap.size ln er) := by
  unfold S.readLine at hS
  cases hc : Lib.hasSuffix l [58] with
  | true =>
    rw [hc, if_pos rfl] at hS
    exact readLine_place_no w B b mo mp ua ra uc rc st ln hR hrl er l hl hc hS
  | false =>
    rw [hc, if_neg (by simp)] at hS
    by_cases hw : (Lib.cut l [32]).1 = S.plain
    · rw [if_pos hw] at hS
      by_cases hr : (Lib.cut l [32]).2.1 = []
      · unfold S.partsOf at hS
        rw [if_pos hr] at hS
        exact readLine_noword w B b mo mp ua ra uc rc st ln hR er l hl hc hw hr hS hF
      · unfold S.partsOf at hS
        rw [if_neg hr] at hS
        exact readLine_word_no w B b mo mp ua ra uc rc st ln hR hrl er l hl hc hw hr hS hF hE
    · rw [if_neg hw] at hS
      by_cases hr : (Lib.cut l [32]).2.1 = []
      · unfold S.partsOf at hS
        rw [if_pos hr] at hS
        exact readLine_bare_no w B b mo mp ua ra uc rc st ln hR hrl er l hl hc hw hr hS hF hE
      · unfold S.partsOf at hS
        rw [if_neg hr] at hS
        exact readLine_order_no w B b mo mp ua ra uc rc st ln hR hrl er l hl hc hw hr hS hF hE
theorem lines_or {f : Nat} {s : S.By} {ln : Nat} {st : S.St} {x : Nat × Int} (hs : s ≠ []) (h : S.readLines (f + 1) s ln st = .error x) : ((Lib.cut s [10]).2.2 = false ∧ x = (ln, 1)) ∨ ((Lib.cut s [10]).2.2 = true ∧ ∃ e, S.readLine (Lib.cut s [10]).1 ln st = .error e ∧ x = (ln, e)) ∨ ((Lib.cut s [10]).2.2 = true ∧ ∃ st', S.readLine (Lib.cut s [10]).1 ln st = .ok st' ∧ S.readLines f (Lib.cut s [10]).2.1 (ln + 1) st' = .error x) := by
  unfold S.readLines at h
  rw [if_neg hs] at h
  split at h
  · rename_i hc
    split at h
    · rename_i st' hl
      exact Or.inr (Or.inr ⟨hc, st', hl, h⟩)
    · rename_i e hl
      cases h
      exact Or.inr (Or.inl ⟨hc, e, hl, rfl⟩)
  · rename_i hc
    cases h
    exact Or.inl ⟨by simpa using hc, rfl⟩
set_option maxRecDepth 100000 in
set_option maxHeartbeats 1600000 in
theorem readLines_no (w : World) (B b mo mp : Nat) (ua ra : Option Addr) (uc rc : Nat) (st : S.St) (hR : Rd w B b mo mp ua uc ra rc st 0) (hu0 : st.uses = []) (hi : Inv st) (s : S.By) (hl : s.length ≤ 4000) (lE : Nat) (eE : Int) (hS : S.readLines s.length s 0 st = .error (lE, eE)) (hBw : B ≤ w.heap.size) (hFB : Hid (∀ w', Below B w w' → AF w' ∧ EF w')) :
    Calls Tryz.prog 30 #[.pointer (some ⟨b, 0, none⟩), .string (mk s)] w fun e w' => e = flt lE eE ∧ Below B w w' := by
  have HR := hid hR
  have HS := hid hS
  have HI := hid hi
  have hBb := hR.hB
  clear hR hS hi
  go_enter Tryz.func30, Tryz.ntmps30
  go_wp2
  go_loopw [1] (fun r wr => ∃ (t : S.By) (f ln : Nat) (st' : S.St) (ua' : Option Addr) (uc' : Nat) (ra' : Option Addr) (rc' : Nat), r = .string (mk t) ∧ t.length ≤ f ∧ t.length + ln ≤ 4000 ∧ S.readLines f t ln st' = .error (lE, eE) ∧ st'.uses.length ≤ ln ∧ Inv st' ∧ Rd wr B b mo mp ua' uc' ra' rc' st' ln ∧ Below B w wr) (fun r _ => match r with | .string x => x.size | _ => 0)
  case atStart => exact ⟨s, s.length, 0, st, ua, uc, ra, rc, rfl, Nat.le_refl _, by omega, HS.out, by rw [hu0]; exact Nat.le_refl _, HI.out, HR.out, Below.refl _ _⟩
  case round =>
    obtain ⟨t, f, ln, st', ua', uc', ra', rc', rfl, htf, htl, hrd, hul, hi1, hR1, hbl⟩ := hrel
    have hszr := Nat.le_trans hBw hbl.size
    by_cases ht : t = []
    · subst ht
      rw [S.readLines_nil] at hrd
      cases hrd
    · have he : (mk t).toList.isEmpty = false := by rw [mk_empty]; cases t <;> simp_all
      have htp : t.length ≠ 0 := fun e => ht (List.length_eq_zero_iff.1 e)
      obtain ⟨f', rfl⟩ : ∃ f', f = f' + 1 := ⟨f - 1, by omega⟩
      have hl1 := (cut1_len t [10]).1
      obtain ⟨hF1, hE1⟩ := hFB.out wr hbl
      have HK := hid (cut_any t [10] (by omega) wr hF1)
      rcases lines_or ht hrd with ⟨hcut, hx⟩ | ⟨hcut, e1, hln, hx⟩ | ⟨hcut, st2, hln, hnext⟩
      · cases hx
        rw [hcut] at HK
        have HRr := hid hR1
        clear hrd hcut hF1 hE1 hR1
        go_wp2_with (first
          | (go_at_call 51; refine HK.out.mono ?_; rintro e w1 ⟨rfl, hb1⟩)
          | (go_at_call 52; refine (giveUp_any b lE 1 _ (HRr.out.kept hb1).lt ((HRr.out.kept hb1).cell 4)).mono ?_; rintro e w' ⟨rfl, rfl⟩))
        exact ⟨rfl, rfl, hbl.trans (bB hszr hb1)⟩
      · cases hx
        rw [hcut] at HK
        have HL : Hid (∀ w1, Below wr.heap.size wr w1 → _) := fun w1 (hb1 : Below wr.heap.size wr w1) => readLine_no w1 B b mo mp ua' ra' uc' rc' st' lE (hR1.kept hb1) hi1.1 eE (Lib.cut t [10]).1 (by omega) hln (hF1.kept hb1) (hE1.kept hb1)
        clear hrd hcut hln hF1 hE1
        go_wp2_with (first
          | (go_at_call 51; refine HK.out.mono ?_; rintro e w1 ⟨rfl, hb1⟩)
          | (go_at_call 53; refine (HL.out w1 hb1).mono ?_; rintro e w2 ⟨rfl, hb2⟩))
        exact ⟨rfl, rfl, hbl.trans (bB hszr (stp hb1 hb2))⟩
      · have hless := cut_less t ht hcut
        rw [hcut] at HK
        have HL : Hid (∀ w1, Below wr.heap.size wr w1 → _) := fun w1 (hb1 : Below wr.heap.size wr w1) => readLine_ok w1 B b mo mp ua' ra' uc' rc' st' st2 ln (hR1.kept hb1) (Lib.cut t [10]).1 (by omega) hln (Nat.le_trans hszr hb1.size) (by omega) (hF1.kept hb1)
        have hu2 := line_uses hln
        have hi2 := hid (inv_line hi1 hln)
        have HN := hid hnext
        clear hrd hcut hln hnext hF1 hE1
        go_wp2_with (first
          | (go_at_call 51; refine HK.out.mono ?_; rintro e w1 ⟨rfl, hb1⟩)
          | (go_at_call 53; refine (HL.out w1 hb1).mono ?_; rintro e w2 ⟨rfl, ⟨ua2, uc2, ra2, rc2, hR2⟩, hb2⟩; have c4 : w2.cell? ⟨b, 4, none⟩ = some (.int .i64 ln) := hR2.cell 4; have f4 := hR2.frozen 4; have z4 := hR2.lt))
        refine ⟨⟨(Lib.cut t [10]).2.1, f', ln + 1, st2, ua2, uc2, ra2, rc2, rfl, by omega, by omega, HN.out, by omega, hi2.out, hR2.put_line (ln + 1), ((hbl.trans (bB hszr hb1)).trans hb2).setCell hBb _⟩, ?_⟩
        show (Lib.cut t [10]).2.1.length < t.length
        exact hless
theorem lookup_noplace {w : World} {mp : Nat} {ps : List (S.By × Nat)} (h : mapS w mp (pl ps)) (c : S.By) (hf : ps.find? (fun p => p.1 == c) = none) : (Instr.lookup 32 (.map (some mp)) (.string (mk c)) true).run Tryz.prog w = .ok (.tuple #[.int .i64 0, .bool false]) w := by
  have := lookup_s (P := Tryz.prog) Tryz.underlying32 Tryz.underlying9 h (mk c) (zero_int w)
  rw [pl_find, bs_mk, hf] at this
  exact this
theorem lay_or {ps : List (S.By × Nat)} {u : S.By × Nat × Nat} {us : List (S.By × Nat × Nat)} {rom : S.By} {x : Nat × Int} (h : S.lay ps (u :: us) rom = .error x) : (ps.find? (fun p => p.1 == u.1) = none ∧ x = (u.2.2, 5)) ∨ ∃ p, ps.find? (fun p => p.1 == u.1) = some p ∧ S.lay ps us ((rom.set u.2.1 (UInt8.ofNat (p.2 / 256))).set (u.2.1 + 1) (UInt8.ofNat (p.2 % 256))) = .error x := by
  unfold S.lay at h
  split at h
  · rename_i hp
    cases h
    exact Or.inl ⟨hp, rfl⟩
  · rename_i p hp
    exact Or.inr ⟨p, hp, h⟩
set_option maxRecDepth 100000 in
set_option maxHeartbeats 1600000 in
theorem layPlaces_n_no (w : World) (B b mo mp ug uc rg rc : Nat) (st : S.St) (ln : Nat) (hR : Rd w B b mo mp (some ⟨ug, 0, none⟩) uc (some ⟨rg, 0, none⟩) rc st ln) (hu : 0 < st.uses.length) (hul : st.uses.length ≤ 100000) (hi : Inv st) (lE : Nat) (eE : Int) (hS : S.lay st.places st.uses st.rom = .error (lE, eE)) (hBw : B ≤ w.heap.size) :
    Calls Tryz.prog 31 #[.pointer (some ⟨b, 0, none⟩)] w fun e w' => e = flt lE eE ∧ Below B w w' := by
  have c2 : w.cell? ⟨b, 2, none⟩ = some (.slice (some ⟨ug, 0, none⟩) st.uses.length uc) := hR.cell 2
  have hlt := hR.lt
  have hBb := hR.hB
  have HR := hid hR
  have HS := hid hS
  have HI := hid hi
  clear hR hS hi
  go_enter Tryz.func31, Tryz.ntmps31
  go_wp2
  go_loopw [11] (fun i wr => ∃ (j : Nat) (rom : S.By), j ≤ st.uses.length ∧ i = .int .i64 j ∧ rom.length = st.rom.length ∧ S.lay st.places (st.uses.drop j) rom = .error (lE, eE) ∧ Rd wr B b mo mp (some ⟨ug, 0, none⟩) uc (some ⟨rg, 0, none⟩) rc { st with rom := rom } ln ∧ Below B w wr) (fun i _ => st.uses.length - (intOf i).toNat)
  case atStart => exact ⟨0, st.rom, by omega, rfl, rfl, HS.out, HR.out, Below.refl _ _⟩
  case round =>
    obtain ⟨j, rom, hj, rfl, hrl, hlay, hR1, hbl⟩ := hrel
    have hszr := Nat.le_trans hBw hbl.size
    by_cases hlt2 : j < st.uses.length
    · have hjI : (j : Int) < st.uses.length := by omega
      obtain ⟨u, huj⟩ : ∃ u, st.uses[j]? = some u := ⟨_, List.getElem?_eq_getElem hlt2⟩
      rw [drop_at huj] at hlay
      rcases lay_or hlay with ⟨hno, hx⟩ | ⟨p, hfp, hnext⟩
      · obtain ⟨nm, at', ul⟩ := u
        simp only at hno hx
        cases hx
        obtain ⟨k0, k1, k2⟩ := useCells_at _ _ _ huj
        have hug := hR1.uses.lt ug rfl
        have u0 : wr.cell? ⟨ug, j * 3, none⟩ = some (.string (mk nm)) := by rw [hR1.uses.cellAt (j * 3) (by simp only; omega)]; exact k0
        have u1' : wr.cell? ⟨ug, j * 3 + 1, none⟩ = some (.int .i64 at') := by rw [hR1.uses.cellAt (j * 3 + 1) (by simp only; omega)]; exact k1
        have u2' : wr.cell? ⟨ug, j * 3 + 2, none⟩ = some (.int .i64 lE) := by rw [hR1.uses.cellAt (j * 3 + 2) (by simp only; omega)]; exact k2
        have hugr : ug < wr.heap.size := hug.2
        have c1 : wr.cell? ⟨b, 1, none⟩ = some (.map (some mp)) := hR1.cell 1
        have c4 : wr.cell? ⟨b, 4, none⟩ = some (.int .i64 ln) := hR1.cell 4
        have f4 : wr.frozen? ⟨b, 4, none⟩ = false := hR1.frozen 4
        have hbr := hR1.lt
        have hRa := hid (hR1.kept (stA (st0 wr) (.cells #[.string (mk nm), .int .i64 at', .int .i64 lE] 95)))
        have hlk : ∀ q, (Instr.lookup 32 (.map (some mp)) (.string (mk nm)) true).run Tryz.prog ((wr.alloc (.cells #[.string (mk nm), .int .i64 at', .int .i64 lE] 95)).drewN q) = .ok (.tuple #[.int .i64 0, .bool false]) ((wr.alloc (.cells #[.string (mk nm), .int .i64 at', .int .i64 lE] 95)).drewN q) := fun q =>
          lookup_noplace ((hRa.out.kept (st_drewN (st0 _) q)).places) nm hno
        clear hlay hno huj k0 k1 k2 hR1
        go_wp2
        go_quiet (fail)
        go_wp2_with (go_at_call 52; refine (giveUp_any b lE 5 _ ((hRa.out.kept (st_drewN (st0 _) _)).put_line lE).lt (((hRa.out.kept (st_drewN (st0 _) _)).put_line lE).cell 4)).mono ?_; rintro e w' ⟨rfl, rfl⟩)
        refine ⟨rfl, rfl, ?_⟩
        exact (((hbl.alloc hszr _).trans (bB (by simp; omega) (st_drewN (st0 _) _))).setCell hBb _)
      · obtain ⟨nm, at', ul⟩ := u
        obtain ⟨pn, pv⟩ := p
        obtain ⟨i1, i2, i3⟩ := HI.out
        have hat := i2 _ (List.mem_of_getElem? huj)
        have hpv := i3 _ (List.mem_of_find?_eq_some hfp)
        simp only at hat hpv hnext hfp
        obtain ⟨k0, k1, k2⟩ := useCells_at _ _ _ huj
        have hug := hR1.uses.lt ug rfl
        have u0 : wr.cell? ⟨ug, j * 3, none⟩ = some (.string (mk nm)) := by rw [hR1.uses.cellAt (j * 3) (by simp only; omega)]; exact k0
        have u1' : wr.cell? ⟨ug, j * 3 + 1, none⟩ = some (.int .i64 at') := by rw [hR1.uses.cellAt (j * 3 + 1) (by simp only; omega)]; exact k1
        have u2' : wr.cell? ⟨ug, j * 3 + 2, none⟩ = some (.int .i64 ul) := by rw [hR1.uses.cellAt (j * 3 + 2) (by simp only; omega)]; exact k2
        have hugr : ug < wr.heap.size := hug.2
        have c1 : wr.cell? ⟨b, 1, none⟩ = some (.map (some mp)) := hR1.cell 1
        have c3 : wr.cell? ⟨b, 3, none⟩ = some (.slice (some ⟨rg, 0, none⟩) st.rom.length rc) := by have := hR1.cell 3; simp only [hrl] at this; exact this
        have hbr := hR1.lt
        obtain ⟨hgb, hgl, hgB⟩ := hR1.rg_ne
        have hRa := hid (hR1.kept (stA (st0 wr) (.cells #[.string (mk nm), .int .i64 at', .int .i64 ul] 95)))
        have hlk : ∀ q, (Instr.lookup 32 (.map (some mp)) (.string (mk nm)) true).run Tryz.prog ((wr.alloc (.cells #[.string (mk nm), .int .i64 at', .int .i64 ul] 95)).drewN q) = .ok (.tuple #[.int .i64 pv, .bool true]) ((wr.alloc (.cells #[.string (mk nm), .int .i64 at', .int .i64 ul] 95)).drewN q) := fun q =>
          lookup_place ((hRa.out.kept (st_drewN (st0 _) q)).places) nm (pn, pv) hfp
        have HN := hid hnext
        have HFP := hid hfp
        have HRr := hid hR1
        have hr1 : st.rom.length ≤ 1024 := i1
        clear hlay hnext hfp huj k0 k1 k2 i1 i2 i3 hR1
        have hatI : (at' : Int) < st.rom.length := by omega
        have hatJ : (at' : Int) + 1 < st.rom.length := by omega
        have hatK : (0 : Int) ≤ (at' : Int) + 1 := by omega
        have hatL : (0 : Int) ≤ (at' : Int) := by omega
        have hn1 : rg ≠ wr.heap.size := by omega
        obtain ⟨va, da⟩ : ∃ v, wr.cell? ⟨rg, at', none⟩ = some v := ⟨_, (HRr.out.rom.cellAt at' (by simp only; omega)).trans (List.getElem?_eq_getElem (by rw [byteCells_len]; simp only; omega))⟩
        obtain ⟨vb, db⟩ : ∃ v, wr.cell? ⟨rg, at' + 1, none⟩ = some v := ⟨_, (HRr.out.rom.cellAt (at' + 1) (by simp only; omega)).trans (List.getElem?_eq_getElem (by rw [byteCells_len]; simp only; omega))⟩
        have fa : wr.frozen? ⟨rg, at', none⟩ = false := HRr.out.rom.frozenAt at'
        have fb : wr.frozen? ⟨rg, at' + 1, none⟩ = false := HRr.out.rom.frozenAt (at' + 1)
        have hpvI : (pv : Int) ≤ 65535 := by omega
        have hwp : IntKind.u16.wrap (pv : Int) = pv := by rw [IntKind.wrap_u16]; omega
        have hwa : IntKind.i64.wrap ((at' : Int) + 1) = (at' : Int) + 1 := by rw [IntKind.wrap_i64]; omega
        go_wp2
        go_quiet (fail)
        go_wp2
        go_region_held3 (fun w' => w'.cell? ⟨b, 3, none⟩ = some (.slice (some ⟨rg, 0, none⟩) st.rom.length rc) ∧ w'.cell? ⟨wr.heap.size, 1, none⟩ = some (.int .i64 at'))
          (first
            | go_keep
            | (go_split_ands
               refine ⟨?_, ?_⟩
               · (rw [World.cell?_setCell_other _ _ _ _ (by simp; omega)]; assumption)
               · (rw [World.cell?_setCell_other _ _ _ _ (by simp; omega)]; assumption)))
          ((go_at_call 54; refine (bytesW_any pv _ (by omega) (by omega)).mono ?_; rintro e w' ⟨rfl, rfl⟩))
        go_wp2
        have e1 : (.int .u8 ((pv : Int) / 256) : Value) = .int .u8 ((UInt8.ofNat (pv / 256)).toNat : Nat) := by rw [show (UInt8.ofNat (pv / 256)).toNat = pv / 256 by simp; omega]; rfl
        have e2 : (.int .u8 ((pv : Int) % 256) : Value) = .int .u8 ((UInt8.ofNat (pv % 256)).toNat : Nat) := by rw [show (UInt8.ofNat (pv % 256)).toNat = pv % 256 by simp]; rfl
        rw [e1, e2]
        refine ⟨⟨j + 1, (rom.set at' (UInt8.ofNat (pv / 256))).set (at' + 1) (UInt8.ofNat (pv % 256)), by omega, by simp, by simp [hrl], HN.out, ((hRa.out.kept (st_drewN (st0 _) (nq + 1))).set_rom at' _).set_rom (at' + 1) _, ?_⟩, by simp [intOf]; omega⟩
        have hd : Below B w ((wr.alloc (.cells #[.string (mk nm), .int .i64 at', .int .i64 ul] 95)).drewN (nq + 1)) := (hbl.alloc hszr _).trans (bB (by simp; omega) (st_drewN (st0 _) (nq + 1)))
        exact (hd.setCell hgB _).setCell hgB _
    · have hjn : j = st.uses.length := by omega
      subst hjn
      rw [List.drop_length] at hlay
      cases hlay
theorem layPlaces_no (w : World) (B b mo mp : Nat) (ua ra : Option Addr) (uc rc : Nat) (st : S.St) (ln : Nat) (hR : Rd w B b mo mp ua uc ra rc st ln) (hul : st.uses.length ≤ 100000) (hi : Inv st) (lE : Nat) (eE : Int) (hS : S.lay st.places st.uses st.rom = .error (lE, eE)) (hBw : B ≤ w.heap.size) :
    Calls Tryz.prog 31 #[.pointer (some ⟨b, 0, none⟩)] w fun e w' => e = flt lE eE ∧ Below B w w' := by
  by_cases hu : st.uses = []
  · rw [hu] at hS
    cases hS
  · have hup : 0 < st.uses.length := by cases h : st.uses <;> simp_all
    obtain ⟨u, hu0⟩ : ∃ u, u ∈ st.uses := by cases h : st.uses with
      | nil => exact absurd h hu
      | cons a l => exact ⟨a, by simp⟩
    have hrl := hi.2.1 u hu0
    have hua : ∃ ug, ua = some ⟨ug, 0, none⟩ := by
      rcases hR.uses.2 with ⟨h, h0⟩ | ⟨g, cap, cur, h, _⟩
      · omega
      · exact ⟨g, by injection h⟩
    have hra : ∃ rg, ra = some ⟨rg, 0, none⟩ := by
      rcases hR.rom.2 with ⟨h, h0⟩ | ⟨g, cap, cur, h, _⟩
      · omega
      · exact ⟨g, by injection h⟩
    obtain ⟨ug, rfl⟩ := hua
    obtain ⟨rg, rfl⟩ := hra
    exact layPlaces_n_no w B b mo mp ug uc rg rc st ln hR hup hul hi lE eE hS hBw
theorem keep_set {w : World} {P b i : Nat} {v x : Value} (h : P ≠ b) (hc : w.cell? ⟨b, i, none⟩ = some x) : (w.setCell ⟨P, 0, none⟩ v).cell? ⟨b, i, none⟩ = some x := by
  rw [World.cell?_setCell_other _ _ _ _ (by simp <;> omega)]
  exact hc
theorem keep_drew {w : World} {P b i : Nat} {v x : Value} (h : P ≠ b) (hc : w.cell? ⟨b, i, none⟩ = some x) : (w.setCell ⟨P, 0, none⟩ v).drew.cell? ⟨b, i, none⟩ = some x := keep_set (w := w) h hc
theorem assert_fault (v : Value) (t : TypeId) (w : World) : (Instr.typeAssert (.iface 57 v) t 57 true).run Tryz.prog w = .ok (.tuple #[v, .bool true]) w := by
  first
  | kernel_rfl
  | simp [Instr.typeAssert, go_sem, Tryz.underlying57]
set_option maxRecDepth 100000 in
set_option maxHeartbeats 1600000 in
theorem catch_fault (P Q R : Nat) (ln : Nat) (e : Int) (w : World) (v1 v2 v3 : Value) (hPQ : P < Q) (hQR : Q < R) (hR : R < w.heap.size) (h1 : w.cell? ⟨P, 0, none⟩ = some v1) (z1 : w.frozen? ⟨P, 0, none⟩ = false) (h2 : w.cell? ⟨Q, 0, none⟩ = some v2) (z2 : w.frozen? ⟨Q, 0, none⟩ = false) (h3 : w.cell? ⟨R, 0, none⟩ = some v3) (z3 : w.frozen? ⟨R, 0, none⟩ = false) :
    CallsD Tryz.prog 28 #[.pointer (some ⟨P, 0, none⟩), .pointer (some ⟨Q, 0, none⟩), .pointer (some ⟨R, 0, none⟩)] (.panicking [{ v := .iface 57 (.agg #[.int .i64 ln, .int .i64 e]), recovered := false }]) w fun x u' w' =>
      x = .returned (.tuple #[]) ∧ u' = .panicking [{ v := .iface 57 (.agg #[.int .i64 ln, .int .i64 e]), recovered := true }] ∧ ∃ w1, Below w.heap.size w w1 ∧ w' = ((w1.setCell ⟨P, 0, none⟩ (.slice none 0 0)).setCell ⟨Q, 0, none⟩ (.int .i64 ln)).setCell ⟨R, 0, none⟩ (.int .i64 e) := by
  refine callsD_of_wpS Tryz.func28 rfl fun c₀ cs hu => ?_
  apply wpS_seq
  apply wpS_region
  simp [wpOpsS, go_sem, recoverD, hu, Tryz.ntmps28, Exit.thenS]
  apply wpS_seq
  apply wpS_seq
  apply wpS_region
  simp [wpOpsS, go_sem, Exit.thenS]
  refine wpS_cond (t := false) (by simp [Act.eval, Array.replicate]) ?_
  simp only [Bool.false_eq_true, if_false]
  refine wpS_of_wp (wp_skip ?_)
  simp only [Exit.thenS]
  refine wpS_of_wp ?_
  have et : (#[Value.pointer (some ⟨P, 0, none⟩), Value.pointer (some ⟨Q, 0, none⟩), Value.pointer (some ⟨R, 0, none⟩)] ++
          ((((Array.replicate 18 undef).setIfInBounds 3 (Value.iface 57 (Value.agg #[Value.int IntKind.i64 ↑ln, Value.int IntKind.i64 e]))).setIfInBounds
                    0 (Value.iface 57 (Value.agg #[Value.int IntKind.i64 ↑ln, Value.int IntKind.i64 e]))).setIfInBounds
                4 (Value.iface 57 (Value.agg #[Value.int IntKind.i64 ↑ln, Value.int IntKind.i64 e]))).setIfInBounds
            5 (Value.bool false)) = #[Value.pointer (some ⟨P, 0, none⟩), Value.pointer (some ⟨Q, 0, none⟩), Value.pointer (some ⟨R, 0, none⟩), Value.iface 57 (Value.agg #[Value.int IntKind.i64 ↑ln, Value.int IntKind.i64 e]), undef, undef, Value.iface 57 (Value.agg #[Value.int IntKind.i64 ↑ln, Value.int IntKind.i64 e]), Value.iface 57 (Value.agg #[Value.int IntKind.i64 ↑ln, Value.int IntKind.i64 e]), Value.bool false, undef, undef, undef, undef, undef, undef, undef, undef, undef, undef, undef, undef] := by
    apply Array.toList_inj.1
    simp [List.replicate]
  rw [et]
  clear et
  have hta := assert_fault
  have hP : P < w.heap.size := by omega
  have hQ : Q < w.heap.size := by omega
  go_wp2
  have hB1 : Hid (Below w.heap.size w (w.alloc (.cells #[.int .i64 ln, .int .i64 e] 57))) := stA (st0 w) _
  have n0 : (w.alloc (.cells #[.int .i64 ln, .int .i64 e] 57)).cell? ⟨w.heap.size, 0, none⟩ = some (.int .i64 ln) := cell_new _ _ _ _ rfl
  have n1 : (w.alloc (.cells #[.int .i64 ln, .int .i64 e] 57)).cell? ⟨w.heap.size, 1, none⟩ = some (.int .i64 e) := cell_new _ _ _ _ rfl
  have m1 : (w.alloc (.cells #[.int .i64 ln, .int .i64 e] 57)).cell? ⟨P, 0, none⟩ = some v1 := (hB1.out.cell hP).trans h1
  have m2 : (w.alloc (.cells #[.int .i64 ln, .int .i64 e] 57)).cell? ⟨Q, 0, none⟩ = some v2 := (hB1.out.cell hQ).trans h2
  have m3 : (w.alloc (.cells #[.int .i64 ln, .int .i64 e] 57)).cell? ⟨R, 0, none⟩ = some v3 := (hB1.out.cell hR).trans h3
  have y1 : (w.alloc (.cells #[.int .i64 ln, .int .i64 e] 57)).frozen? ⟨P, 0, none⟩ = false := ((bcell hB1.out).2 _ _ hP).trans z1
  have y2 : (w.alloc (.cells #[.int .i64 ln, .int .i64 e] 57)).frozen? ⟨Q, 0, none⟩ = false := ((bcell hB1.out).2 _ _ hQ).trans z2
  have y3 : (w.alloc (.cells #[.int .i64 ln, .int .i64 e] 57)).frozen? ⟨R, 0, none⟩ = false := ((bcell hB1.out).2 _ _ hR).trans z3
  have hz : w.heap.size < (w.alloc (.cells #[.int .i64 ln, .int .i64 e] 57)).heap.size := by simp
  clear h1 h2 h3 z1 z2 z3
  generalize w.alloc (.cells #[.int .i64 ln, .int .i64 e] 57) = wn at *
  have hPn : P < wn.heap.size := by omega
  have hQn : Q < wn.heap.size := by omega
  have hRn : R < wn.heap.size := by omega
  go_region_held3 (fun w' => w'.cell? ⟨w.heap.size, 0, none⟩ = some (.int .i64 ln) ∧ w'.cell? ⟨w.heap.size, 1, none⟩ = some (.int .i64 e))
    (first
      | (go_split_ands
         refine ⟨?_, ?_⟩
         · (first | (refine keep_set ?_ ?_ <;> first | omega | assumption | exact n0) | (refine keep_drew ?_ ?_ <;> first | omega | assumption | exact n0))
         · (first | (refine keep_set ?_ ?_ <;> first | omega | assumption | exact n1) | (refine keep_drew ?_ ?_ <;> first | omega | assumption | exact n1)))
      | (go_keep; done))
    (fail)
  change bodyPostS Tryz.prog _ c₀ cs _ _ _ _ _
  simp [bodyPostS, results, Tryz.results28]
  exact ⟨wn.drew, hB1.out.drew, rfl⟩
theorem readLines_init_no (w1 : World) (B : Nat) (hm : mapS w1 B (opsTo 32)) (hB : B ≤ w1.heap.size) (s : S.By) (hl : s.length ≤ 4000) (lE : Nat) (eE : Int) (hS : S.readLines s.length s 0 S.St.zero = .error (lE, eE)) (hF : ∀ w', Below B w1 w' → AF w' ∧ EF w') :
    Calls Tryz.prog 30 #[.pointer (some ⟨w1.heap.size + 1, 0, none⟩), .string (mk s)] ((w1.alloc (.map #[] 0)).alloc (.cells #[.map (some B), .map (some w1.heap.size), .slice none 0 0, .slice none 0 0, .int .i64 0] 62)) fun e w' =>
      e = flt lE eE ∧ Below B w1 w' := by
  have h0 : Below B w1 ((w1.alloc (.map #[] 0)).alloc (.cells #[.map (some B), .map (some w1.heap.size), .slice none 0 0, .slice none 0 0, .int .i64 0] 62)) := ((Below.refl B w1).alloc hB _).alloc (by simp; omega) _
  exact (readLines_no _ B (w1.heap.size + 1) B w1.heap.size none none 0 0 S.St.zero (rd_init w1 B hm hB) rfl inv_zero s hl lE eE hS (by simp; omega) (hid (fun w' hb => hF w' (h0.trans hb)))).mono fun e w' ⟨he, h2⟩ => ⟨he, h0.trans h2⟩
/-- The three results' cells, behind the deferred closure. -/
theorem res_sets (w1 : World) (P Q R : Nat) (x y z : Value) (hPQ : P < Q) (hQR : Q < R) (h1 : (w1.cell? ⟨P, 0, none⟩).isSome) (h2 : (w1.cell? ⟨Q, 0, none⟩).isSome) (h3 : (w1.cell? ⟨R, 0, none⟩).isSome) :
    (((w1.setCell ⟨P, 0, none⟩ x).setCell ⟨Q, 0, none⟩ y).setCell ⟨R, 0, none⟩ z).cell? ⟨P, 0, none⟩ = some x ∧ (((w1.setCell ⟨P, 0, none⟩ x).setCell ⟨Q, 0, none⟩ y).setCell ⟨R, 0, none⟩ z).cell? ⟨Q, 0, none⟩ = some y ∧ (((w1.setCell ⟨P, 0, none⟩ x).setCell ⟨Q, 0, none⟩ y).setCell ⟨R, 0, none⟩ z).cell? ⟨R, 0, none⟩ = some z := by
  have same : ∀ (w : World) (a : Nat) (v : Value), (w.cell? ⟨a, 0, none⟩).isSome → (w.setCell ⟨a, 0, none⟩ v).cell? ⟨a, 0, none⟩ = some v := fun w a v h => by
    obtain ⟨u, hu⟩ := Option.isSome_iff_exists.1 h
    simp [go_sem, hu]
  have other : ∀ (w : World) (a b : Nat) (v : Value), a ≠ b → (w.setCell ⟨a, 0, none⟩ v).cell? ⟨b, 0, none⟩ = w.cell? ⟨b, 0, none⟩ := fun w a b v h => World.cell?_setCell_other _ _ _ _ (by simp <;> omega)
  refine ⟨?_, ?_, ?_⟩
  · rw [other _ _ _ _ (by omega), other _ _ _ _ (by omega)]; exact same _ _ _ h1
  · rw [other _ _ _ _ (by omega)]; exact same _ _ _ (by rw [other _ _ _ _ (by omega)]; exact h2)
  · exact same _ _ _ (by rw [other _ _ _ _ (by omega), other _ _ _ _ (by omega)]; exact h3)
set_option maxRecDepth 100000 in
set_option maxHeartbeats 1600000 in
theorem readText_lines (s : S.By) (hl : s.length ≤ 4000) (lE : Nat) (eE : Int) (hS : S.readLines s.length s 0 S.St.zero = .error (lE, eE)) (w : World) (hF : AF w) (hE : EF w) :
    Calls Tryz.prog 11 #[.string (mk s)] w fun e w' => e = .returned (.tuple #[.slice none 0 0, .int .i64 lE, .int .i64 eE]) ∧ Below w.heap.size w w' := by
  have hmf : ∀ (fn : Fn) (first cap : Array Value) (w : World), (Instr.makeFunc fn first cap).run Tryz.prog w = .ok (.func fn first cap) w := fun _ _ _ _ => rfl
  have hmm := @run_makeMap Tryz.prog
  have HF := hid hF
  have HE := hid hE
  have HS := hid hS
  have hB3 : Hid (Below w.heap.size w (((w.alloc (.cells #[.slice none 0 0] 22)).alloc (.cells #[.int .i64 0] 3)).alloc (.cells #[.int .i64 0] 23))) := stA (stA (stA (st0 w) _) _) _
  have hsz : Hid ((((w.alloc (.cells #[.slice none 0 0] 22)).alloc (.cells #[.int .i64 0] 3)).alloc (.cells #[.int .i64 0] 23)).heap.size = w.heap.size + 1 + 1 + 1) := by show _ = _; simp
  clear hF hE hS
  go_enter_defers Tryz.func11, Tryz.ntmps11
  go_wp2_with (first
    | (go_at_call 29; refine (opsByName_any _ (af_alloc (af_alloc (af_alloc HF.out _) _) _).shapes).mono ?_; rintro e w1 ⟨rfl, hm1, hb1⟩; rw [hsz.out] at hm1 hb1; have hz1 := hm1.lt)
    | (go_at_call 30; refine (readLines_init_no w1 (w.heap.size + 1 + 1 + 1) hm1 (Nat.le_of_lt hz1) s hl lE eE HS.out (fun w' hb => ⟨HF.out.kept (hB3.out.trans ((hb1.trans hb).mono (Nat.le_add_right _ 3))), HE.out.kept (hB3.out.trans ((hb1.trans hb).mono (Nat.le_add_right _ 3)))⟩)).mono ?_; rintro e w2 ⟨rfl, hb2⟩))
  have hbb := hb1.trans hb2
  obtain ⟨⟨k1, k2, k3⟩, hz3⟩ := res_cells hbb
  refine leaves_cons (f := 28) (args := #[.pointer (some ⟨w.heap.size, 0, none⟩), .pointer (some ⟨w.heap.size + 1, 0, none⟩), .pointer (some ⟨w.heap.size + 1 + 1, 0, none⟩)]) (by simp) (by simp [go_sem]) ?_
  refine (catch_fault w.heap.size (w.heap.size + 1) (w.heap.size + 1 + 1) lE eE _ _ _ _ (by omega) (by omega) (by omega) (Lib.cell_of_heap k1 0) (Lib.frozen_of_heap k1 0) (Lib.cell_of_heap k2 0) (Lib.frozen_of_heap k2 0) (Lib.cell_of_heap k3 0) (Lib.frozen_of_heap k3 0)).mono ?_
  rintro e u' w'' ⟨rfl, rfl, w4, hb4, rfl⟩
  have hs1 : (w4.cell? ⟨w.heap.size, 0, none⟩).isSome := by rw [(bcell hb4).1 _ _ (by omega), Lib.cell_of_heap k1 0]; rfl
  have hs2 : (w4.cell? ⟨w.heap.size + 1, 0, none⟩).isSome := by rw [(bcell hb4).1 _ _ (by omega), Lib.cell_of_heap k2 0]; rfl
  have hs3 : (w4.cell? ⟨w.heap.size + 1 + 1, 0, none⟩).isSome := by rw [(bcell hb4).1 _ _ (by omega), Lib.cell_of_heap k3 0]; rfl
  obtain ⟨d1, d2, d3⟩ := res_sets w4 w.heap.size (w.heap.size + 1) (w.heap.size + 1 + 1) (.slice none 0 0) (.int .i64 lE) (.int .i64 eE) (by omega) (by omega) hs1 hs2 hs3
  have hfin : Below w.heap.size w (((w4.setCell ⟨w.heap.size, 0, none⟩ (.slice none 0 0)).setCell ⟨w.heap.size + 1, 0, none⟩ (.int .i64 lE)).setCell ⟨w.heap.size + 1 + 1, 0, none⟩ (.int .i64 eE)) :=
    ((((hB3.out.trans (hbb.mono (by omega))).trans (hb4.mono (by omega))).setCell (Nat.le_refl _) _).setCell (by simp) _).setCell (by simp; omega) _
  clear hs1 hs2 hs3 k1 k2 k3
  generalize ((w4.setCell ⟨w.heap.size, 0, none⟩ (.slice none 0 0)).setCell ⟨w.heap.size + 1, 0, none⟩ (.int .i64 lE)).setCell ⟨w.heap.size + 1 + 1, 0, none⟩ (.int .i64 eE) = w5 at *
  simp [Leaves, settle, results, Tryz.results11, go_sem, d1, d2, d3]
  exact hfin
set_option maxRecDepth 100000 in
set_option maxHeartbeats 1600000 in
theorem readText_lay (s : S.By) (hl : s.length ≤ 4000) (stF : S.St) (lE : Nat) (eE : Int) (hS : S.readLines s.length s 0 S.St.zero = .ok stF) (hL : S.lay stF.places stF.uses stF.rom = .error (lE, eE)) (w : World) (hF : AF w) (hE : EF w) :
    Calls Tryz.prog 11 #[.string (mk s)] w fun e w' => e = .returned (.tuple #[.slice none 0 0, .int .i64 lE, .int .i64 eE]) ∧ Below w.heap.size w w' := by
  have hmf : ∀ (fn : Fn) (first cap : Array Value) (w : World), (Instr.makeFunc fn first cap).run Tryz.prog w = .ok (.func fn first cap) w := fun _ _ _ _ => rfl
  have hmm := @run_makeMap Tryz.prog
  have HF := hid hF
  have HE := hid hE
  have HS := hid hS
  have HL := hid hL
  have hul : stF.uses.length ≤ 100000 := by have := lines_uses _ _ _ _ _ (Nat.le_refl _) hS; simp [S.St.zero] at this; omega
  have HI := hid (inv_lines _ _ _ _ _ inv_zero hS)
  have hB3 : Hid (Below w.heap.size w (((w.alloc (.cells #[.slice none 0 0] 22)).alloc (.cells #[.int .i64 0] 3)).alloc (.cells #[.int .i64 0] 23))) := stA (stA (stA (st0 w) _) _) _
  have hsz : Hid ((((w.alloc (.cells #[.slice none 0 0] 22)).alloc (.cells #[.int .i64 0] 3)).alloc (.cells #[.int .i64 0] 23)).heap.size = w.heap.size + 1 + 1 + 1) := by show _ = _; simp
  clear hF hE hS hL
  go_enter_defers Tryz.func11, Tryz.ntmps11
  go_wp2_with (first
    | (go_at_call 29; refine (opsByName_any _ (af_alloc (af_alloc (af_alloc HF.out _) _) _).shapes).mono ?_; rintro e w1 ⟨rfl, hm1, hb1⟩; rw [hsz.out] at hm1 hb1; have hz1 := hm1.lt)
    | (go_at_call 30; refine (readLines_init w1 (w.heap.size + 1 + 1 + 1) hm1 (Nat.le_of_lt hz1) s hl stF HS.out (fun w' hb => HF.out.kept (hB3.out.trans ((hb1.trans hb).mono (Nat.le_add_right _ 3))))).mono ?_; rintro e w2 ⟨rfl, ⟨lnF, ua, uc, ra, rc, hR2⟩, hb2⟩)
    | (go_at_call 31; refine (layPlaces_no w2 _ _ _ _ ua ra uc rc stF lnF hR2 hul HI.out lE eE HL.out (Nat.le_trans (Nat.le_of_lt hz1) hb2.size)).mono ?_; rintro e w3 ⟨rfl, hb3⟩; clear hR2))
  have hbb := (hb1.trans hb2).trans hb3
  obtain ⟨⟨k1, k2, k3⟩, hz3⟩ := res_cells hbb
  refine leaves_cons (f := 28) (args := #[.pointer (some ⟨w.heap.size, 0, none⟩), .pointer (some ⟨w.heap.size + 1, 0, none⟩), .pointer (some ⟨w.heap.size + 1 + 1, 0, none⟩)]) (by simp) (by simp [go_sem]) ?_
  refine (catch_fault w.heap.size (w.heap.size + 1) (w.heap.size + 1 + 1) lE eE _ _ _ _ (by omega) (by omega) (by omega) (Lib.cell_of_heap k1 0) (Lib.frozen_of_heap k1 0) (Lib.cell_of_heap k2 0) (Lib.frozen_of_heap k2 0) (Lib.cell_of_heap k3 0) (Lib.frozen_of_heap k3 0)).mono ?_
  rintro e u' w'' ⟨rfl, rfl, w4, hb4, rfl⟩
  have hs1 : (w4.cell? ⟨w.heap.size, 0, none⟩).isSome := by rw [(bcell hb4).1 _ _ (by omega), Lib.cell_of_heap k1 0]; rfl
  have hs2 : (w4.cell? ⟨w.heap.size + 1, 0, none⟩).isSome := by rw [(bcell hb4).1 _ _ (by omega), Lib.cell_of_heap k2 0]; rfl
  have hs3 : (w4.cell? ⟨w.heap.size + 1 + 1, 0, none⟩).isSome := by rw [(bcell hb4).1 _ _ (by omega), Lib.cell_of_heap k3 0]; rfl
  obtain ⟨d1, d2, d3⟩ := res_sets w4 w.heap.size (w.heap.size + 1) (w.heap.size + 1 + 1) (.slice none 0 0) (.int .i64 lE) (.int .i64 eE) (by omega) (by omega) hs1 hs2 hs3
  have hfin : Below w.heap.size w (((w4.setCell ⟨w.heap.size, 0, none⟩ (.slice none 0 0)).setCell ⟨w.heap.size + 1, 0, none⟩ (.int .i64 lE)).setCell ⟨w.heap.size + 1 + 1, 0, none⟩ (.int .i64 eE)) :=
    ((((hB3.out.trans (hbb.mono (by omega))).trans (hb4.mono (by omega))).setCell (Nat.le_refl _) _).setCell (by simp) _).setCell (by simp; omega) _
  clear hs1 hs2 hs3 k1 k2 k3
  generalize ((w4.setCell ⟨w.heap.size, 0, none⟩ (.slice none 0 0)).setCell ⟨w.heap.size + 1, 0, none⟩ (.int .i64 lE)).setCell ⟨w.heap.size + 1 + 1, 0, none⟩ (.int .i64 eE) = w5 at *
  simp [Leaves, settle, results, Tryz.results11, go_sem, d1, d2, d3]
  exact hfin
theorem text_no {s : S.By} {x : Nat × Int} (h : S.readText s = .error x) : S.readLines s.length s 0 S.St.zero = .error x ∨ ∃ stF, S.readLines s.length s 0 S.St.zero = .ok stF ∧ S.lay stF.places stF.uses stF.rom = .error x := by
  unfold S.readText at h
  split at h
  · rename_i st hst
    exact Or.inr ⟨st, hst, h⟩
  · rename_i e he
    cases h
    exact Or.inl he
theorem readText_no (s : S.By) (hl : s.length ≤ 4000) (lE : Nat) (eE : Int) (hS : S.readText s = .error (lE, eE)) (w : World) (hF : AF w) (hE : EF w) :
    Calls Tryz.prog 11 #[.string (mk s)] w fun e w' => e = .returned (.tuple #[.slice none 0 0, .int .i64 lE, .int .i64 eE]) ∧ Below w.heap.size w w' := by
  rcases text_no hS with h | ⟨stF, h1, h2⟩
  · exact readText_lines s hl lE eE h w hF hE
  · exact readText_lay s hl stF lE eE h1 h2 w hF hE
theorem build_no (s : S.By) (hl : s.length ≤ 4000) (hc : s.count 10 ≤ 300) (lE : Nat) (eE : Int) (hS : S.readText s = .error (lE, eE)) (w : World) (hF : AF w) (hE : EF w) :
    Calls Tryz.prog 4 #[.string (mk s)] w fun e w' => e = .returned (.tuple #[.slice none 0 0, .int .i64 lE, .int .i64 eE]) ∧ Below w.heap.size w w' := by
  have HT := hid (readText_no s hl lE eE hS w hF hE)
  have hl1 : ¬ (4000 : Int) < (mk s).size := by rw [mk_size]; omega
  have hc1 : ¬ (300 : Int) < (s.count 10 : Nat) := by omega
  clear hF hE hS
  go_enter Tryz.func4, Tryz.ntmps4
  go_wp2_with (first
    | (go_at_call 10; refine (count_feeds s _).mono ?_; rintro e w' ⟨rfl, rfl⟩)
    | (go_at_call 11; refine HT.out.mono ?_; rintro e w1 ⟨rfl, hb1⟩))
  go_ret3
  exact ⟨rfl, hb1⟩
theorem build_long (s : S.By) (hl : 4000 < s.length) (w : World) :
    Calls Tryz.prog 4 #[.string (mk s)] w fun e w' => e = .returned (.tuple #[.slice none 0 0, .int .i64 0, .int .i64 2]) ∧ w = w' := by
  have hl1 : (4000 : Int) < (mk s).size := by rw [mk_size]; omega
  go_enter Tryz.func4, Tryz.ntmps4
  go_wp2
  go_ret3
  exact ⟨rfl, rfl⟩
theorem build_many (s : S.By) (hl : s.length ≤ 4000) (hc : 300 < s.count 10) (w : World) :
    Calls Tryz.prog 4 #[.string (mk s)] w fun e w' => e = .returned (.tuple #[.slice none 0 0, .int .i64 0, .int .i64 2]) ∧ w = w' := by
  have hl1 : ¬ (4000 : Int) < (mk s).size := by rw [mk_size]; omega
  have hc1 : (300 : Int) < (s.count 10 : Nat) := by omega
  go_enter Tryz.func4, Tryz.ntmps4
  go_wp2_with (go_at_call 10; refine (count_feeds s _).mono ?_; rintro e w' ⟨rfl, rfl⟩)
  go_ret3
  exact ⟨rfl, rfl⟩
/-- What is built of a text, its line and its error. -/
def S.rom (s : S.By) : S.By := match S.build s with | .ok r => r | .error _ => []
def S.at (s : S.By) : Nat := match S.build s with | .ok _ => 0 | .error x => x.1
def S.err (s : S.By) : Int := match S.build s with | .ok _ => 0 | .error x => x.2
theorem build_any (s : S.By) (w : World) (hF : AF w) (hE : EF w) :
    Calls Tryz.prog 4 #[.string (mk s)] w fun e w' => ∃ v, e = .returned (.tuple #[v, .int .i64 (S.at s), .int .i64 (S.err s)]) ∧ sliceAt w' v (S.rom s) ∧ Below w.heap.size w w' := by
  unfold S.at S.err S.rom S.build
  by_cases hl : 4000 < s.length
  · rw [if_pos (Or.inl hl)]
    exact (build_long s hl w).mono fun e w' ⟨h1, h2⟩ => ⟨_, h1, Or.inl ⟨none, 0, rfl, rfl⟩, h2 ▸ st0 _⟩
  · by_cases hc : 300 < s.count 10
    · rw [if_pos (Or.inr hc)]
      exact (build_many s (by omega) hc w).mono fun e w' ⟨h1, h2⟩ => ⟨_, h1, Or.inl ⟨none, 0, rfl, rfl⟩, h2 ▸ st0 _⟩
    · rw [if_neg (by omega)]
      cases hS : S.readText s with
      | ok rom => exact (build_ok s rom (by omega) (by omega) hS w hF).mono fun e w' ⟨v, h1, h2, h3⟩ => ⟨v, h1, h2, h3⟩
      | error x => exact (build_no s (by omega) (by omega) x.1 x.2 hS w hF hE).mono fun e w' ⟨h1, h2⟩ => ⟨_, h1, Or.inl ⟨none, 0, rfl, rfl⟩, h2⟩
theorem iface_laid {P : Program} {W : World} {l : List (String × DataW Unit)} {n nm : String} {d : DataW Unit} {g : Nat} {ti : TypeId} {ms : Array (String × TypeId)} (h : laidMet P l W) (hm : (n, .iface nm d) ∈ l)
    (hg : P.globalNamed n = some g) (ht : (P.globals[g]?).map (·.type) = some ti) (hi : P.underlying ti = some (.interface ms)) :
    ∃ ev, W.cell? ⟨g, 0, none⟩ = some ev ∧ (ev = .nilIface ∨ ∃ te pe, ev = .iface te pe) := by
  obtain ⟨g0, t, cs, fuel, p, hg0, ht0, hv, hd⟩ := Lib.laidMet.reads h hm
  obtain rfl := Option.some.inj (hg.symm.trans hg0)
  obtain rfl := Option.some.inj (ht.symm.trans ht0)
  obtain ⟨l0⟩ := cs
  obtain ⟨f1, u, v, e, _⟩ := iface_of_trod hi hd
  refine ⟨.iface u v, ?_, Or.inr ⟨u, v, rfl⟩⟩
  have h0 := World.var?_cell hg hv 0
  rw [h0]
  simp only at e
  subst e
  rfl
theorem g_syn : Tryz.prog.globalNamed "strconv.ErrSyntax" = some 4 := by kernel_rfl
theorem g_ran : Tryz.prog.globalNamed "strconv.ErrRange" = some 5 := by kernel_rfl
theorem ef_of {W : World} {l : List (String × DataW Unit)} (h : laidMet Tryz.prog l W) (h1 : ("strconv.ErrSyntax", Rows.laid_strconv_ErrSyntax) ∈ l) (h2 : ("strconv.ErrRange", Rows.laid_strconv_ErrRange) ∈ l) : EF W :=
  ⟨iface_laid h h1 g_syn (by kernel_rfl) Tryz.underlying66, iface_laid h h2 g_ran (by kernel_rfl) Tryz.underlying66⟩
end Go.Proofs.YtdjhlfoapieohaaGreatDoor
