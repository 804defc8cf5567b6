/-
  Package tape: a line, back.
-/
import Derived.Test.YtbfflipcmciapaaDoorTapQ
import Derived.Shelf.Strconv.AtoiAll
import Derived.MapKept
namespace Go.Proofs.YtbfflipcmciapaaDoor
open Go.ChangeShapes Go.WideShapes Go.ChangeAt Go.RowKit
set_option linter.unusedVariables false
set_option maxRecDepth 100000

theorem Tp.st_drewN {w a : World} (h : Below w.heap.size w a) (k : Nat) : Below w.heap.size w (a.drewN k) := by
  induction k with
  | zero => exact h
  | succ k ih => exact ih.drew
theorem Tp.cut_any (l sep : List UInt8) (hl : l.length ≤ 10000) (w : World) (hF : Tp.F w) :
    Calls Tryd.prog 30 #[.string (mk l), .string (mk sep)] w fun e w' => e = .returned (.tuple #[.string (mk (Lib.cut l sep).1), .string (mk (Lib.cut l sep).2.1), .bool (Lib.cut l sep).2.2]) ∧ Below w.heap.size w w' := by
  obtain ⟨m, hm⟩ := hF.len
  refine (Tryd.strings_Cut (mk l) (mk sep) m w (by show l.length < 4294967281; omega) hm).mono fun e w' ⟨he, n, hw⟩ => ⟨he, ?_⟩
  subst hw
  exact Tp.st_drewN (st0 w) n
theorem Tp.beq_mk (a b : List UInt8) : (mk a == mk b) = (a == b) := by
  rw [Bool.eq_iff_iff, MapKept.bytes_beq, beq_iff_eq]
  exact ⟨fun e => by rw [← mk_toList a, e, mk_toList], fun e => by rw [e]⟩
/-- Strings in a block. -/
def Tp.strsAt (w : World) (g : Nat) (ps : List (List UInt8)) : Prop := ∀ (j : Nat) (s : List UInt8), ps[j]? = some s → w.cell? ⟨g, j, none⟩ = some (.string (mk s))
theorem Tp.strsAt.kept {w w' : World} {g : Nat} {ps : List (List UInt8)} (h : Tp.strsAt w g ps) (hg : g < w.heap.size) (hb : Below w.heap.size w w') : Tp.strsAt w' g ps := fun j s hj => (hb.cell (p := ⟨g, j, none⟩) hg).trans (h j s hj)
theorem Tp.mk_bs (s : ByteArray) : mk s.data.toList = s := by obtain ⟨⟨l⟩⟩ := s; rfl
theorem Tp.split_any (c : UInt8) (t : List UInt8) (hl : t.length ≤ 10000) (w : World) (hF : Tp.F w) :
    Calls Tryd.prog 19 #[.string (mk t), .string (mk [c])] w fun e w' => e = .returned (.slice (some ⟨w.heap.size, 0, none⟩) (Tp.sp c t).length (Tp.sp c t).length) ∧ Tp.strsAt w' w.heap.size (Tp.sp c t) ∧ w.heap.size < w'.heap.size ∧ Below w.heap.size w w' := by
  obtain ⟨m, hm⟩ := hF.len
  have hd := Lib.splitB_data (mk [c]) 0 (Lib.countB (mk t) (mk [c])) (mk t)
  have hlen := Lib.splitB_all (mk [c]) (by show 1 ≤ 1; omega) 0 _ (mk t) rfl
  have hsp : (Lib.splitB (mk [c]) 0 (Lib.countB (mk t) (mk [c])) (mk t)).map (·.data.toList) = Tp.sp c t := hd.trans (Tp.split_eq c t)
  have hl2 : (Tp.sp c t).length = Lib.countB (mk t) (mk [c]) + 1 := by rw [← hsp, List.length_map, hlen]
  refine (Tryd.strings_Split (mk t) (mk [c]) m w (by show t.length < 4294967281; omega) hm (by show 1 ≤ 1; omega)).mono fun e w' ⟨he, hw⟩ => ?_
  subst hw
  refine ⟨by rw [he, hl2], fun j s hj => ?_, by simp, stA (st0 _) _⟩
  rw [Pl.new _ _ _ _ rfl, List.getElem?_toArray, List.getElem?_map]
  rw [← hsp, List.getElem?_map] at hj
  cases hx : (Lib.splitB (mk [c]) 0 (Lib.countB (mk t) (mk [c])) (mk t))[j]? with
  | none => rw [hx] at hj; cases hj
  | some x =>
    rw [hx] at hj
    cases hj
    simp [Tp.mk_bs]
theorem Tp.atoi_any (a : List UInt8) (hl : a.length ≤ 10000) (w : World) (hF : Tp.F w) :
    Calls Tryd.prog 38 #[.string (mk a)] w fun e w' => ∃ ev, e = .returned (.tuple #[.int .i64 (Tp.atv a), ev]) ∧ Below w.heap.size w w' := by
  obtain ⟨e1, h1, k1⟩ := hF.syn
  obtain ⟨e2, h2, k2⟩ := hF.ran
  have hs : (mk a).size = a.length := rfl
  unfold Tp.atv
  cases hh : Lib.atoiAll a with
  | ok v =>
    refine (Tryd.strconv_Atoi_ok (mk a) (by omega) v hh w).mono fun e w' h => ⟨_, h.1, ?_⟩
    rcases h.2 with rfl | ⟨t, rfl⟩
    · exact st0 _
    · exact Joins.below_bytesWorld _ _ _ _ (Nat.le_refl _)
  | «syntax» => exact (Any.strconv_Atoi_syntax Tryd.laysC172 (mk a) (by omega) hh e1 w h1 k1).mono fun e w' ⟨N, he, _, _, hb⟩ => ⟨_, he, hb⟩
  | range => exact (Any.strconv_Atoi_range Tryd.laysC172 (mk a) (by omega) hh e2 w h2 k2).mono fun e w' ⟨N, he, _, _, hb⟩ => ⟨_, he, hb⟩
theorem Tp.info_in : (Tryd.prog.info? 34).map (·.size) = some 3 := by kernel_rfl
theorem Tp.load_in {W : World} {q : Nat} {x : Tp.In} (h : Bx W q x.val.toList) : (loadVar 34 ⟨q, 0, none⟩).run Tryd.prog W = .ok (.agg x.val) W :=
  run_loadVar_mid W q 0 34 _ _ h.c Tryd.underlying34 rfl Tp.info_in
def Tp.In.zero : Tp.In := ⟨0, 0, 0⟩
/-- While ofLine runs. -/
structure Tp.Ol (w : World) (g : Nat) (ps : List (List UInt8)) (Y : World) : Prop where
  low : Below w.heap.size w Y
  fc : Tp.F Y
  bx : Bx Y w.heap.size Tp.In.zero.val.toList
  gz : g < Y.heap.size
  st : Tp.strsAt Y g ps
theorem Tp.Ol.kept {w : World} {g : Nat} {ps : List (List UInt8)} {Y Y' : World} (h : Tp.Ol w g ps Y) (hb : Below Y.heap.size Y Y') : Tp.Ol w g ps Y' :=
  ⟨stp h.low hb, h.fc.kept hb, h.bx.kept hb, Nat.lt_of_lt_of_le h.gz hb.size, h.st.kept h.gz hb⟩
theorem Tp.ol_start {w : World} {ps : List (List UInt8)} {Y : World} {o : Obj} {g : Nat} (hg : g = (w.alloc o).heap.size) (ho : o = .cells Tp.In.zero.val 34) (hF : Tp.F w) (hst : Tp.strsAt Y (w.alloc o).heap.size ps) (hz : (w.alloc o).heap.size < Y.heap.size) (hb : Below (w.alloc o).heap.size (w.alloc o) Y) : Tp.Ol w g ps Y := by
  subst hg
  subst ho
  exact ⟨stp (stA (st0 w) _) hb, (hF.kept (stA (st0 w) _)).kept hb, (Bx.new w Tp.In.zero.val.toList _ rfl).kept hb, hz, hst⟩
theorem Tp.ol_fin {w : World} {Y : World} (hl : Below w.heap.size w Y) (h : Bx Y w.heap.size Tp.In.zero.val.toList) (x : Tp.In) : Below w.heap.size w (Y.setCells w.heap.size 0 x.val.toList) ∧ Bx (Y.setCells w.heap.size 0 x.val.toList) w.heap.size x.val.toList :=
  ⟨Pl.below (Nat.le_refl _) _ 0 Y hl, h.puts 0 x.val.toList (by show 0 + 3 ≤ 3; omega)⟩
/-- A tuple of an input and a number. -/
def Tp.tell (o : Option Tp.In) : Value := .tuple #[.agg (o.getD Tp.In.zero).val, .int .i64 (if o.isSome then 0 else 1)]
set_option maxHeartbeats 3200000 in
theorem Tp.ofLine_any (t : List UInt8) (ht : t.length ≤ 4000) (w : World) (hF : Tp.F w) :
    Calls Tryd.prog 31 #[.string (mk t)] w fun e w' => e = .returned (Tp.tell (Tp.rd t)) ∧ Below w.heap.size w w' := by
  have HF0 := hid hF
  have HSP := hid (fun (w1 : World) (h1 : Tp.F w1) => Tp.split_any 32 t (by omega) w1 h1)
  have hmem := Tp.sp_mem 32 t
  by_cases h3 : (Tp.sp 32 t).length = 3
  · obtain ⟨a, b, d, hs⟩ : ∃ a b d, Tp.sp 32 t = [a, b, d] := by
      match h : Tp.sp 32 t, h3 with
      | [a, b, d], _ => exact ⟨a, b, d, rfl⟩
    have ha : a.length ≤ 4000 := Nat.le_trans (hmem a (by rw [hs]; simp)).2 ht
    have hb : b.length ≤ 4000 := Nat.le_trans (hmem b (by rw [hs]; simp)).2 ht
    have hrd := Tp.rd_tri hs
    rw [hs] at HSP
    clear hmem h3 hF
    have HLN : Hid (∀ w1, Tp.F w1 → Calls Tryd.prog 25 #[.agg #[.int .i64 (Tp.atv a), .int .i64 (Tp.atv b), .int .u8 (Tp.ofbN d)]] w1 fun e w' => e = .returned (.string (mk (Tp.tri a b d).line)) ∧ Below w1.heap.size w1 w') := hid (fun w1 h1 => Tp.line_any (Tp.tri a b d) (Tp.tri_ok a b d) w1 h1)
    by_cases he : (Tp.tri a b d).line = t
    · rw [if_pos he] at hrd
      rw [hrd]
      have hne : ((mk (Tp.tri a b d).line).toList == (mk t).toList) = true := by
        rw [mk_toList, mk_toList]
        simpa using he
      generalize hln : mk (Tp.tri a b d).line = ln at *
      go_enter Tryd.func31, Tryd.ntmps31
      go_wp2_with (first
        | (go_at_call 25; refine (HLN.out _ (HO3.out.kept (stA (st0 _) _)).fc).mono ?_; rintro e w5 ⟨rfl, hb5⟩; have HO5 := hid ((HO3.out.kept (stA (st0 _) _)).kept hb5); have hbx := HO5.out.bx; have y0 := hbx.at 0 _ rfl; have y1 := hbx.at 1 _ rfl; have y2 := hbx.at 2 _ rfl; have yz := hbx.z; have yf := hbx.f; clear hbx; have HX5 := hid ((Bx.new w3 (Tp.tri a b d).val.toList 34 rfl).kept hb5); have hx5 := HX5.out; have x0 := hx5.at 0 _ rfl; have x1 := hx5.at 1 _ rfl; have x2 := hx5.at 2 _ rfl; have xz := hx5.z; clear hb5 hx5)
        | (go_at_call 8; refine (Tp.ofButtons_any d _).mono ?_; rintro e w4 ⟨rfl, rfl⟩)
        | (go_at_call 38; have hq := HO2.out; clear hq; refine (Tp.atoi_any b (by omega) _ HO2.out.fc).mono ?_; rintro e w3 ⟨ev3, rfl, hb3⟩; have HO3 := hid (HO2.out.kept hb3); have y2 := HO3.out.st 2 d rfl; have yz := HO3.out.gz; clear hb3)
        | (go_at_call 38; refine (Tp.atoi_any a (by omega) _ HO1.out.fc).mono ?_; rintro e w2 ⟨ev2, rfl, hb2⟩; have HO2 := hid (HO1.out.kept hb2); have z1 := HO2.out.st 1 b rfl; have zz := HO2.out.gz; clear hb2)
        | (go_at_call 19; refine (HSP.out _ (HF0.out.kept (stA (st0 w) _))).mono ?_; rintro e w1 ⟨rfl, hst, hz, hb1⟩; have HO1 := hid (Tp.ol_start (g := w.heap.size + 1) (by simp) rfl HF0.out hst hz hb1); have s0 := HO1.out.st 0 a rfl; have sz := HO1.out.gz; clear hst hz hb1))
      refine Pl.cutB (fun Z => Below w.heap.size w Z ∧ Bx Z w.heap.size (Tp.tri a b d).val.toList) (Tp.ol_fin HO5.out.low HO5.out.bx (Tp.tri a b d)) ?_
      rintro Z ⟨hZ, hR⟩
      have hld := Tp.load_in hR
      refine bodyPost_ret (v := Tp.tell (some (Tp.tri a b d))) ?_ rfl ⟨rfl, hZ⟩
      simp only [results, Tryd.results31]
      simp
      show (Result.andThen (Sem.run Tryd.prog (loadVar 34 ⟨w.heap.size, 0, none⟩) Z) _) = _
      rw [hld]
      rfl
    · rw [if_neg he] at hrd
      rw [hrd]
      have hne : ((mk (Tp.tri a b d).line).toList == (mk t).toList) = false := by
        rw [mk_toList, mk_toList]
        simpa using he
      generalize hln : mk (Tp.tri a b d).line = ln at *
      go_enter Tryd.func31, Tryd.ntmps31
      go_wp2_with (first
        | (go_at_call 25; refine (HLN.out _ (HO3.out.kept (stA (st0 _) _)).fc).mono ?_; rintro e w5 ⟨rfl, hb5⟩; have HO5 := hid ((HO3.out.kept (stA (st0 _) _)).kept hb5); have hbx := HO5.out.bx; have y0 := hbx.at 0 _ rfl; have y1 := hbx.at 1 _ rfl; have y2 := hbx.at 2 _ rfl; have yz := hbx.z; have yf := hbx.f; clear hbx; have HX5 := hid ((Bx.new w3 (Tp.tri a b d).val.toList 34 rfl).kept hb5); have hx5 := HX5.out; have x0 := hx5.at 0 _ rfl; have x1 := hx5.at 1 _ rfl; have x2 := hx5.at 2 _ rfl; have xz := hx5.z; clear hb5 hx5)
        | (go_at_call 8; refine (Tp.ofButtons_any d _).mono ?_; rintro e w4 ⟨rfl, rfl⟩)
        | (go_at_call 38; have hq := HO2.out; clear hq; refine (Tp.atoi_any b (by omega) _ HO2.out.fc).mono ?_; rintro e w3 ⟨ev3, rfl, hb3⟩; have HO3 := hid (HO2.out.kept hb3); have y2 := HO3.out.st 2 d rfl; have yz := HO3.out.gz; clear hb3)
        | (go_at_call 38; refine (Tp.atoi_any a (by omega) _ HO1.out.fc).mono ?_; rintro e w2 ⟨ev2, rfl, hb2⟩; have HO2 := hid (HO1.out.kept hb2); have z1 := HO2.out.st 1 b rfl; have zz := HO2.out.gz; clear hb2)
        | (go_at_call 19; refine (HSP.out _ (HF0.out.kept (stA (st0 w) _))).mono ?_; rintro e w1 ⟨rfl, hst, hz, hb1⟩; have HO1 := hid (Tp.ol_start (g := w.heap.size + 1) (by simp) rfl HF0.out hst hz hb1); have s0 := HO1.out.st 0 a rfl; have sz := HO1.out.gz; clear hst hz hb1))
      refine Pl.cutB (fun Z => Below w.heap.size w Z ∧ Bx Z w.heap.size Tp.In.zero.val.toList) (Tp.ol_fin HO5.out.low HO5.out.bx Tp.In.zero) ?_
      rintro Z ⟨hZ, hR⟩
      have hld := Tp.load_in hR
      refine bodyPost_ret (v := Tp.tell none) ?_ rfl ⟨rfl, hZ⟩
      simp only [results, Tryd.results31]
      simp
      show (Result.andThen (Sem.run Tryd.prog (loadVar 34 ⟨w.heap.size, 0, none⟩) Z) _) = _
      rw [hld]
      rfl
  · rw [Tp.rd_other h3]
    have h3' : ¬ ((Tp.sp 32 t).length : Int) = 3 := by omega
    generalize hn : (Tp.sp 32 t).length = n at *
    clear h3 hmem hF
    go_enter Tryd.func31, Tryd.ntmps31
    go_wp2_with (go_at_call 19; refine (HSP.out _ (HF0.out.kept (stA (st0 w) _))).mono ?_; rintro e w1 ⟨rfl, hst, hz, hb1⟩; have HO := hid (Tp.ol_start (g := w.heap.size + 1) (by simp) rfl HF0.out hst hz hb1); have hbx := HO.out.bx; have y0 := hbx.at 0 _ rfl; have y1 := hbx.at 1 _ rfl; have y2 := hbx.at 2 _ rfl; have yz := hbx.z; have yf := hbx.f; clear hst hz hb1 hbx)
    refine Pl.cutB (fun Z => Below w.heap.size w Z ∧ Bx Z w.heap.size Tp.In.zero.val.toList) (Tp.ol_fin HO.out.low HO.out.bx Tp.In.zero) ?_
    rintro Z ⟨hZ, hR⟩
    have hld := Tp.load_in hR
    refine bodyPost_ret (v := Tp.tell none) ?_ rfl ⟨rfl, hZ⟩
    simp only [results, Tryd.results31]
    simp
    show (Result.andThen (Sem.run Tryd.prog (loadVar 34 ⟨w.heap.size, 0, none⟩) Z) _) = _
    rw [hld]
    rfl
end Go.Proofs.YtbfflipcmciapaaDoor
