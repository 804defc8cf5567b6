/-
  Package tape: what its walks ask of memory; a line of what was pressed; inputs are checked.
-/
import Derived.Test.YtbfflipcmciapaaDoorTapB
import Derived.Test.YtbfflipcmciapaaDoorShelf
import Derived.Lib.ItoaLen
namespace Go.Proofs.YtbfflipcmciapaaDoor
open Go.ChangeShapes Go.WideShapes Go.ChangeAt Go.RowKit
set_option linter.unusedVariables false
set_option maxRecDepth 100000

/-- What package tape's walks ask of memory. -/
structure Tp.F (w : World) : Prop where
  pow : Lib.TabIs Tryd.prog w "internal/strconv.uint64pow10" .u64 Lib.pow10Tab
  len : ∃ m, w.cell? ⟨3, 0, none⟩ = some (.int .i64 m)
  syn : ∃ ev, w.cell? ⟨0, 0, none⟩ = some ev ∧ (ev = .nilIface ∨ ∃ te pe, ev = .iface te pe)
  ran : ∃ ev, w.cell? ⟨1, 0, none⟩ = some ev ∧ (ev = .nilIface ∨ ∃ te pe, ev = .iface te pe)
theorem Tp.g_pow : Tryd.prog.globalNamed "internal/strconv.uint64pow10" = some 2 := by kernel_rfl
theorem Tp.F.kept {w w' : World} (h : Tp.F w) (hb : Below w.heap.size w w') : Tp.F w' := by
  obtain ⟨t, ⟨m, hm⟩, ⟨e1, h1, k1⟩, ⟨e2, h2, k2⟩⟩ := h
  exact ⟨Joins.tab_stays Tp.g_pow t hb (Nat.le_refl _), ⟨m, (hb.cell (World.block_lt_of_cell? w _ hm)).trans hm⟩, ⟨e1, (hb.cell (World.block_lt_of_cell? w _ h1)).trans h1, k1⟩, ⟨e2, (hb.cell (World.block_lt_of_cell? w _ h2)).trans h2, k2⟩⟩
theorem Tp.below_grow (w : World) (k : Nat) (os : Array Obj) : Below w.heap.size w (Sort.grow (w.drewN k) os) := by
  have h : ∀ k, Below w.heap.size w (w.drewN k) := fun k => by
    induction k with
    | zero => exact st0 w
    | succ k ih => exact ih.drew
  refine (h k).trans ⟨rfl, rfl, rfl, by simp [Sort.grow], fun i hi => ?_⟩
  have : (w.drewN k).heap.size = w.heap.size := by simp
  show ((w.drewN k).heap ++ os)[i]? = _
  rw [Array.getElem?_append_left (by omega)]
theorem Tp.itoa_any (n : Int) (h0 : -9223372036854775808 ≤ n) (h1 : n ≤ 9223372036854775807) (w : World) (h : Tp.F w) :
    Calls Tryd.prog 14 #[.int .i64 n] w fun e w' => e = .returned (.string (mk (Lib.itoa n))) ∧ Below w.heap.size w w' := by
  refine (Tryd.strconv_Itoa n h0 h1 w h.pow).mono fun e w' ⟨he, k, os, hw⟩ => ⟨he, ?_⟩
  subst hw
  exact Tp.below_grow w k os
/-- What is pressed. -/
structure Tp.In where
  c : Int
  p : Int
  d : Nat
structure Tp.In.ok (x : Tp.In) : Prop where
  c0 : -9223372036854775808 ≤ x.c
  c1 : x.c ≤ 9223372036854775807
  p0 : -9223372036854775808 ≤ x.p
  p1 : x.p ≤ 9223372036854775807
  d : x.d < 256
/-- Its line, without a line feed. -/
def Tp.In.line (x : Tp.In) : List UInt8 := Lib.itoa x.c ++ [32] ++ Lib.itoa x.p ++ [32] ++ Tp.btn x.d
theorem Tp.In.line_len {x : Tp.In} (h : x.ok) : x.line.length ≤ 60 := by
  have h1 := Lib.itoa_length_le x.c h.c0 h.c1
  have h2 := Lib.itoa_length_le x.p h.p0 h.p1
  unfold Tp.In.line
  simp only [List.length_append, List.length_cons, List.length_nil, Tp.btn_len]
  omega
def Tp.In.val (x : Tp.In) : Array Value := #[.int .i64 x.c, .int .i64 x.p, .int .u8 x.d]
/-- While line runs. -/
structure Tp.Lw (w : World) (b : Nat) (c p d : Int) (w' : World) : Prop where
  low : Below w.heap.size w w'
  fc : Tp.F w'
  bx : Bx w' b [.int .i64 c, .int .i64 p, .int .u8 d]
theorem Tp.Lw.all {w w' : World} {b : Nat} {c p d : Int} (h : Tp.Lw w b c p d w') : w'.cell? ⟨b, 0, none⟩ = some (.int .i64 c) ∧ w'.cell? ⟨b, 1, none⟩ = some (.int .i64 p) ∧ w'.cell? ⟨b, 2, none⟩ = some (.int .u8 d) ∧ Tp.Lw w b c p d w' :=
  ⟨h.bx.at 0 _ rfl, h.bx.at 1 _ rfl, h.bx.at 2 _ rfl, h⟩
theorem Tp.Lw.kept {w w' w1 : World} {b : Nat} {c p d : Int} (h : Tp.Lw w b c p d w') (hb : Below w'.heap.size w' w1) : Tp.Lw w b c p d w1 := ⟨stp h.low hb, h.fc.kept hb, h.bx.kept hb⟩
theorem Tp.Lw.drew {w w' : World} {b : Nat} {c p d : Int} (h : Tp.Lw w b c p d w') : Tp.Lw w b c p d w'.drew := h.kept (st0 w').drew
theorem Tp.lw_keep {w w' w1 : World} {b : Nat} {c p d : Int} (h : w'.cell? ⟨b, 0, none⟩ = some (.int .i64 c) ∧ w'.cell? ⟨b, 1, none⟩ = some (.int .i64 p) ∧ w'.cell? ⟨b, 2, none⟩ = some (.int .u8 d) ∧ Tp.Lw w b c p d w') (hb : Below w'.heap.size w' w1) :
    w1.cell? ⟨b, 0, none⟩ = some (.int .i64 c) ∧ w1.cell? ⟨b, 1, none⟩ = some (.int .i64 p) ∧ w1.cell? ⟨b, 2, none⟩ = some (.int .u8 d) ∧ Tp.Lw w b c p d w1 := (h.2.2.2.kept hb).all
theorem Tp.mk_app (a b : List UInt8) : mk a ++ mk b = mk (a ++ b) := by
  apply ByteArray.ext
  rw [ByteArray.data_append]
  simp [mk]
set_option maxHeartbeats 1600000 in
theorem Tp.line_any (x : Tp.In) (hx : x.ok) (w : World) (hF : Tp.F w) : Calls Tryd.prog 25 #[.agg x.val] w fun e w' => e = .returned (.string (mk x.line)) ∧ Below w.heap.size w w' := by
  obtain ⟨c, p, d⟩ := x
  obtain ⟨c0, c1, p0, p1, hd⟩ := hx
  simp only at c0 c1 p0 p1 hd
  have h1 := Lib.itoa_length_le c c0 c1
  have h2 := Lib.itoa_length_le p p0 p1
  have HK : Hid (Tp.Lw w w.heap.size c p d (w.alloc (.cells #[.int .i64 c, .int .i64 p, .int .u8 d] 34))) := hid ⟨stA (st0 w) _, hF.kept (stA (st0 w) _), Bx.new w [.int .i64 c, .int .i64 p, .int .u8 d] _ rfl⟩
  show Calls Tryd.prog 25 #[.agg #[.int .i64 c, .int .i64 p, .int .u8 d]] w fun e w' => e = .returned (.string (mk (Lib.itoa c ++ [32] ++ Lib.itoa p ++ [32] ++ Tp.btn d))) ∧ Below w.heap.size w w'
  have e1 : (mk (Lib.itoa c)) ++ (⟨#[32]⟩ : ByteArray) = mk (Lib.itoa c ++ [32]) := Tp.mk_app _ [32]
  clear hF
  generalize hA : Lib.itoa c = A at *
  generalize hB : Lib.itoa p = B at *
  generalize hD : Tp.btn d = D at *
  have h3 : D.length = 8 := by rw [← hD]; rfl
  have zA : (mk A).size = A.length := rfl
  have zB : (mk B).size = B.length := rfl
  have zD : (mk D).size = D.length := rfl
  have s1 : ¬ 9223372036854775807 < (mk A).size + 1 := by omega
  have s2 : ¬ 9223372036854775807 < (mk A).size + 1 + (mk B).size := by omega
  have s3 : ¬ 9223372036854775807 < (mk A).size + 1 + (mk B).size + 1 := by omega
  have s4 : ¬ 9223372036854775807 < (mk A).size + 1 + (mk B).size + 1 + (mk D).size := by omega
  clear zA zB zD h1 h2 h3 e1
  go_enter Tryd.func25, Tryd.ntmps25
  go_wp2
  go_region_held3 (fun w' => w'.cell? ⟨w.heap.size, 0, none⟩ = some (.int .i64 c) ∧ w'.cell? ⟨w.heap.size, 1, none⟩ = some (.int .i64 p) ∧ w'.cell? ⟨w.heap.size, 2, none⟩ = some (.int .u8 d) ∧ Tp.Lw w w.heap.size c p d w')
    (first
      | with_reducible exact Tp.Lw.all HK.out.drew
      | with_reducible exact Tp.lw_keep (by assumption) (by assumption)
      | (go_keep; done))
    (first
      | (go_at_call 14; have hq := HX1.out; clear hq; refine (Tp.itoa_any p p0 p1 _ HX1.out.fc).mono ?_; rw [hB]; rintro e w2 ⟨rfl, hb2⟩; have HX2 := hid (HX1.out.kept hb2))
      | (go_at_call 14; refine (Tp.itoa_any c c0 c1 _ HK.out.drew.fc).mono ?_; rw [hA]; rintro e w1 ⟨rfl, hb1⟩; have HX1 := hid (HK.out.drew.kept hb1))
      | (go_at_call 11; refine (Tp.buttons_any d hd _).mono ?_; rw [hD]; rintro e w3 ⟨rfl, hb3⟩))
  go_wp2
  go_ret
  refine ⟨?_, (HX2.out.kept hb3).low⟩
  rw [show (⟨#[32]⟩ : ByteArray) = mk [32] from rfl, Tp.mk_app, Tp.mk_app, Tp.mk_app, Tp.mk_app]
  simp
/-- Inputs in memory, below B. -/
def Tp.InAt (B : Nat) (w : World) (v : Value) (l : List Tp.In) : Prop :=
  (l = [] ∧ ∃ a c, v = .slice a 0 c) ∨ ∃ g o cap, v = .slice (some ⟨g, o, none⟩) l.length cap ∧ l.length ≤ cap ∧ g < B ∧ g < w.heap.size ∧
    ∀ j x, l[j]? = some x → w.cell? ⟨g, o + 3 * j, none⟩ = some (.int .i64 x.c) ∧ w.cell? ⟨g, o + 3 * j + 1, none⟩ = some (.int .i64 x.p) ∧ w.cell? ⟨g, o + 3 * j + 2, none⟩ = some (.int .u8 x.d)
theorem Tp.InAt.kept {B : Nat} {w w1 : World} {v : Value} {l : List Tp.In} (h : Tp.InAt B w v l) (hb : Below B w w1) : Tp.InAt B w1 v l := by
  rcases h with h | ⟨g, o, cap, h1, h2, h3, h4, h5⟩
  · exact Or.inl h
  · refine Or.inr ⟨g, o, cap, h1, h2, h3, Nat.lt_of_lt_of_le h4 hb.size, fun j x hj => ?_⟩
    obtain ⟨e1, e2, e3⟩ := h5 j x hj
    exact ⟨(World.cell?_of_block (w := w) (hb.block g h3)).trans e1, (World.cell?_of_block (w := w) (hb.block g h3)).trans e2, (World.cell?_of_block (w := w) (hb.block g h3)).trans e3⟩
theorem Tp.InAt.len {B : Nat} {w : World} {v : Value} {l : List Tp.In} (h : Tp.InAt B w v l) : ∃ a c, v = .slice a l.length c := by
  rcases h with ⟨rfl, a, c, rfl⟩ | ⟨g, o, cap, h1, _⟩
  · exact ⟨a, c, rfl⟩
  · exact ⟨_, _, h1⟩
theorem Tp.InAt.at' {B : Nat} {w : World} {v : Value} {l : List Tp.In} (h : Tp.InAt B w v l) {j : Nat} {x : Tp.In} (hx : l[j]? = some x) : ∃ g o k, v = .slice (some ⟨g, o, none⟩) l.length k ∧ g < w.heap.size ∧ w.cell? ⟨g, o + j * 3, none⟩ = some (.int .i64 x.c) ∧ w.cell? ⟨g, o + j * 3 + 1, none⟩ = some (.int .i64 x.p) ∧ w.cell? ⟨g, o + j * 3 + 2, none⟩ = some (.int .u8 x.d) := by
  rcases h with ⟨rfl, _⟩ | ⟨g, o, k, h1, h2, h3, h4, h5⟩
  · simp at hx
  · obtain ⟨e1, e2, e3⟩ := h5 j x hx
    rw [Nat.mul_comm 3 j] at e1 e2 e3
    exact ⟨g, o, k, h1, h4, e1, e2, e3⟩
/-- What CheckInputs tells of inputs that aren't too many. -/
def Tp.chkL : List Tp.In → Int → Int
  | [], _ => 0
  | x :: l, a => if x.c < a ∨ 400000 < x.c then 3 else if x.p = 0 ∨ x.p = 1 then Tp.chkL l x.c else 5
def Tp.chkIn (l : List Tp.In) (a : Int) : Int := if 40 < l.length then 2 else Tp.chkL l a
theorem Tp.chk3 {x : Tp.In} {l : List Tp.In} {a : Int} (h : x.c < a ∨ 400000 < x.c) : Tp.chkL (x :: l) a = 3 := if_pos h
theorem Tp.chk0 {x : Tp.In} {l : List Tp.In} {a : Int} (h : ¬ (x.c < a ∨ 400000 < x.c)) (hp : x.p = 0 ∨ x.p = 1) : Tp.chkL (x :: l) a = Tp.chkL l x.c := (if_neg h).trans (if_pos hp)
theorem Tp.chk5 {x : Tp.In} {l : List Tp.In} {a : Int} (h : ¬ (x.c < a ∨ 400000 < x.c)) (hp : ¬ (x.p = 0 ∨ x.p = 1)) : Tp.chkL (x :: l) a = 5 := (if_neg h).trans (if_neg hp)
set_option maxHeartbeats 1600000 in
theorem Tp.checkInputs (l : List Tp.In) (v : Value) (B : Nat) (a : Int) (w : World) (h : Tp.InAt B w v l) (hB : B ≤ w.heap.size) : Calls Tryd.prog 23 #[v, .int .i64 a] w fun e w' => e = .returned (.int .i64 (Tp.chkIn l a)) ∧ Below w.heap.size w w' := by
  obtain ⟨a1, k1, e1⟩ := h.len
  subst e1
  by_cases hl : 40 < l.length
  · have hl' : (40 : Int) < l.length := by omega
    have e0 : Tp.chkIn l a = 2 := if_pos hl
    rw [e0]
    clear h e0
    go_enter Tryd.func23, Tryd.ntmps23
    go_wp2
    go_ret
    exact ⟨rfl, st0 w⟩
  · have hl' : ¬ (40 : Int) < l.length := by omega
    have e0 : Tp.chkIn l a = Tp.chkL l a := if_neg hl
    rw [e0]
    have H := hid h
    clear h e0
    go_enter Tryd.func23, Tryd.ntmps23
    go_wp2
    go_loopw [14, 5] (fun i ah wr => ∃ (j : Nat) (a' : Int), j ≤ l.length ∧ i = .int .i64 j ∧ ah = .int .i64 a' ∧ Tp.chkL (l.drop j) a' = Tp.chkL l a ∧ Below w.heap.size w wr) (fun i _ _ => l.length - (intOf i).toNat)
    case atStart => exact ⟨0, a, Nat.zero_le _, rfl, rfl, rfl, st0 w⟩
    case round =>
      obtain ⟨j, a', hj, rfl, rfl, hE, hb⟩ := hrel
      have HE := hid hE
      have HB := hid hb
      by_cases hlt : j < l.length
      · obtain ⟨x, hx⟩ : ∃ x, l[j]? = some x := ⟨_, List.getElem?_eq_getElem hlt⟩
        have hd : l.drop j = x :: l.drop (j + 1) := by
          rw [List.drop_eq_getElem_cons hlt]
          congr 1
          rw [List.getElem?_eq_getElem hlt] at hx
          exact Option.some.inj hx
        have HH := (H.out.kept (hb.mono hB))
        obtain ⟨g, o, k, ev, gz, x0, x1, x2⟩ := HH.at' hx
        cases ev
        have hjl : (j : Int) < l.length := by omega
        have hj0 : (0 : Int) ≤ j := by omega
        have HD := hid hd
        clear hE hb hd hx HH
        by_cases q1 : x.c < a'
        · go_wp2
          go_ret
          exact ⟨by rw [← HE.out, HD.out, Tp.chk3 (Or.inl q1)]; rfl, stA HB.out _⟩
        · have q1' : a' ≤ x.c := by omega
          by_cases q2 : 400000 < x.c
          · go_wp2
            go_ret
            exact ⟨by rw [← HE.out, HD.out, Tp.chk3 (Or.inr q2)]; rfl, stA HB.out _⟩
          · have q2' : x.c ≤ 400000 := by omega
            have HQ : Hid (¬ (x.c < a' ∨ 400000 < x.c)) := fun e => e.elim (fun e => by omega) (fun e => by omega)
            clear q1 q2
            by_cases q3 : x.p = 0
            · have HP := hid q3
              rw [q3] at x1
              clear q3
              go_wp2
              exact ⟨⟨j + 1, x.c, by omega, by simp, rfl, by rw [← HE.out, HD.out, Tp.chk0 HQ.out (Or.inl HP.out)], stA HB.out _⟩, by simp [intOf]; omega⟩
            · by_cases q4 : x.p = 1
              · have HP := hid q4
                rw [q4] at x1
                clear q3 q4
                go_wp2
                exact ⟨⟨j + 1, x.c, by omega, by simp, rfl, by rw [← HE.out, HD.out, Tp.chk0 HQ.out (Or.inr HP.out)], stA HB.out _⟩, by simp [intOf]; omega⟩
              · have HP : Hid (¬ (x.p = 0 ∨ x.p = 1)) := fun e => e.elim q3 q4
                have q3' : (x.p != 0) = true := by simpa using q3
                have q4' : (x.p != 1) = true := by simpa using q4
                clear q3 q4
                go_wp2
                all_goals first
                  | (exfalso; simp_all; done)
                  | (go_ret; exact ⟨by rw [← HE.out, HD.out, Tp.chk5 HQ.out HP.out]; rfl, stA HB.out _⟩)
      · have hj2 : j = l.length := by omega
        subst hj2
        have hnl : ¬ (l.length : Int) < l.length := by omega
        clear hE hb
        go_wp2
        go_ret
        refine ⟨?_, HB.out⟩
        have := HE.out
        rw [List.drop_length] at this
        rw [← this]; rfl
set_option maxHeartbeats 1600000 in
theorem Tp.rcheck (l : List Tp.In) (v : Value) (B : Nat) (a : Int) (w : World) (h : Tp.InAt B w v l) (hB : B ≤ w.heap.size) : Calls Tryd.prog 13 #[v, .int .i64 a] w fun e w' => e = .returned (.int .i64 (Tp.chkIn l a)) ∧ Below w.heap.size w w' := by
  obtain ⟨a1, k1, e1⟩ := h.len
  subst e1
  by_cases hl : 40 < l.length
  · have hl' : (40 : Int) < l.length := by omega
    have e0 : Tp.chkIn l a = 2 := if_pos hl
    rw [e0]
    clear h e0
    go_enter Tryd.func13, Tryd.ntmps13
    go_wp2
    go_ret
    exact ⟨rfl, st0 w⟩
  · have hl' : ¬ (40 : Int) < l.length := by omega
    have e0 : Tp.chkIn l a = Tp.chkL l a := if_neg hl
    rw [e0]
    have H := hid h
    clear h e0
    go_enter Tryd.func13, Tryd.ntmps13
    go_wp2
    go_loopw [14, 5] (fun i ah wr => ∃ (j : Nat) (a' : Int), j ≤ l.length ∧ i = .int .i64 j ∧ ah = .int .i64 a' ∧ Tp.chkL (l.drop j) a' = Tp.chkL l a ∧ Below w.heap.size w wr) (fun i _ _ => l.length - (intOf i).toNat)
    case atStart => exact ⟨0, a, Nat.zero_le _, rfl, rfl, rfl, st0 w⟩
    case round =>
      obtain ⟨j, a', hj, rfl, rfl, hE, hb⟩ := hrel
      have HE := hid hE
      have HB := hid hb
      by_cases hlt : j < l.length
      · obtain ⟨x, hx⟩ : ∃ x, l[j]? = some x := ⟨_, List.getElem?_eq_getElem hlt⟩
        have hd : l.drop j = x :: l.drop (j + 1) := by
          rw [List.drop_eq_getElem_cons hlt]
          congr 1
          rw [List.getElem?_eq_getElem hlt] at hx
          exact Option.some.inj hx
        have HH := (H.out.kept (hb.mono hB))
        obtain ⟨g, o, k, ev, gz, x0, x1, x2⟩ := HH.at' hx
        cases ev
        have hjl : (j : Int) < l.length := by omega
        have hj0 : (0 : Int) ≤ j := by omega
        have HD := hid hd
        clear hE hb hd hx HH
        by_cases q1 : x.c < a'
        · go_wp2
          go_ret
          exact ⟨by rw [← HE.out, HD.out, Tp.chk3 (Or.inl q1)]; rfl, stA HB.out _⟩
        · have q1' : a' ≤ x.c := by omega
          by_cases q2 : 400000 < x.c
          · go_wp2
            go_ret
            exact ⟨by rw [← HE.out, HD.out, Tp.chk3 (Or.inr q2)]; rfl, stA HB.out _⟩
          · have q2' : x.c ≤ 400000 := by omega
            have HQ : Hid (¬ (x.c < a' ∨ 400000 < x.c)) := fun e => e.elim (fun e => by omega) (fun e => by omega)
            clear q1 q2
            by_cases q3 : x.p < 0
            · have HP : Hid (¬ (x.p = 0 ∨ x.p = 1)) := fun e => e.elim (fun e => by omega) (fun e => by omega)
              go_wp2
              go_ret
              exact ⟨by rw [← HE.out, HD.out, Tp.chk5 HQ.out HP.out]; rfl, stA HB.out _⟩
            · have q3' : 0 ≤ x.p := by omega
              by_cases q4 : 1 < x.p
              · have HP : Hid (¬ (x.p = 0 ∨ x.p = 1)) := fun e => e.elim (fun e => by omega) (fun e => by omega)
                clear q3
                go_wp2
                go_ret
                exact ⟨by rw [← HE.out, HD.out, Tp.chk5 HQ.out HP.out]; rfl, stA HB.out _⟩
              · have q4' : x.p ≤ 1 := by omega
                have HP : Hid (x.p = 0 ∨ x.p = 1) := hid (by omega)
                clear q3 q4
                go_wp2
                exact ⟨⟨j + 1, x.c, by omega, by simp, rfl, by rw [← HE.out, HD.out, Tp.chk0 HQ.out HP.out], stA HB.out _⟩, by simp [intOf]; omega⟩
      · have hj2 : j = l.length := by omega
        subst hj2
        have hnl : ¬ (l.length : Int) < l.length := by omega
        clear hE hb
        go_wp2
        go_ret
        refine ⟨?_, HB.out⟩
        have := HE.out
        rw [List.drop_length] at this
        rw [← this]; rfl
end Go.Proofs.YtbfflipcmciapaaDoor
