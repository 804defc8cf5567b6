/-
  Parts of a proof, joined.
-/
import Derived.Test.YtdgeghlilkbboaaGreatDoorQk20
import Derived.Test.YtdgeghlilkbboaaGreatDoorQk18
import Derived.Test.YtdgeghlilkbboaaGreatDoorQk17
import Derived.ChangeKeysEq
namespace Go.Proofs.YtdgeghlilkbboaaGreatDoor
open Go.ChangeShapes Go.WideShapes Go.ChangeAt Go.RowKit
set_option linter.unusedVariables false
set_option maxRecDepth 100000
theorem putL_mid (C : List Value) : ∀ (B' B A : List Value), B'.length = B.length → putL (A ++ (B ++ C)) A.length B' = A ++ (B' ++ C)
  | [], [], A, _ => rfl
  | v :: vs, b :: bs, A, h => by
    have e : (A ++ (b :: bs ++ C)).set A.length v = (A ++ [v]) ++ (bs ++ C) := by simp
    have ih := putL_mid C vs bs (A ++ [v]) (by simpa using h)
    simp only [List.length_append, List.length_cons, List.length_nil, Nat.zero_add] at ih
    show putL ((A ++ (b :: bs ++ C)).set A.length v) (A.length + 1) vs = _
    rw [e, ih]
    simp
def rest1 (M : Mach) : List Value := [.int .u8 M.p0.d, .bool M.p0.l, .int .u8 M.p0.s, .int .u8 M.p1.d, .bool M.p1.l, .int .u8 M.p1.s, .int .u16 M.t.r, .int .u16 M.t.c, .bool M.t.on, .bool M.t.g]
def rest2 (M : Mach) : List Value := [.int .i64 M.b.l, .int .i64 M.b.a, .bool M.b.g, .int .i64 M.b.f, .int .u16 M.fr, .int .u16 M.to, .bool M.granted, .bool M.held, .int .u8 M.m0, .int .u8 M.m1, .bool M.rung, .int .i64 M.clock, .int .i64 M.mready, .int .i64 M.aready]
def sndL (s : Sd) : List Value := [.int .u16 s.a.p, .int .u16 s.a.c, .int .u8 s.a.l, .bool s.a.h, .int .u16 s.a.n, .int .u16 s.b.p, .int .u16 s.b.c, .int .u8 s.b.l, .bool s.b.h, .int .u16 s.b.n, .int .u16 s.c.p, .int .u16 s.c.c, .int .u8 s.c.l, .bool s.c.h, .int .u16 s.c.n, .int .i64 s.w]
theorem restL_eq (M : Mach) : restL M = rest1 M ++ (sndL M.s ++ rest2 M) := rfl
theorem Fx.putMain (F : Fx) (M : Mach) (tk : Tk) (c : C.Cpu) : putL (F.cells M tk) 0 (cpuL c) = F.cells { M with main := c } tk := by
  unfold Fx.cells machL
  rw [List.append_assoc]
  exact putL_mid _ (cpuL c) (cpuL M.main) [] rfl
theorem Fx.putAux (F : Fx) (M : Mach) (tk : Tk) (c : C.Cpu) : putL (F.cells M tk) 15 (cpuL c) = F.cells { M with aux := c } tk := by
  unfold Fx.cells machL
  simp only [List.append_assoc]
  exact putL_mid _ (cpuL c) (cpuL M.aux) (cpuL M.main) rfl
theorem Fx.putSnd (F : Fx) (M : Mach) (tk : Tk) (s : Sd) : putL (F.cells M tk) 45 (sndL s) = F.cells { M with s := s } tk := by
  have e : ∀ M : Mach, F.cells M tk = (cpuL M.main ++ (cpuL M.aux ++ (slL F.S ++ rest1 M))) ++ (sndL M.s ++ (rest2 M ++ ([.int .i64 tk.n, tk.v] ++ (F.sideM ++ F.sideA)))) := by
    intro M
    unfold Fx.cells machL
    rw [restL_eq]
    simp only [List.append_assoc]
  rw [e M, e]
  exact putL_mid _ (sndL s) (sndL M.s) (cpuL M.main ++ (cpuL M.aux ++ (slL F.S ++ rest1 M))) rfl
section
variable {F : Fx} {W : World} {M M' : Mach} {tk : Tk}
theorem Bd.auxC (h : Bd F W M tk) : W.cell? ⟨F.g, 15, none⟩ = some (.int .u16 (M.aux.r 0)) ∧ W.cell? ⟨F.g, 16, none⟩ = some (.int .u16 (M.aux.r 1)) ∧ W.cell? ⟨F.g, 17, none⟩ = some (.int .u16 (M.aux.r 2)) ∧ W.cell? ⟨F.g, 18, none⟩ = some (.int .u16 (M.aux.r 3)) ∧ W.cell? ⟨F.g, 19, none⟩ = some (.int .u16 (M.aux.r 4)) ∧ W.cell? ⟨F.g, 20, none⟩ = some (.int .u16 (M.aux.r 5)) ∧ W.cell? ⟨F.g, 21, none⟩ = some (.int .u16 (M.aux.r 6)) ∧ W.cell? ⟨F.g, 22, none⟩ = some (.int .u16 (M.aux.r 7)) ∧ W.cell? ⟨F.g, 23, none⟩ = some (.int .u16 M.aux.PC) ∧ W.cell? ⟨F.g, 24, none⟩ = some (.bool M.aux.Z) ∧ W.cell? ⟨F.g, 25, none⟩ = some (.bool M.aux.N) ∧ W.cell? ⟨F.g, 26, none⟩ = some (.bool M.aux.C) ∧ W.cell? ⟨F.g, 27, none⟩ = some (.bool M.aux.V) ∧ W.cell? ⟨F.g, 28, none⟩ = some (.bool M.aux.May) ∧ W.cell? ⟨F.g, 29, none⟩ = some (.bool M.aux.Waits) ∧ W.cell? ⟨F.g, 72, none⟩ = some (.int .i64 M.clock) ∧ W.cell? ⟨F.g, 74, none⟩ = some (.int .i64 M.aready) ∧ (∀ o, W.frozen? ⟨F.g, o, none⟩ = false) ∧ F.g < W.heap.size :=
  ⟨h.at 15 _ rfl, h.at 16 _ rfl, h.at 17 _ rfl, h.at 18 _ rfl, h.at 19 _ rfl, h.at 20 _ rfl, h.at 21 _ rfl, h.at 22 _ rfl, h.at 23 _ rfl, h.at 24 _ rfl, h.at 25 _ rfl, h.at 26 _ rfl, h.at 27 _ rfl, h.at 28 _ rfl, h.at 29 _ rfl, h.at 72 _ rfl, h.at 74 _ rfl, h.bx.f, h.bx.z⟩
theorem Bu.begin_lit (h : Bd F W M tk) (o : Nat) (x0 x1 : Int) (h0 : ReadsAt F M tk o 0 x0) (h1 : ReadsAt F M tk o 1 x1) (b0 : 0 ≤ x0 ∧ x0 ≤ 255) (b1 : 0 ≤ x1 ∧ x1 ≤ 255) :
    Calls Tryz.prog 51 #[reachV F.g o] W fun e w' => e = .returned (.agg #[.int .u16 0, .int .u16 0, .int .u16 0, .int .u16 0, .int .u16 0, .int .u16 0, .int .u16 0, .int .u16 0, .int .u16 (x0 * 256 + x1), .bool false, .bool false, .bool false, .bool false, .bool false, .bool false]) ∧ Bd F w' M tk ∧ Bt F W w' := Bu.begin_any h o x0 x1 h0 h1 b0 b1
theorem sets_keep {b i : Nat} {v : Value} : ∀ (vs : List Value) (o : Nat) (w : World), o + vs.length ≤ i → w.cell? ⟨b, i, none⟩ = some v → (w.setCells b o vs).cell? ⟨b, i, none⟩ = some v
  | [], o, w, hl, h => h
  | x :: vs, o, w, hl, h => by
    simp only [List.length_cons] at hl
    exact sets_keep vs (o + 1) _ (by omega) ((World.cell?_setCell_other _ _ _ _ (by intro e; have := congrArg Addr.off e; simp at this; omega)).trans h)
theorem set_off {w : World} {b i j : Nat} {v u : Value} (hij : i ≠ j) (h : w.cell? ⟨b, j, none⟩ = some u) : (w.setCell ⟨b, i, none⟩ v).drew.cell? ⟨b, j, none⟩ = some u :=
  (World.cell?_setCell_other _ _ _ _ (by intro e; exact hij (congrArg Addr.off e))).trans h
theorem nest15 (w : World) (b : Nat) (v0 v1 v2 v3 v4 v5 v6 v7 v8 v9 v10 v11 v12 v13 v14 : Value) : w.setCells b 15 [v0, v1, v2, v3, v4, v5, v6, v7, v8, v9, v10, v11, v12, v13, v14] = (((((((((((((((w.setCell ⟨b, 15, none⟩ v0).setCell ⟨b, 16, none⟩ v1).setCell ⟨b, 17, none⟩ v2).setCell ⟨b, 18, none⟩ v3).setCell ⟨b, 19, none⟩ v4).setCell ⟨b, 20, none⟩ v5).setCell ⟨b, 21, none⟩ v6).setCell ⟨b, 22, none⟩ v7).setCell ⟨b, 23, none⟩ v8).setCell ⟨b, 24, none⟩ v9).setCell ⟨b, 25, none⟩ v10).setCell ⟨b, 26, none⟩ v11).setCell ⟨b, 27, none⟩ v12).setCell ⟨b, 28, none⟩ v13).setCell ⟨b, 29, none⟩ v14) := by simp only [World.setCells, Nat.reduceAdd]
theorem keep15 {w : World} {b : Nat} {u v0 v1 v2 v3 v4 v5 v6 v7 v8 v9 v10 v11 v12 v13 v14 : Value} (h : w.cell? ⟨b, 72, none⟩ = some u) : (((((((((((((((w.setCell ⟨b, 15, none⟩ v0).setCell ⟨b, 16, none⟩ v1).setCell ⟨b, 17, none⟩ v2).setCell ⟨b, 18, none⟩ v3).setCell ⟨b, 19, none⟩ v4).setCell ⟨b, 20, none⟩ v5).setCell ⟨b, 21, none⟩ v6).setCell ⟨b, 22, none⟩ v7).setCell ⟨b, 23, none⟩ v8).setCell ⟨b, 24, none⟩ v9).setCell ⟨b, 25, none⟩ v10).setCell ⟨b, 26, none⟩ v11).setCell ⟨b, 27, none⟩ v12).setCell ⟨b, 28, none⟩ v13).setCell ⟨b, 29, none⟩ v14).cell? ⟨b, 72, none⟩ = some u := by
  rw [← nest15]; exact sets_keep _ 15 w (by simp) h
theorem keep15d {w : World} {b : Nat} {u x v0 v1 v2 v3 v4 v5 v6 v7 v8 v9 v10 v11 v12 v13 v14 : Value} (h : w.cell? ⟨b, 72, none⟩ = some u) : ((((((((((((((((w.setCell ⟨b, 15, none⟩ v0).setCell ⟨b, 16, none⟩ v1).setCell ⟨b, 17, none⟩ v2).setCell ⟨b, 18, none⟩ v3).setCell ⟨b, 19, none⟩ v4).setCell ⟨b, 20, none⟩ v5).setCell ⟨b, 21, none⟩ v6).setCell ⟨b, 22, none⟩ v7).setCell ⟨b, 23, none⟩ v8).setCell ⟨b, 24, none⟩ v9).setCell ⟨b, 25, none⟩ v10).setCell ⟨b, 26, none⟩ v11).setCell ⟨b, 27, none⟩ v12).setCell ⟨b, 28, none⟩ v13).setCell ⟨b, 29, none⟩ v14).setCell ⟨b, 74, none⟩ x).drew.cell? ⟨b, 72, none⟩ = some u := set_off (by omega) (keep15 h)
theorem keep15e {w : World} {b : Nat} {u x v0 v1 v2 v3 v4 v5 v6 v7 v8 v9 v10 v11 v12 v13 v14 : Value} (h : w.cell? ⟨b, 72, none⟩ = some u) : ((((((((((((((((w.setCell ⟨b, 15, none⟩ v0).setCell ⟨b, 16, none⟩ v1).setCell ⟨b, 17, none⟩ v2).setCell ⟨b, 18, none⟩ v3).setCell ⟨b, 19, none⟩ v4).setCell ⟨b, 20, none⟩ v5).setCell ⟨b, 21, none⟩ v6).setCell ⟨b, 22, none⟩ v7).setCell ⟨b, 23, none⟩ v8).setCell ⟨b, 24, none⟩ v9).setCell ⟨b, 25, none⟩ v10).setCell ⟨b, 26, none⟩ v11).setCell ⟨b, 27, none⟩ v12).setCell ⟨b, 28, none⟩ v13).setCell ⟨b, 29, none⟩ v14).setCell ⟨b, 74, none⟩ x).cell? ⟨b, 72, none⟩ = some u := (World.cell?_setCell_other _ _ _ _ (by intro e; have := congrArg Addr.off e; simp at this)).trans (keep15 h)
set_option maxHeartbeats 1600000 in
theorem Bu.aux_w1 (h : Bd F W M tk) (n : Int) (hn : 0 ≤ n ∧ n ≤ 255) (hh : (M.held && !(odd (n / 2))) = true) : Calls Tryz.prog 136 #[pt F.g 0, .int .u8 n] W fun e w' => e = .returned (.tuple #[]) ∧ Bd F w' (M.putM 16 n) tk ∧ Bt F W w' := by
  have c0 := h.at 67 (.bool M.granted) rfl
  have c1 := h.at 68 (.bool M.held) rfl
  have ff := h.bx.f
  have hg := h.bx.z
  have H := hid h
  have a1 := and_one' n hn
  have a2 := and_two' n hn
  have e0 : M.putM 16 n = { M.grant n with aux := beginC ((M.grant n).lookA 0) ((M.grant n).lookA 1), aready := M.clock } := by show M.letGo n = _; unfold Mach.letGo; rw [if_pos hh]
  rw [e0]
  have hp : Bd F ((W.setCell ⟨F.g, 67, none⟩ (.bool (odd n))).setCell ⟨F.g, 68, none⟩ (.bool (odd (n / 2)))) (M.grant n) tk :=
    (h.put (M' := { M with granted := odd n }) (tk' := tk) 67 _ (by omega) rfl ⟨rfl, rfl, rfl, rfl, rfl⟩ { h.fit with main := h.fit.main }).put 68 _ (by omega) rfl ⟨rfl, rfl, rfl, rfl, rfl⟩ (grant_fit h.fit n)
  have HP := hid hp
  have hcl : (M.grant n).clock = M.clock := rfl
  rw [← hcl]
  have HF := hid h.fit
  clear h e0 hp hcl
  generalize hG : M.grant n = G at *
  have HG := hid hG
  clear hG
  have hd : M.held = true := by revert hh; cases M.held <;> simp
  have ho : odd (n / 2) = false := by revert hh; cases M.held <;> cases odd (n / 2) <;> simp
  rw [hd] at c1
  have r : n / 2 % 2 = 0 := by rcases odd_cases (n / 2) with ⟨p, q⟩ | ⟨p, q⟩; exact p; rw [ho] at q; cases q
  rw [r] at a2
  rw [ho] at HP
  clear hh hd ho r
  rcases odd_cases n with ⟨p, q⟩ | ⟨p, q⟩
  all_goals
    rw [p] at a1
    rw [q] at HP
    clear p q
    go_enter Tryz.func136, Tryz.ntmps136
    go_wp2
    refine Pl.cutW (fun Y => Bd F Y G tk ∧ Bt F W Y) ⟨HP.out, ((Bt.refl _ _).set H.out.nd _ _).set H.out.nd _ _⟩ ?_
    rintro Y ⟨hY1, hY2⟩
    have HY1 := hid hY1
    have HY2 := hid hY2
    obtain ⟨_, _, _, _, _, _, _, _, _, _, _, _, _, _, _, cl, ar, yf, yg⟩ := hY1.auxC
    clear hY1 hY2 ff c0 c1 hg
    go_region_held3 (fun w' => w'.cell? ⟨F.g, 72, none⟩ = some (.int .i64 G.clock))
      ((first | (with_reducible exact zcl) | (with_reducible exact ycl) | (with_reducible exact cl) | (with_reducible exact keep15 zcl) | (with_reducible exact keep15d zcl) | (with_reducible exact keep15e zcl) | (go_keep; done)))
      ((first
      | (go_at_call 51; refine (Bu.begin_lit HB1.out 143 _ _ (Bu.reads_A 0 (by omega)) (Bu.reads_A 1 (by omega)) (lookA_bd _ _) (lookA_bd _ _)).mono ?_; rintro e w2 ⟨rfl, hB2, hT2⟩; have HB2 := hid hB2; have HT2 := hid hT2; obtain ⟨z0, z1, z2, z3, z4, z5, z6, z7, z8, z9, z10, z11, z12, z13, z14, zcl, zar, zf, zg⟩ := hB2.auxC; clear hB2 hT2)
      | (go_at_call 72; refine (Bu.aux_any F.g _).mono ?_; rintro e w1 ⟨rfl, hb1⟩; have HB1 := hid (HY1.out.drew.kept hb1); have ycl := HB1.out.at 72 _ rfl; have yg1 := HB1.out.bx.z)))
    all_goals go_wp2
    all_goals go_end0
    all_goals
      have hf : Mach.fit { G with aux := beginC (G.lookA 0) (G.lookA 1) } := Mach.fit.of HB2.out.fit { HB2.out.fit with aux := beg_ok _ _ (lookA_bd _ _) (lookA_bd _ _) } ⟨rfl, rfl, rfl, rfl, rfl⟩ rfl ⟨rfl, rfl, rfl⟩ ⟨rfl, rfl⟩ (Or.inl rfl)
      have hf2 : Mach.fit { G with aux := beginC (G.lookA 0) (G.lookA 1), aready := G.clock } := Mach.fit.of hf { hf with main := hf.main } ⟨rfl, rfl, rfl, rfl, rfl⟩ rfl ⟨rfl, rfl, rfl⟩ ⟨rfl, rfl⟩ (Or.inr rfl)
      have hp := (HB2.out.puts (M' := { G with aux := beginC (G.lookA 0) (G.lookA 1) }) (tk' := tk) 15 (cpuL (beginC (G.lookA 0) (G.lookA 1))) (by simp [cpuL]) (F.putAux G tk _) ⟨rfl, rfl, rfl, rfl, rfl⟩ hf).put (M' := { G with aux := beginC (G.lookA 0) (G.lookA 1), aready := G.clock }) (tk' := tk) 74 (.int .i64 G.clock) (by omega) rfl ⟨rfl, rfl, rfl, rfl, rfl⟩ hf2
      have ht := Bt.set HB2.out.nd (Bt.sets HB2.out.nd (cpuL (beginC (G.lookA 0) (G.lookA 1))) 15 _ (Mv.trans HY2.out (Mv.trans (Bt.below HY1.out (stp (st0 Y).drew hb1)) HT2.out))) 74 (.int .i64 G.clock)
      rw [← begL_eq] at hp ht
      unfold begL at hp ht
      rw [nest15] at hp ht
      exact ⟨rfl, hp, ht⟩
theorem Bu.aux_w (h : Bd F W M tk) (n : Int) (hn : 0 ≤ n ∧ n ≤ 255) : Calls Tryz.prog 136 #[pt F.g 0, .int .u8 n] W fun e w' => e = .returned (.tuple #[]) ∧ Bd F w' (M.putM 16 n) tk ∧ Bt F W w' := by
  cases hh : (M.held && !(odd (n / 2)))
  · exact Bu.aux_w0 h n hn hh
  · exact Bu.aux_w1 h n hn hh
end
end Go.Proofs.YtdgeghlilkbboaaGreatDoor
namespace Go.Proofs.YtdgeghlilkbboaaGreatDoor
open Go.ChangeShapes Go.WideShapes Go.ChangeAt Go.RowKit
set_option linter.unusedVariables false
set_option maxRecDepth 100000
def EndA (F : Fx) (W w' : World) (M : Mach) (tk : Tk) (l : List Wt) : Prop := (∃ v, Bd F w' M (tk.app l v)) ∧ Bw F W w'
theorem step_eq {s x : Sd} {k mN : Nat} {L : List UInt8} {m : Int} (hx : s.ticks k = x) (hL : sms s k = L) (hf : x.fit) (e : (mN : Int) = m) (h1 : 1 ≤ m) (h2 : m ≤ wt x) : s.ticks (k + mN) = ⟨x.a.later m, x.b.later m, x.c.later m, wt x - m⟩ ∧ sms s (k + mN) = L ++ one x := by
  subst e hx hL
  rw [← Sd.ticks_add, sms_add, ← Sd.go_ticks hf mN (by omega) h2, (Sd.near hf mN (by omega) h2).2]
  exact ⟨rfl, rfl⟩
theorem Sd.fit.k {s : Sd} (h : s.fit) : s.ok := ⟨h.a, h.b, h.c⟩
theorem SmW.all {w W : World} {x : Sd} {l : List UInt8} {v : Value} (h : SmW w x l v W) : W.cell? ⟨w.heap.size, 0, none⟩ = some (.int .u16 x.a.p) ∧ W.cell? ⟨w.heap.size, 1, none⟩ = some (.int .u16 x.a.c) ∧ W.cell? ⟨w.heap.size, 2, none⟩ = some (.int .u8 x.a.l) ∧ W.cell? ⟨w.heap.size, 3, none⟩ = some (.bool x.a.h) ∧ W.cell? ⟨w.heap.size, 4, none⟩ = some (.int .u16 x.a.n) ∧ W.cell? ⟨w.heap.size, 5, none⟩ = some (.int .u16 x.b.p) ∧ W.cell? ⟨w.heap.size, 6, none⟩ = some (.int .u16 x.b.c) ∧ W.cell? ⟨w.heap.size, 7, none⟩ = some (.int .u8 x.b.l) ∧ W.cell? ⟨w.heap.size, 8, none⟩ = some (.bool x.b.h) ∧ W.cell? ⟨w.heap.size, 9, none⟩ = some (.int .u16 x.b.n) ∧ W.cell? ⟨w.heap.size, 10, none⟩ = some (.int .u16 x.c.p) ∧ W.cell? ⟨w.heap.size, 11, none⟩ = some (.int .u16 x.c.c) ∧ W.cell? ⟨w.heap.size, 12, none⟩ = some (.int .u8 x.c.l) ∧ W.cell? ⟨w.heap.size, 13, none⟩ = some (.bool x.c.h) ∧ W.cell? ⟨w.heap.size, 14, none⟩ = some (.int .u16 x.c.n) ∧ W.cell? ⟨w.heap.size, 15, none⟩ = some (.int .i64 x.w) :=
  ⟨h.b.at 0 _ rfl, h.b.at 1 _ rfl, h.b.at 2 _ rfl, h.b.at 3 _ rfl, h.b.at 4 _ rfl, h.b.at 5 _ rfl, h.b.at 6 _ rfl, h.b.at 7 _ rfl, h.b.at 8 _ rfl, h.b.at 9 _ rfl, h.b.at 10 _ rfl, h.b.at 11 _ rfl, h.b.at 12 _ rfl, h.b.at 13 _ rfl, h.b.at 14 _ rfl, h.b.at 15 _ rfl⟩
theorem SmW.allr {w W : World} {x : Sd} {l : List UInt8} {v : Value} (h : SmW w x l v W) : W.cell? ⟨w.heap.size + 1, 0, none⟩ = some (.int .u16 0) ∧ W.cell? ⟨w.heap.size + 1, 1, none⟩ = some (.int .u16 0) ∧ W.cell? ⟨w.heap.size + 1, 2, none⟩ = some (.int .u8 0) ∧ W.cell? ⟨w.heap.size + 1, 3, none⟩ = some (.bool false) ∧ W.cell? ⟨w.heap.size + 1, 4, none⟩ = some (.int .u16 0) ∧ W.cell? ⟨w.heap.size + 1, 5, none⟩ = some (.int .u16 0) ∧ W.cell? ⟨w.heap.size + 1, 6, none⟩ = some (.int .u16 0) ∧ W.cell? ⟨w.heap.size + 1, 7, none⟩ = some (.int .u8 0) ∧ W.cell? ⟨w.heap.size + 1, 8, none⟩ = some (.bool false) ∧ W.cell? ⟨w.heap.size + 1, 9, none⟩ = some (.int .u16 0) ∧ W.cell? ⟨w.heap.size + 1, 10, none⟩ = some (.int .u16 0) ∧ W.cell? ⟨w.heap.size + 1, 11, none⟩ = some (.int .u16 0) ∧ W.cell? ⟨w.heap.size + 1, 12, none⟩ = some (.int .u8 0) ∧ W.cell? ⟨w.heap.size + 1, 13, none⟩ = some (.bool false) ∧ W.cell? ⟨w.heap.size + 1, 14, none⟩ = some (.int .u16 0) ∧ W.cell? ⟨w.heap.size + 1, 15, none⟩ = some (.int .i64 0) :=
  ⟨h.r.at 0 _ rfl, h.r.at 1 _ rfl, h.r.at 2 _ rfl, h.r.at 3 _ rfl, h.r.at 4 _ rfl, h.r.at 5 _ rfl, h.r.at 6 _ rfl, h.r.at 7 _ rfl, h.r.at 8 _ rfl, h.r.at 9 _ rfl, h.r.at 10 _ rfl, h.r.at 11 _ rfl, h.r.at 12 _ rfl, h.r.at 13 _ rfl, h.r.at 14 _ rfl, h.r.at 15 _ rfl⟩
theorem SmW.alls {w W : World} {x : Sd} {l : List UInt8} {v : Value} (h : SmW w x l v W) (y : Sd) : (W.setCells (w.heap.size + 1) 0 (scs y)).cell? ⟨w.heap.size, 0, none⟩ = some (.int .u16 x.a.p) ∧ (W.setCells (w.heap.size + 1) 0 (scs y)).cell? ⟨w.heap.size, 1, none⟩ = some (.int .u16 x.a.c) ∧ (W.setCells (w.heap.size + 1) 0 (scs y)).cell? ⟨w.heap.size, 2, none⟩ = some (.int .u8 x.a.l) ∧ (W.setCells (w.heap.size + 1) 0 (scs y)).cell? ⟨w.heap.size, 3, none⟩ = some (.bool x.a.h) ∧ (W.setCells (w.heap.size + 1) 0 (scs y)).cell? ⟨w.heap.size, 4, none⟩ = some (.int .u16 x.a.n) ∧ (W.setCells (w.heap.size + 1) 0 (scs y)).cell? ⟨w.heap.size, 5, none⟩ = some (.int .u16 x.b.p) ∧ (W.setCells (w.heap.size + 1) 0 (scs y)).cell? ⟨w.heap.size, 6, none⟩ = some (.int .u16 x.b.c) ∧ (W.setCells (w.heap.size + 1) 0 (scs y)).cell? ⟨w.heap.size, 7, none⟩ = some (.int .u8 x.b.l) ∧ (W.setCells (w.heap.size + 1) 0 (scs y)).cell? ⟨w.heap.size, 8, none⟩ = some (.bool x.b.h) ∧ (W.setCells (w.heap.size + 1) 0 (scs y)).cell? ⟨w.heap.size, 9, none⟩ = some (.int .u16 x.b.n) ∧ (W.setCells (w.heap.size + 1) 0 (scs y)).cell? ⟨w.heap.size, 10, none⟩ = some (.int .u16 x.c.p) ∧ (W.setCells (w.heap.size + 1) 0 (scs y)).cell? ⟨w.heap.size, 11, none⟩ = some (.int .u16 x.c.c) ∧ (W.setCells (w.heap.size + 1) 0 (scs y)).cell? ⟨w.heap.size, 12, none⟩ = some (.int .u8 x.c.l) ∧ (W.setCells (w.heap.size + 1) 0 (scs y)).cell? ⟨w.heap.size, 13, none⟩ = some (.bool x.c.h) ∧ (W.setCells (w.heap.size + 1) 0 (scs y)).cell? ⟨w.heap.size, 14, none⟩ = some (.int .u16 x.c.n) ∧ (W.setCells (w.heap.size + 1) 0 (scs y)).cell? ⟨w.heap.size, 15, none⟩ = some (.int .i64 x.w) :=
  ⟨(h.b.fars (b' := w.heap.size + 1) (by omega) 0 (scs y)).at 0 _ rfl, (h.b.fars (b' := w.heap.size + 1) (by omega) 0 (scs y)).at 1 _ rfl, (h.b.fars (b' := w.heap.size + 1) (by omega) 0 (scs y)).at 2 _ rfl, (h.b.fars (b' := w.heap.size + 1) (by omega) 0 (scs y)).at 3 _ rfl, (h.b.fars (b' := w.heap.size + 1) (by omega) 0 (scs y)).at 4 _ rfl, (h.b.fars (b' := w.heap.size + 1) (by omega) 0 (scs y)).at 5 _ rfl, (h.b.fars (b' := w.heap.size + 1) (by omega) 0 (scs y)).at 6 _ rfl, (h.b.fars (b' := w.heap.size + 1) (by omega) 0 (scs y)).at 7 _ rfl, (h.b.fars (b' := w.heap.size + 1) (by omega) 0 (scs y)).at 8 _ rfl, (h.b.fars (b' := w.heap.size + 1) (by omega) 0 (scs y)).at 9 _ rfl, (h.b.fars (b' := w.heap.size + 1) (by omega) 0 (scs y)).at 10 _ rfl, (h.b.fars (b' := w.heap.size + 1) (by omega) 0 (scs y)).at 11 _ rfl, (h.b.fars (b' := w.heap.size + 1) (by omega) 0 (scs y)).at 12 _ rfl, (h.b.fars (b' := w.heap.size + 1) (by omega) 0 (scs y)).at 13 _ rfl, (h.b.fars (b' := w.heap.size + 1) (by omega) 0 (scs y)).at 14 _ rfl, (h.b.fars (b' := w.heap.size + 1) (by omega) 0 (scs y)).at 15 _ rfl⟩
theorem SmW.drew {w W : World} {x : Sd} {l : List UInt8} {v : Value} (h : SmW w x l v W) : SmW w x l v W.drew := ⟨h.low.drew, h.b.drew, h.r.drew, own_kept h.o (st0 W).drew⟩
theorem SmW.alls' {w W : World} {x : Sd} {l : List UInt8} {v : Value} (h : SmW w x l v W) (y : Sd) : (W.setCells (w.heap.size + 1) 0 (scs y)).drew.cell? ⟨w.heap.size, 0, none⟩ = some (.int .u16 x.a.p) ∧ (W.setCells (w.heap.size + 1) 0 (scs y)).drew.cell? ⟨w.heap.size, 1, none⟩ = some (.int .u16 x.a.c) ∧ (W.setCells (w.heap.size + 1) 0 (scs y)).drew.cell? ⟨w.heap.size, 2, none⟩ = some (.int .u8 x.a.l) ∧ (W.setCells (w.heap.size + 1) 0 (scs y)).drew.cell? ⟨w.heap.size, 3, none⟩ = some (.bool x.a.h) ∧ (W.setCells (w.heap.size + 1) 0 (scs y)).drew.cell? ⟨w.heap.size, 4, none⟩ = some (.int .u16 x.a.n) ∧ (W.setCells (w.heap.size + 1) 0 (scs y)).drew.cell? ⟨w.heap.size, 5, none⟩ = some (.int .u16 x.b.p) ∧ (W.setCells (w.heap.size + 1) 0 (scs y)).drew.cell? ⟨w.heap.size, 6, none⟩ = some (.int .u16 x.b.c) ∧ (W.setCells (w.heap.size + 1) 0 (scs y)).drew.cell? ⟨w.heap.size, 7, none⟩ = some (.int .u8 x.b.l) ∧ (W.setCells (w.heap.size + 1) 0 (scs y)).drew.cell? ⟨w.heap.size, 8, none⟩ = some (.bool x.b.h) ∧ (W.setCells (w.heap.size + 1) 0 (scs y)).drew.cell? ⟨w.heap.size, 9, none⟩ = some (.int .u16 x.b.n) ∧ (W.setCells (w.heap.size + 1) 0 (scs y)).drew.cell? ⟨w.heap.size, 10, none⟩ = some (.int .u16 x.c.p) ∧ (W.setCells (w.heap.size + 1) 0 (scs y)).drew.cell? ⟨w.heap.size, 11, none⟩ = some (.int .u16 x.c.c) ∧ (W.setCells (w.heap.size + 1) 0 (scs y)).drew.cell? ⟨w.heap.size, 12, none⟩ = some (.int .u8 x.c.l) ∧ (W.setCells (w.heap.size + 1) 0 (scs y)).drew.cell? ⟨w.heap.size, 13, none⟩ = some (.bool x.c.h) ∧ (W.setCells (w.heap.size + 1) 0 (scs y)).drew.cell? ⟨w.heap.size, 14, none⟩ = some (.int .u16 x.c.n) ∧ (W.setCells (w.heap.size + 1) 0 (scs y)).drew.cell? ⟨w.heap.size, 15, none⟩ = some (.int .i64 x.w) :=
  ⟨(h.b.fars (b' := w.heap.size + 1) (by omega) 0 (scs y)).drew.at 0 _ rfl, (h.b.fars (b' := w.heap.size + 1) (by omega) 0 (scs y)).drew.at 1 _ rfl, (h.b.fars (b' := w.heap.size + 1) (by omega) 0 (scs y)).drew.at 2 _ rfl, (h.b.fars (b' := w.heap.size + 1) (by omega) 0 (scs y)).drew.at 3 _ rfl, (h.b.fars (b' := w.heap.size + 1) (by omega) 0 (scs y)).drew.at 4 _ rfl, (h.b.fars (b' := w.heap.size + 1) (by omega) 0 (scs y)).drew.at 5 _ rfl, (h.b.fars (b' := w.heap.size + 1) (by omega) 0 (scs y)).drew.at 6 _ rfl, (h.b.fars (b' := w.heap.size + 1) (by omega) 0 (scs y)).drew.at 7 _ rfl, (h.b.fars (b' := w.heap.size + 1) (by omega) 0 (scs y)).drew.at 8 _ rfl, (h.b.fars (b' := w.heap.size + 1) (by omega) 0 (scs y)).drew.at 9 _ rfl, (h.b.fars (b' := w.heap.size + 1) (by omega) 0 (scs y)).drew.at 10 _ rfl, (h.b.fars (b' := w.heap.size + 1) (by omega) 0 (scs y)).drew.at 11 _ rfl, (h.b.fars (b' := w.heap.size + 1) (by omega) 0 (scs y)).drew.at 12 _ rfl, (h.b.fars (b' := w.heap.size + 1) (by omega) 0 (scs y)).drew.at 13 _ rfl, (h.b.fars (b' := w.heap.size + 1) (by omega) 0 (scs y)).drew.at 14 _ rfl, (h.b.fars (b' := w.heap.size + 1) (by omega) 0 (scs y)).drew.at 15 _ rfl⟩
theorem nest16 (W : World) (b : Nat) (x : Sd) : ((((((((((((((((W.setCell ⟨b, 0, none⟩ (.int .u16 x.a.p)).setCell ⟨b, 1, none⟩ (.int .u16 x.a.c)).setCell ⟨b, 2, none⟩ (.int .u8 x.a.l)).setCell ⟨b, 3, none⟩ (.bool x.a.h)).setCell ⟨b, 4, none⟩ (.int .u16 x.a.n)).setCell ⟨b, 5, none⟩ (.int .u16 x.b.p)).setCell ⟨b, 6, none⟩ (.int .u16 x.b.c)).setCell ⟨b, 7, none⟩ (.int .u8 x.b.l)).setCell ⟨b, 8, none⟩ (.bool x.b.h)).setCell ⟨b, 9, none⟩ (.int .u16 x.b.n)).setCell ⟨b, 10, none⟩ (.int .u16 x.c.p)).setCell ⟨b, 11, none⟩ (.int .u16 x.c.c)).setCell ⟨b, 12, none⟩ (.int .u8 x.c.l)).setCell ⟨b, 13, none⟩ (.bool x.c.h)).setCell ⟨b, 14, none⟩ (.int .u16 x.c.n)).setCell ⟨b, 15, none⟩ (.int .i64 x.w)) = W.setCells b 0 (scs x) := rfl
theorem sliceAt.drew {W : World} {v : Value} {l : List UInt8} (h : sliceAt W v l) : sliceAt W.drew v l := h
set_option maxHeartbeats 6400000 in
theorem samples_ok (s : Sd) (N : Nat) (w : World) (h : s.fit) (hn : N ≤ 20000) :
    Calls Tryz.prog 48 #[(.agg #[.int .u16 s.a.p, .int .u16 s.a.c, .int .u8 s.a.l, .bool s.a.h, .int .u16 s.a.n, .int .u16 s.b.p, .int .u16 s.b.c, .int .u8 s.b.l, .bool s.b.h, .int .u16 s.b.n, .int .u16 s.c.p, .int .u16 s.c.c, .int .u8 s.c.l, .bool s.c.h, .int .u16 s.c.n, .int .i64 s.w]), .int .i64 N] w fun e w' => ∃ v, e = .returned (.tuple #[v, (.agg #[.int .u16 (s.ticks N).a.p, .int .u16 (s.ticks N).a.c, .int .u8 (s.ticks N).a.l, .bool (s.ticks N).a.h, .int .u16 (s.ticks N).a.n, .int .u16 (s.ticks N).b.p, .int .u16 (s.ticks N).b.c, .int .u8 (s.ticks N).b.l, .bool (s.ticks N).b.h, .int .u16 (s.ticks N).b.n, .int .u16 (s.ticks N).c.p, .int .u16 (s.ticks N).c.c, .int .u8 (s.ticks N).c.l, .bool (s.ticks N).c.h, .int .u16 (s.ticks N).c.n, .int .i64 (s.ticks N).w]), .int .i64 0]) ∧ sliceAt w' v (sms s N) ∧ Below w.heap.size w w' := by
  have hm := may_any N
  rw [decide_eq_true (show 0 ≤ (N : Int) ∧ (N : Int) ≤ 20000 by omega)] at hm
  have i0 := v3_0
  have i1 := v3_1
  have i2 := v3_2
  go_enter Tryz.func48, Tryz.ntmps48
  go_wp2_with (first
    | (go_at_call 75; refine (Lncheck_ok s _ h.w).mono ?_; rintro e w0 ⟨rfl, hb0⟩)
    | (go_at_call 76; refine (hm _).mono ?_; rintro e w9 ⟨rfl, rfl⟩))
  have HS0 : Hid (SmW w s [] (.slice none 0 0) w0) := (⟨stA (stA (st0 w) _) _, (Bx.new w (scs s) _ rfl).over _, Bx.new _ zs _ (by simp), ⟨rfl, Or.inl ⟨rfl, rfl⟩⟩⟩ : SmW w s [] (.slice none 0 0) _).kept hb0
  clear hb0 hm
  go_loopw [1, 4] (fun n v wr => ∃ k : Nat, k ≤ N ∧ n = .int .i64 (N - k : Int) ∧ SmW w (s.ticks k) (sms s k) v wr) (fun n _ _ => (intOf n).toNat)
  case atStart => exact ⟨0, Nat.zero_le _, by simp, HS0.out⟩
  case round =>
    clear HS0
    obtain ⟨k, hk, rfl, hA⟩ := hrel
    have HF := hid (Sd.ticks_fit h k)
    have HL := hid (sms_len s k)
    by_cases h8 : k < N
    · have h8' : (0 : Int) < (N : Int) - k := by omega
      have hwt := wt_bd HF.out
      obtain ⟨m, hm0⟩ : ∃ m : Int, m = min ((N : Int) - k) (wt (s.ticks k)) := ⟨_, rfl⟩
      have hmm : 0 ≤ m ∧ m ≤ 20000 := by omega
      have hm1 : 1 ≤ m := by omega
      have hm2 : m ≤ wt (s.ticks k) := by omega
      have hm3 : m ≤ (N : Int) - k := by omega
      generalize hx : s.ticks k = x at *
      generalize hL : sms s k = L at *
      have HX := hid hx
      have HLL := hid hL
      clear hx hL
      have HA := hid hA
      obtain ⟨c0, c1, c2, c3, c4, c5, c6, c7, c8, c9, c10, c11, c12, c13, c14, c15⟩ := hA.all
      have tz := hA.b.z
      have tf := hA.b.f
      have l3 := load3 hA.b
      clear hA
      by_cases hz : x.w = 0
      · -- a sample
        have hwt0 : wt x = 16 := by unfold wt; rw [if_pos hz]
        have hone : one x = [sm x] := by unfold one; rw [if_pos hz]
        have HO := hid hone
        have HW0 := hid hwt0
        rw [hwt0] at hm0
        have HM0 := hid hm0
        have hsm := (sm_nat x).symm
        have HLB : Hid (L.length ≤ 50000) := by have := HL.out; exact Nat.le_trans this (by omega)
        have HSM := hid hsm
        have HZ := hid hz
        clear hone hwt0 hsm hm0
        rw [hz] at c15
        clear hz
        go_wp2_with (first
          | (go_at_call 77; refine (sample_any x _ HF.out.k).mono ?_; rintro e w3 ⟨rfl, hb3⟩; have HA3 := hid (HA.out.kept hb3); have own3 := hid (HA3.out.over (.cells #[.int .u8 (smI x)] 5)))
          | (at_builtin; refine app1 (by rfl) _ _ (by rfl) (w.heap.size + 2) _ L (by rfl) own3.out.o w3.heap.size 1 (sm x) (smI x) (by rfl) (Pl.new _ _ _ _ rfl) HSM.out HLB.out own3.out.r.z ?_; intro v' w' hown' hb'; have HA4 := hid (own3.out.app hb' hown'); obtain ⟨c0, c1, c2, c3, c4, c5, c6, c7, c8, c9, c10, c11, c12, c13, c14, c15⟩ := HA4.out.all; have tz := HA4.out.b.z; have tf := HA4.out.b.f; have l3' := load3 (HA4.out.wait 16).b))
        rw [← HM0.out]
        go_loopw [39] (fun i wr => (i = .int .i64 0 ∧ SmW w ⟨x.a, x.b, x.c, wt x⟩ (L ++ one x) v' wr) ∨ (i = .int .i64 1 ∧ SmW w ⟨x.a.later m, x.b, x.c, wt x⟩ (L ++ one x) v' wr) ∨ (i = .int .i64 2 ∧ SmW w ⟨x.a.later m, x.b.later m, x.c, wt x⟩ (L ++ one x) v' wr) ∨ (i = .int .i64 3 ∧ SmW w ⟨x.a.later m, x.b.later m, x.c.later m, wt x⟩ (L ++ one x) v' wr)) (fun i _ => 3 - (intOf i).toNat)
        case atStart => exact Or.inl ⟨rfl, by rw [HO.out, HW0.out]; exact HA4.out.wait 16⟩
        case round =>
          clear HA HA3 HA4 own3 l3 l3' c0 c1 c2 c3 c4 c5 c6 c7 c8 c9 c10 c11 c12 c13 c14 c15 tz tf hown' hb' hb3
          rcases hrel with ⟨rfl, hS⟩ | ⟨rfl, hS⟩ | ⟨rfl, hS⟩ | ⟨rfl, hS⟩
          · obtain ⟨c0, c1, c2, c3, c4, c5, c6, c7, c8, c9, c10, c11, c12, c13, c14, c15⟩ := hS.all
            have tz := hS.b.z
            have tf := hS.b.f
            have HS := hid hS
            clear hS
            go_wp2_with (go_at_call 78; refine (latV x.a m _ HF.out.a hmm).mono ?_; rintro e w5 ⟨rfl, hb5⟩; have HS5 := hid ((HS.out.over _).kept hb5); obtain ⟨c0, c1, c2, c3, c4, c5, c6, c7, c8, c9, c10, c11, c12, c13, c14, c15⟩ := HS5.out.all; have tz := HS5.out.b.z; have tf := HS5.out.b.f)
            exact ⟨Or.inr (Or.inl ⟨rfl, HS5.out.v0 _⟩), by decide⟩
          · obtain ⟨c0, c1, c2, c3, c4, c5, c6, c7, c8, c9, c10, c11, c12, c13, c14, c15⟩ := hS.all
            have tz := hS.b.z
            have tf := hS.b.f
            have HS := hid hS
            clear hS
            go_wp2_with (go_at_call 78; refine (latV x.b m _ HF.out.b hmm).mono ?_; rintro e w5 ⟨rfl, hb5⟩; have HS5 := hid ((HS.out.over _).kept hb5); obtain ⟨c0, c1, c2, c3, c4, c5, c6, c7, c8, c9, c10, c11, c12, c13, c14, c15⟩ := HS5.out.all; have tz := HS5.out.b.z; have tf := HS5.out.b.f)
            exact ⟨Or.inr (Or.inr (Or.inl ⟨rfl, HS5.out.v1 _⟩)), by decide⟩
          · obtain ⟨c0, c1, c2, c3, c4, c5, c6, c7, c8, c9, c10, c11, c12, c13, c14, c15⟩ := hS.all
            have tz := hS.b.z
            have tf := hS.b.f
            have HS := hid hS
            clear hS
            go_wp2_with (go_at_call 78; refine (latV x.c m _ HF.out.c hmm).mono ?_; rintro e w5 ⟨rfl, hb5⟩; have HS5 := hid ((HS.out.over _).kept hb5); obtain ⟨c0, c1, c2, c3, c4, c5, c6, c7, c8, c9, c10, c11, c12, c13, c14, c15⟩ := HS5.out.all; have tz := HS5.out.b.z; have tf := HS5.out.b.f)
            exact ⟨Or.inr (Or.inr (Or.inr ⟨rfl, HS5.out.v2 _⟩)), by decide⟩
          · have c15 := hS.w15
            have tz := hS.b.z
            have tf := hS.b.f
            have HS := hid hS
            clear hS
            go_wp2
            go_roundw
            case rel =>
              obtain ⟨e1, e2⟩ := step_eq (mN := m.toNat) HX.out HLL.out HF.out (by omega) hm1 hm2
              refine ⟨k + m.toNat, by omega, ?_, ?_⟩
              · congr 1; omega
              · rw [e1, e2]; exact HS.out.wait _
            case measure => simp [intOf]; omega
      · -- none
        have hz' : (x.w == 0) = false := by simpa using hz
        have hwt0 : wt x = x.w := by unfold wt; rw [if_neg hz]
        have hone : one x = [] := by unfold one; rw [if_neg hz]
        have HO := hid hone
        have HW0 := hid hwt0
        rw [hwt0] at hm0
        have HM0 := hid hm0
        clear hz hone hwt0 hm0
        go_wp2
        rw [← HM0.out]
        go_loopw [39] (fun i wr => (i = .int .i64 0 ∧ SmW w ⟨x.a, x.b, x.c, wt x⟩ (L ++ one x) u4 wr) ∨ (i = .int .i64 1 ∧ SmW w ⟨x.a.later m, x.b, x.c, wt x⟩ (L ++ one x) u4 wr) ∨ (i = .int .i64 2 ∧ SmW w ⟨x.a.later m, x.b.later m, x.c, wt x⟩ (L ++ one x) u4 wr) ∨ (i = .int .i64 3 ∧ SmW w ⟨x.a.later m, x.b.later m, x.c.later m, wt x⟩ (L ++ one x) u4 wr)) (fun i _ => 3 - (intOf i).toNat)
        case atStart => exact Or.inl ⟨rfl, by rw [HO.out, HW0.out, List.append_nil]; exact HA.out⟩
        case round =>
          clear HA l3 c0 c1 c2 c3 c4 c5 c6 c7 c8 c9 c10 c11 c12 c13 c14 c15 tz tf
          rcases hrel with ⟨rfl, hS⟩ | ⟨rfl, hS⟩ | ⟨rfl, hS⟩ | ⟨rfl, hS⟩
          · obtain ⟨c0, c1, c2, c3, c4, c5, c6, c7, c8, c9, c10, c11, c12, c13, c14, c15⟩ := hS.all
            have tz := hS.b.z
            have tf := hS.b.f
            have HS := hid hS
            clear hS
            go_wp2_with (go_at_call 78; refine (latV x.a m _ HF.out.a hmm).mono ?_; rintro e w5 ⟨rfl, hb5⟩; have HS5 := hid ((HS.out.over _).kept hb5); obtain ⟨c0, c1, c2, c3, c4, c5, c6, c7, c8, c9, c10, c11, c12, c13, c14, c15⟩ := HS5.out.all; have tz := HS5.out.b.z; have tf := HS5.out.b.f)
            exact ⟨Or.inr (Or.inl ⟨rfl, HS5.out.v0 _⟩), by decide⟩
          · obtain ⟨c0, c1, c2, c3, c4, c5, c6, c7, c8, c9, c10, c11, c12, c13, c14, c15⟩ := hS.all
            have tz := hS.b.z
            have tf := hS.b.f
            have HS := hid hS
            clear hS
            go_wp2_with (go_at_call 78; refine (latV x.b m _ HF.out.b hmm).mono ?_; rintro e w5 ⟨rfl, hb5⟩; have HS5 := hid ((HS.out.over _).kept hb5); obtain ⟨c0, c1, c2, c3, c4, c5, c6, c7, c8, c9, c10, c11, c12, c13, c14, c15⟩ := HS5.out.all; have tz := HS5.out.b.z; have tf := HS5.out.b.f)
            exact ⟨Or.inr (Or.inr (Or.inl ⟨rfl, HS5.out.v1 _⟩)), by decide⟩
          · obtain ⟨c0, c1, c2, c3, c4, c5, c6, c7, c8, c9, c10, c11, c12, c13, c14, c15⟩ := hS.all
            have tz := hS.b.z
            have tf := hS.b.f
            have HS := hid hS
            clear hS
            go_wp2_with (go_at_call 78; refine (latV x.c m _ HF.out.c hmm).mono ?_; rintro e w5 ⟨rfl, hb5⟩; have HS5 := hid ((HS.out.over _).kept hb5); obtain ⟨c0, c1, c2, c3, c4, c5, c6, c7, c8, c9, c10, c11, c12, c13, c14, c15⟩ := HS5.out.all; have tz := HS5.out.b.z; have tf := HS5.out.b.f)
            exact ⟨Or.inr (Or.inr (Or.inr ⟨rfl, HS5.out.v2 _⟩)), by decide⟩
          · have c15 := hS.w15
            have tz := hS.b.z
            have tf := hS.b.f
            have HS := hid hS
            clear hS
            go_wp2
            go_roundw
            case rel =>
              obtain ⟨e1, e2⟩ := step_eq (mN := m.toNat) HX.out HLL.out HF.out (by omega) hm1 hm2
              refine ⟨k + m.toNat, by omega, ?_, ?_⟩
              · congr 1; omega
              · rw [e1, e2]; exact HS.out.wait _
            case measure => simp [intOf]; omega
    · -- all clocks are over
      obtain rfl : k = N := by omega
      have HA := hid hA
      have tz := hA.r.z
      have tf := hA.r.f
      obtain ⟨r0, r1, r2, r3, r4, r5, r6, r7, r8, r9, r10, r11, r12, r13, r14, r15⟩ := hA.allr
      obtain ⟨c0, c1, c2, c3, c4, c5, c6, c7, c8, c9, c10, c11, c12, c13, c14, c15⟩ := hA.all
      have HK0 := hid hA.all
      have HK1 := hid hA.drew.all
      have HK2 := hid (hA.alls (s.ticks k))
      have HK3 := hid (hA.alls' (s.ticks k))
      have HK4 := hid (hA.drew.alls (s.ticks k))
      clear hA
      go_wp2
      go_region_held3 (fun w' => w'.cell? ⟨w.heap.size, 0, none⟩ = some (.int .u16 (s.ticks k).a.p) ∧ w'.cell? ⟨w.heap.size, 1, none⟩ = some (.int .u16 (s.ticks k).a.c) ∧ w'.cell? ⟨w.heap.size, 2, none⟩ = some (.int .u8 (s.ticks k).a.l) ∧ w'.cell? ⟨w.heap.size, 3, none⟩ = some (.bool (s.ticks k).a.h) ∧ w'.cell? ⟨w.heap.size, 4, none⟩ = some (.int .u16 (s.ticks k).a.n) ∧ w'.cell? ⟨w.heap.size, 5, none⟩ = some (.int .u16 (s.ticks k).b.p) ∧ w'.cell? ⟨w.heap.size, 6, none⟩ = some (.int .u16 (s.ticks k).b.c) ∧ w'.cell? ⟨w.heap.size, 7, none⟩ = some (.int .u8 (s.ticks k).b.l) ∧ w'.cell? ⟨w.heap.size, 8, none⟩ = some (.bool (s.ticks k).b.h) ∧ w'.cell? ⟨w.heap.size, 9, none⟩ = some (.int .u16 (s.ticks k).b.n) ∧ w'.cell? ⟨w.heap.size, 10, none⟩ = some (.int .u16 (s.ticks k).c.p) ∧ w'.cell? ⟨w.heap.size, 11, none⟩ = some (.int .u16 (s.ticks k).c.c) ∧ w'.cell? ⟨w.heap.size, 12, none⟩ = some (.int .u8 (s.ticks k).c.l) ∧ w'.cell? ⟨w.heap.size, 13, none⟩ = some (.bool (s.ticks k).c.h) ∧ w'.cell? ⟨w.heap.size, 14, none⟩ = some (.int .u16 (s.ticks k).c.n) ∧ w'.cell? ⟨w.heap.size, 15, none⟩ = some (.int .i64 (s.ticks k).w))
        (first
          | with_reducible exact HK0.out
          | with_reducible exact HK1.out
          | (rw [nest16]; with_reducible exact HK2.out)
          | (rw [nest16]; with_reducible exact HK3.out)
          | (rw [nest16]; with_reducible exact HK4.out))
        (fail)
      go_wp2
      rw [nest16]
      refine Pl.cutB (fun W => Below w.heap.size w W ∧ Bx W (w.heap.size + 1) (scs (s.ticks k)) ∧ sliceAt W u4 (sms s k)) ⟨?_, ?_, ?_⟩ ?_
      · exact (Bl.puts HA.out.low (by omega) _).drew
      · exact (HA.out.r.puts 0 (scs (s.ticks k)) (by simp)).drew
      · exact (slice_of_own (own_fars (by omega) _ 0 HA.out.o)).drew
      rintro W ⟨hlow, hbox, hsl⟩
      have hl := loadS hbox
      refine bodyPost_ret (v := .tuple #[u4, (.agg #[.int .u16 (s.ticks k).a.p, .int .u16 (s.ticks k).a.c, .int .u8 (s.ticks k).a.l, .bool (s.ticks k).a.h, .int .u16 (s.ticks k).a.n, .int .u16 (s.ticks k).b.p, .int .u16 (s.ticks k).b.c, .int .u8 (s.ticks k).b.l, .bool (s.ticks k).b.h, .int .u16 (s.ticks k).b.n, .int .u16 (s.ticks k).c.p, .int .u16 (s.ticks k).c.c, .int .u8 (s.ticks k).c.l, .bool (s.ticks k).c.h, .int .u16 (s.ticks k).c.n, .int .i64 (s.ticks k).w]), .int .i64 0]) ?_ rfl ⟨_, rfl, hsl, hlow⟩
      simp only [results, Tryz.results48]
      simp
      show (Result.andThen (Sem.run Tryz.prog (loadVar 36 ⟨w.heap.size + 1, 0, none⟩) W) _) = _
      rw [hl]
      rfl
theorem there16 {W : World} {b : Nat} (h : Bx W b zs) : W.there b 0 16 := h.there 0 16 (by simp)
theorem all16 (x : Sd) : (#[.int .u16 x.a.p, .int .u16 x.a.c, .int .u8 x.a.l, .bool x.a.h, .int .u16 x.a.n, .int .u16 x.b.p, .int .u16 x.b.c, .int .u8 x.b.l, .bool x.b.h, .int .u16 x.b.n, .int .u16 x.c.p, .int .u16 x.c.c, .int .u8 x.c.l, .bool x.c.h, .int .u16 x.c.n, .int .i64 x.w] : Array Value).all (·.oneCell') = true := by simp [Value.oneCell']
end Go.Proofs.YtdgeghlilkbboaaGreatDoor
