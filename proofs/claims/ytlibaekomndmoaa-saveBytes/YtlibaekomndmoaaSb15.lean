/-
  Parts of a proof, joined.
-/
import Derived.Test.YtlibaekomndmoaaSb07
namespace Go.Proofs.Ytlibaekomndmoaa
open Go.ChangeShapes Go.WideShapes Go.ChangeAt Go.RowKit
set_option linter.unusedVariables false
set_option maxRecDepth 100000
section
variable {g : Nat} {ys : List UInt8} {v1 : Value} {wr : World}
structure TwoB (wr : World) (x y : Nat) (a b : Value) (Y : World) : Prop where
  low : Below wr.heap.size wr Y
  cx : Y.cell? ⟨x, 0, none⟩ = some a
  cy : Y.cell? ⟨y, 0, none⟩ = some b
  hx : wr.heap.size ≤ x
  hy : wr.heap.size ≤ y
theorem TwoB.a (wr : World) (a b : Value) (t : TypeId) : TwoB wr wr.heap.size (wr.heap.size + 1) a b (((wr.alloc (.cells #[a] t)).alloc (.cells #[b] t)).drew) :=
  ⟨(stA (stA (st0 wr) _) _).drew, cell_over _ _ ((cell_new _ _ _ _ _ rfl).trans rfl), (cell_new _ _ _ _ _ (by simp)).trans rfl, Nat.le_refl _, by omega⟩
theorem TwoB.b (wr : World) (a b : Value) (t : TypeId) : TwoB wr (wr.heap.size + 1) wr.heap.size a b (((wr.alloc (.cells #[b] t)).alloc (.cells #[a] t)).drew) :=
  ⟨(stA (stA (st0 wr) _) _).drew, (cell_new _ _ _ _ _ (by simp)).trans rfl, cell_over _ _ ((cell_new _ _ _ _ _ rfl).trans rfl), by omega, Nat.le_refl _⟩
theorem Sv.two2 (K : Kd) (f : Nat) (c d : Ct) (t2 : TypeId) (hkc : c.kd = K) (hoc : c.ok) (hkd : d.kd = K) (hod : d.ok) (h : Wr g ys v1 wr) (x y : Nat) (Y : World) (hY : TwoB wr x y c.val d.val Y)
    (H : ∀ (k cap : Nat) (ps : List Pc) (W : World), Wr g ys v1 W → ¬ Tw g v1 k → (∀ j p, ps[j]? = some p → Pc.at K (Tw g v1) k j W p) → ps = [⟨x, 0, c⟩, ⟨y, 0, d⟩] → Calls Try.prog f #[pt g 0, .slice (some ⟨k, 0, none⟩) ps.length cap] W fun e w' => e = .returned (.tuple #[]) ∧ ∃ v', Wr g (ys ++ wrL (cts ps)) v' w' ∧ Mv g (Tw g v1) (Tw g v') W w') :
    Calls Try.prog f #[pt g 0, .slice (some ⟨Y.heap.size, 0, none⟩) 2 2] (Y.alloc (.cells #[pt x 0, pt y 0] t2)) fun e w' => e = .returned (.tuple #[]) ∧ ∃ v', Wr g (ys ++ (c.wr ++ d.wr)) v' w' ∧ Mv g (Tw g v1) (Tw g v') wr w' := by
  have hYs := hY.low.size
  refine (H Y.heap.size 2 [⟨x, 0, c⟩, ⟨y, 0, d⟩] _ ((h.kept hY.low).over _) (h.new hYs) (fun j p hj => ?_) rfl).mono fun e w' ⟨he, v', h1, h2⟩ => ⟨he, v', ?_, ?_⟩
  · match j, hj with
    | 0, hj =>
      simp only [List.getElem?_cons_zero, Option.some.injEq] at hj
      subst hj
      exact ⟨(cell_new _ _ _ _ _ rfl).trans rfl, cell_over _ _ hY.cx, h.new hY.hx, hoc, hkc⟩
    | 1, hj =>
      simp only [List.getElem?_cons_zero, List.getElem?_cons_succ, Option.some.injEq] at hj
      subst hj
      exact ⟨(cell_new _ _ _ _ _ rfl).trans rfl, cell_over _ _ hY.cy, h.new hY.hy, hod, hkd⟩
  · rw [show cts [⟨x, 0, c⟩, ⟨y, 0, d⟩] = [c, d] from rfl, show wrL [c, d] = c.wr ++ d.wr by simp [wrL]] at h1
    exact h1
  · exact (Mv.of_below (Nat.le_of_lt h.b.z) (stA hY.low _)).trans h2
end
set_option maxHeartbeats 1600000 in
theorem Sv.wnumbers (g k cap : Nat) (xs : List UInt8) (v : Value) (ps : List Pc) (W : World) (h : Wr g xs v W) (hk : ¬ Tw g v k) (hp : ∀ j p, ps[j]? = some p → Pc.at .num (Tw g v) k j W p) (hl : xs.length + 4 * ps.length ≤ 50000) :
    Calls Try.prog 106 #[pt g 0, .slice (some ⟨k, 0, none⟩) ps.length cap] W fun e w' => e = .returned (.tuple #[]) ∧ ∃ v', Wr g (xs ++ wrL (cts ps)) v' w' ∧ Mv g (Tw g v) (Tw g v') W w' := by
  have H := hid h
  have HP := hid hp
  have HK := hid hk
  clear h hp hk
  go_enter Try.func106, Try.ntmps106
  go_wp2
  go_loopw [10] (fun i wr => ∃ (j : Nat) (v1 : Value), j ≤ ps.length ∧ i = .int .i64 j ∧ Wr g (xs ++ wrL (cts (ps.take j))) v1 wr ∧ Mv g (Tw g v) (Tw g v1) W wr) (fun i _ => ps.length - (intOf i).toNat)
  case atStart => exact ⟨0, v, Nat.zero_le _, rfl, by simpa [cts, wrL] using H.out, Mv.refl _ _ _⟩
  case round =>
    obtain ⟨j, v1, hj, rfl, hR, hM⟩ := hrel
    obtain ⟨ys, hys⟩ : ∃ ys, ys = xs ++ wrL (cts (ps.take j)) := ⟨_, rfl⟩
    rw [← hys] at hR
    by_cases hlt : j < ps.length
    · obtain ⟨p, hpj⟩ : ∃ p, ps[j]? = some p := ⟨_, List.getElem?_eq_getElem hlt⟩
      have hq := HP.out j p hpj
      have hkz : k < W.heap.size := World.block_lt_of_cell? W _ hq.q
      have hpz : p.b < W.heap.size := World.block_lt_of_cell? W _ hq.v
      have c2 : wr.cell? ⟨k, j, none⟩ = some (pt p.b p.o) := (hM.cell hkz HK.out j).trans hq.q
      obtain ⟨n, hn⟩ := kd_num hq.kd
      have c1 : wr.cell? ⟨p.b, p.o, none⟩ = some (.int .i64 n) := ((hM.cell hpz hq.t p.o).trans hq.v).trans (by rw [hn]; rfl)
      have hkz2 := Nat.lt_of_lt_of_le hkz hM.size
      have hpz2 := Nat.lt_of_lt_of_le hpz hM.size
      have hyl : ys.length + 4 ≤ 50000 := by
        rw [hys, List.length_append, wrL_len (K := .num) (by intro h; cases h) _ (cts_kd HP.out j)]
        simp only [cts, List.length_map, List.length_take, Kd.len]
        omega
      have hys2 : xs ++ wrL (cts (ps.take (j + 1))) = ys ++ (Ct.num n).wr := by rw [hys, cts_succ hpj, wrL_app, wrL_one, hn, List.append_assoc]
      have HYS := hid hys2
      have hok := hq.ok
      rw [hn] at hok
      have hgz := hR.b.z
      have HR := hid hR
      have HM := hid hM
      have hjl : (j : Int) < ps.length := by omega
      have hj0 : (0 : Int) ≤ j := by omega
      have hpl : (ps.length : Int) ≤ 50000 := by omega
      have hb : 0 ≤ n ∧ n ≤ 4294967295 := hok
      obtain ⟨hb0, hb1⟩ := hb
      have hw1 : IntKind.u16.wrap (n / 65536) = n / 65536 := by rw [IntKind.wrap_u16]; omega
      have hw2 : IntKind.u16.wrap n = n % 65536 := by rw [IntKind.wrap_u16]
      clear hq hR hM hys hys2 hpj hn
      go_upto_region 3 with fail
      go_cut [6, 7, 8, 9, 10] (fun v6 v7 v8 v9 v10 Y => v8 = .slice (some ⟨k, 0, none⟩) ps.length cap ∧ v9 = .int .i64 ps.length ∧ v10 = .int .i64 j ∧ ∃ x y, v6 = pt x 0 ∧ v7 = pt y 0 ∧ TwoB wr x y (.int .u16 (n / 65536)) (.int .u16 (n % 65536)) Y)
      case first =>
        go_region_held3 (fun w' => w'.cell? ⟨p.b, p.o, none⟩ = some (.int .i64 n)) ((go_keep; done)) (fail)
        all_goals
          go_wp2
          go_meet
          first
            | exact ⟨rfl, rfl, rfl, _, _, rfl, rfl, TwoB.a wr _ _ _⟩
            | exact ⟨rfl, rfl, rfl, _, _, rfl, rfl, TwoB.b wr _ _ _⟩
      case rest =>
        obtain ⟨rfl, rfl, rfl, x, y, rfl, rfl, hY⟩ := hcut
        have HQ1 := hid (Sv.two2 (ys := ys) (wr := wr) .u16 107 (.u16 (n / 65536)) (.u16 (n % 65536)) 111 rfl ⟨by omega, by omega⟩ rfl ⟨by omega, by omega⟩ HR.out x y wc hY (fun k cap ps W h hk hp e => Sv.wwords g k cap ys v1 ps W h hk hp (by rw [e]; show ys.length + 2 * 2 ≤ 50000; omega)))
        clear hY
        go_wp2_with (go_at_call 107; refine HQ1.out.mono ?_; rintro e w1 ⟨rfl, v2, q1, q2⟩; have HQ : Hid (Wr g (ys ++ (Ct.num n).wr) v2 w1 ∧ Mv g (Tw g v1) (Tw g v2) wr w1) := hid ⟨q1, q2⟩; clear q1 q2)
        exact ⟨⟨j + 1, _, by omega, by simp, by rw [HYS.out]; exact HQ.out.1, HM.out.trans HQ.out.2⟩, by simp [intOf]; omega⟩
    · have hj2 : j = ps.length := by omega
      subst hj2
      have hnl : ¬ (ps.length : Int) < ps.length := by omega
      rw [List.take_length] at hys
      have HR := hid hR
      have HM := hid hM
      have HYS := hid hys
      clear hR hM hys
      go_wp2
      go_end0
      exact ⟨rfl, v1, by rw [← HYS.out]; exact HR.out, HM.out⟩
end Go.Proofs.Ytlibaekomndmoaa
