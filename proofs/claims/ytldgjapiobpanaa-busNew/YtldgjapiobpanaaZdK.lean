/-
  The reference's CheckMachine.
-/
import Derived.Test.YtldgjapiobpanaaZdB
import Derived.Test.YtldgjapiobpanaaZdY
namespace Go.Proofs.Ytldgjapiobpanaa
open Go.ChangeShapes Go.WideShapes Go.ChangeAt Go.RowKit
set_option linter.unusedVariables false
set_option maxRecDepth 100000

/-- What CheckMachine reads. -/
structure CkW (w : World) (u0 u1 u2 u3 u4 : Option Addr) (n0 n1 n2 n3 n4 c0 c1 c2 c3 c4 : Nat) (x l a f k m q : Int) (g : Bool) (Y : World) : Prop where
  low : Below w.heap.size w Y
  z : w.heap.size < Y.heap.size
  r0 : Y.cell? ⟨w.heap.size, 30, none⟩ = some (.slice u0 n0 c0)
  r1 : Y.cell? ⟨w.heap.size, 31, none⟩ = some (.slice u1 n1 c1)
  r2 : Y.cell? ⟨w.heap.size, 32, none⟩ = some (.slice u2 n2 c2)
  r3 : Y.cell? ⟨w.heap.size, 33, none⟩ = some (.slice u3 n3 c3)
  r4 : Y.cell? ⟨w.heap.size, 34, none⟩ = some (.slice u4 n4 c4)
  s : Y.cell? ⟨w.heap.size, 60, none⟩ = some (.int .i64 x)
  b0 : Y.cell? ⟨w.heap.size, 61, none⟩ = some (.int .i64 l)
  b1 : Y.cell? ⟨w.heap.size, 62, none⟩ = some (.int .i64 a)
  b2 : Y.cell? ⟨w.heap.size, 63, none⟩ = some (.bool g)
  b3 : Y.cell? ⟨w.heap.size, 64, none⟩ = some (.int .i64 f)
  k : Y.cell? ⟨w.heap.size, 72, none⟩ = some (.int .i64 k)
  m : Y.cell? ⟨w.heap.size, 73, none⟩ = some (.int .i64 m)
  q : Y.cell? ⟨w.heap.size, 74, none⟩ = some (.int .i64 q)
theorem CkW.mk0 (M : Mach) (S : Sl) (w : World) (t : TypeId) {u0 u1 u2 u3 u4 : Option Addr} {c0 c1 c2 c3 c4 : Nat} (e0 : S.get 0 = .slice u0 M.mrom.length c0) (e1 : S.get 1 = .slice u1 M.arom.length c1) (e2 : S.get 2 = .slice u2 M.ram.length c2) (e3 : S.get 3 = .slice u3 M.own.length c3) (e4 : S.get 4 = .slice u4 M.video.length c4) :
    CkW w u0 u1 u2 u3 u4 M.mrom.length M.arom.length M.ram.length M.own.length M.video.length c0 c1 c2 c3 c4 M.s.w M.b.l M.b.a M.b.f M.clock M.mready M.aready M.b.g (w.alloc (.cells (machL M S).toArray t)) := by
  have h := Bx.new w (machL M S) t (b := w.heap.size) rfl
  exact ⟨stA (st0 w) _, h.z, (h.at 30 (S.get 0) rfl).trans (by rw [e0]), (h.at 31 (S.get 1) rfl).trans (by rw [e1]), (h.at 32 (S.get 2) rfl).trans (by rw [e2]), (h.at 33 (S.get 3) rfl).trans (by rw [e3]), (h.at 34 (S.get 4) rfl).trans (by rw [e4]), h.at 60 _ rfl, h.at 61 _ rfl, h.at 62 _ rfl, h.at 63 _ rfl, h.at 64 _ rfl, h.at 72 _ rfl, h.at 73 _ rfl, h.at 74 _ rfl⟩
section
variable {w : World} {u0 u1 u2 u3 u4 : Option Addr} {n0 n1 n2 n3 n4 c0 c1 c2 c3 c4 : Nat} {x l a f k m q : Int} {g : Bool}
/-- What it tells, whatever the machine is. -/
def CkT (w : World) (u0 u1 u2 u3 u4 : Option Addr) (n0 n1 n2 n3 n4 c0 c1 c2 c3 c4 : Nat) (x l a f k m q : Int) (g : Bool) (v : Int) : Prop :=
  ∀ (M : Mach) (S : Sl), CkW w u0 u1 u2 u3 u4 n0 n1 n2 n3 n4 c0 c1 c2 c3 c4 x l a f k m q g (w.alloc (.cells (machL M S).toArray 41)) →
    Calls Try.prog 11 #[.agg (machL M S).toArray] w fun e w' => e = .returned (.int .i64 v) ∧ Below w.heap.size w w'
set_option maxHeartbeats 1600000 in
theorem Gm.ck_many (h0 : 1024 < max (n0 : Int) n1) : CkT w u0 u1 u2 u3 u4 n0 n1 n2 n3 n4 c0 c1 c2 c3 c4 x l a f k m q g 2 := by
  intro M S hC
  have HC := hid hC
  clear hC
  go_enter Try.func11, Try.ntmps11
  go_upto_region 1 with fail
  refine Pl.cutW (CkW w u0 u1 u2 u3 u4 n0 n1 n2 n3 n4 c0 c1 c2 c3 c4 x l a f k m q g) HC.out ?_
  intro Y hY
  obtain ⟨hlow, z, r0, r1, r2, r3, r4, s, b0, b1, b2, b3, hk, hm, hq⟩ := hY
  have HL := hid hlow
  clear hlow HC
  go_wp2
  all_goals
    go_ret
    exact ⟨rfl, HL.out⟩
set_option maxHeartbeats 1600000 in
theorem Gm.ck_ram (m0 : (n0 : Int) ≤ 1024) (m1 : (n1 : Int) ≤ 1024) (h1 : ((n2 : Int) == 128) = false) : CkT w u0 u1 u2 u3 u4 n0 n1 n2 n3 n4 c0 c1 c2 c3 c4 x l a f k m q g 4 := by
  intro M S hC
  have hmx : max (n0 : Int) n1 ≤ 1024 := by omega
  have HC := hid hC
  clear hC
  go_enter Try.func11, Try.ntmps11
  go_upto_region 1 with fail
  refine Pl.cutW (CkW w u0 u1 u2 u3 u4 n0 n1 n2 n3 n4 c0 c1 c2 c3 c4 x l a f k m q g) HC.out ?_
  intro Y hY
  obtain ⟨hlow, z, r0, r1, r2, r3, r4, s, b0, b1, b2, b3, hk, hm, hq⟩ := hY
  have HL := hid hlow
  clear hlow HC
  go_wp2
  all_goals
    go_ret
    exact ⟨rfl, HL.out⟩
set_option maxHeartbeats 1600000 in
theorem Gm.ck_own (m0 : (n0 : Int) ≤ 1024) (m1 : (n1 : Int) ≤ 1024) (h1 : n2 = 128) (h2 : ((n3 : Int) == 64) = false) : CkT w u0 u1 u2 u3 u4 n0 n1 n2 n3 n4 c0 c1 c2 c3 c4 x l a f k m q g 4 := by
  intro M S hC
  have hmx : max (n0 : Int) n1 ≤ 1024 := by omega
  have j1 : ((n2 : Int) == 128) = true := by simp [h1]
  clear h1
  have HC := hid hC
  clear hC
  go_enter Try.func11, Try.ntmps11
  go_upto_region 1 with fail
  refine Pl.cutW (CkW w u0 u1 u2 u3 u4 n0 n1 n2 n3 n4 c0 c1 c2 c3 c4 x l a f k m q g) HC.out ?_
  intro Y hY
  obtain ⟨hlow, z, r0, r1, r2, r3, r4, s, b0, b1, b2, b3, hk, hm, hq⟩ := hY
  have HL := hid hlow
  clear hlow HC
  go_wp2
  all_goals
    go_ret
    exact ⟨rfl, HL.out⟩
set_option maxHeartbeats 1600000 in
theorem Gm.ck_video (m0 : (n0 : Int) ≤ 1024) (m1 : (n1 : Int) ≤ 1024) (h1 : n2 = 128) (h2 : n3 = 64) (h3 : ((n4 : Int) == 256) = false) : CkT w u0 u1 u2 u3 u4 n0 n1 n2 n3 n4 c0 c1 c2 c3 c4 x l a f k m q g 4 := by
  intro M S hC
  have hmx : max (n0 : Int) n1 ≤ 1024 := by omega
  have j1 : ((n2 : Int) == 128) = true := by simp [h1]
  clear h1
  have j2 : ((n3 : Int) == 64) = true := by simp [h2]
  clear h2
  have HC := hid hC
  clear hC
  go_enter Try.func11, Try.ntmps11
  go_upto_region 1 with fail
  refine Pl.cutW (CkW w u0 u1 u2 u3 u4 n0 n1 n2 n3 n4 c0 c1 c2 c3 c4 x l a f k m q g) HC.out ?_
  intro Y hY
  obtain ⟨hlow, z, r0, r1, r2, r3, r4, s, b0, b1, b2, b3, hk, hm, hq⟩ := hY
  have HL := hid hlow
  clear hlow HC
  go_wp2
  all_goals
    go_ret
    exact ⟨rfl, HL.out⟩
set_option maxHeartbeats 1600000 in
theorem Gm.ck_w0 (m0 : (n0 : Int) ≤ 1024) (m1 : (n1 : Int) ≤ 1024) (ew0 : x < 0) : CkT w u0 u1 u2 u3 u4 n0 n1 128 64 256 c0 c1 c2 c3 c4 x l a f k m q g 3 := by
  intro M S hC
  have hmx : max (n0 : Int) n1 ≤ 1024 := by omega
  have HC := hid hC
  clear hC
  go_enter Try.func11, Try.ntmps11
  go_upto_region 1 with fail
  refine Pl.cutW (CkW w u0 u1 u2 u3 u4 n0 n1 128 64 256 c0 c1 c2 c3 c4 x l a f k m q g) HC.out ?_
  intro Y hY
  obtain ⟨hlow, z, r0, r1, r2, r3, r4, s, b0, b1, b2, b3, hk, hm, hq⟩ := hY
  have HL := hid hlow
  clear hlow HC
  go_wp2
  all_goals
    go_ret
    exact ⟨rfl, stA HL.out _⟩
set_option maxHeartbeats 1600000 in
theorem Gm.ck_w1 (m0 : (n0 : Int) ≤ 1024) (m1 : (n1 : Int) ≤ 1024) (ew0 : 0 ≤ x) (ew1 : 15 < x) : CkT w u0 u1 u2 u3 u4 n0 n1 128 64 256 c0 c1 c2 c3 c4 x l a f k m q g 3 := by
  intro M S hC
  have hmx : max (n0 : Int) n1 ≤ 1024 := by omega
  have HC := hid hC
  clear hC
  go_enter Try.func11, Try.ntmps11
  go_upto_region 1 with fail
  refine Pl.cutW (CkW w u0 u1 u2 u3 u4 n0 n1 128 64 256 c0 c1 c2 c3 c4 x l a f k m q g) HC.out ?_
  intro Y hY
  obtain ⟨hlow, z, r0, r1, r2, r3, r4, s, b0, b1, b2, b3, hk, hm, hq⟩ := hY
  have HL := hid hlow
  clear hlow HC
  go_wp2
  all_goals
    go_ret
    exact ⟨rfl, stA HL.out _⟩
set_option maxHeartbeats 1600000 in
theorem Gm.ck_l0 (m0 : (n0 : Int) ≤ 1024) (m1 : (n1 : Int) ≤ 1024) (ew0 : 0 ≤ x) (ew1 : x ≤ 15) (el0 : l < 0) : CkT w u0 u1 u2 u3 u4 n0 n1 128 64 256 c0 c1 c2 c3 c4 x l a f k m q g 3 := by
  intro M S hC
  have hmx : max (n0 : Int) n1 ≤ 1024 := by omega
  have HC := hid hC
  clear hC
  go_enter Try.func11, Try.ntmps11
  go_upto_region 1 with fail
  refine Pl.cutW (CkW w u0 u1 u2 u3 u4 n0 n1 128 64 256 c0 c1 c2 c3 c4 x l a f k m q g) HC.out ?_
  intro Y hY
  obtain ⟨hlow, z, r0, r1, r2, r3, r4, s, b0, b1, b2, b3, hk, hm, hq⟩ := hY
  have HL := hid hlow
  clear hlow HC
  go_wp2
  all_goals
    go_ret
    exact ⟨rfl, stA HL.out _⟩
set_option maxHeartbeats 1600000 in
theorem Gm.ck_l1 (m0 : (n0 : Int) ≤ 1024) (m1 : (n1 : Int) ≤ 1024) (ew0 : 0 ≤ x) (ew1 : x ≤ 15) (el0 : 0 ≤ l) (el1 : 9 < l) : CkT w u0 u1 u2 u3 u4 n0 n1 128 64 256 c0 c1 c2 c3 c4 x l a f k m q g 3 := by
  intro M S hC
  have hmx : max (n0 : Int) n1 ≤ 1024 := by omega
  have HC := hid hC
  clear hC
  go_enter Try.func11, Try.ntmps11
  go_upto_region 1 with fail
  refine Pl.cutW (CkW w u0 u1 u2 u3 u4 n0 n1 128 64 256 c0 c1 c2 c3 c4 x l a f k m q g) HC.out ?_
  intro Y hY
  obtain ⟨hlow, z, r0, r1, r2, r3, r4, s, b0, b1, b2, b3, hk, hm, hq⟩ := hY
  have HL := hid hlow
  clear hlow HC
  go_wp2
  all_goals
    go_ret
    exact ⟨rfl, stA HL.out _⟩
set_option maxHeartbeats 1600000 in
theorem Gm.ck_a0 (m0 : (n0 : Int) ≤ 1024) (m1 : (n1 : Int) ≤ 1024) (ew0 : 0 ≤ x) (ew1 : x ≤ 15) (el0 : 0 ≤ l) (el1 : l ≤ 9) (ea0 : a < 0) : CkT w u0 u1 u2 u3 u4 n0 n1 128 64 256 c0 c1 c2 c3 c4 x l a f k m q g 3 := by
  intro M S hC
  have hmx : max (n0 : Int) n1 ≤ 1024 := by omega
  have HC := hid hC
  clear hC
  go_enter Try.func11, Try.ntmps11
  go_upto_region 1 with fail
  refine Pl.cutW (CkW w u0 u1 u2 u3 u4 n0 n1 128 64 256 c0 c1 c2 c3 c4 x l a f k m q g) HC.out ?_
  intro Y hY
  obtain ⟨hlow, z, r0, r1, r2, r3, r4, s, b0, b1, b2, b3, hk, hm, hq⟩ := hY
  have HL := hid hlow
  clear hlow HC
  go_wp2
  all_goals
    go_ret
    exact ⟨rfl, stA HL.out _⟩
set_option maxHeartbeats 1600000 in
theorem Gm.ck_a1 (m0 : (n0 : Int) ≤ 1024) (m1 : (n1 : Int) ≤ 1024) (ew0 : 0 ≤ x) (ew1 : x ≤ 15) (el0 : 0 ≤ l) (el1 : l ≤ 9) (ea0 : 0 ≤ a) (ea1 : 63 < a) : CkT w u0 u1 u2 u3 u4 n0 n1 128 64 256 c0 c1 c2 c3 c4 x l a f k m q g 3 := by
  intro M S hC
  have hmx : max (n0 : Int) n1 ≤ 1024 := by omega
  have HC := hid hC
  clear hC
  go_enter Try.func11, Try.ntmps11
  go_upto_region 1 with fail
  refine Pl.cutW (CkW w u0 u1 u2 u3 u4 n0 n1 128 64 256 c0 c1 c2 c3 c4 x l a f k m q g) HC.out ?_
  intro Y hY
  obtain ⟨hlow, z, r0, r1, r2, r3, r4, s, b0, b1, b2, b3, hk, hm, hq⟩ := hY
  have HL := hid hlow
  clear hlow HC
  go_wp2
  all_goals
    go_ret
    exact ⟨rfl, stA HL.out _⟩
set_option maxHeartbeats 1600000 in
theorem Gm.ck_f0 (m0 : (n0 : Int) ≤ 1024) (m1 : (n1 : Int) ≤ 1024) (ew0 : 0 ≤ x) (ew1 : x ≤ 15) (el0 : 0 ≤ l) (el1 : l ≤ 9) (ea0 : 0 ≤ a) (ea1 : a ≤ 63) (ef0 : f < 0) : CkT w u0 u1 u2 u3 u4 n0 n1 128 64 256 c0 c1 c2 c3 c4 x l a f k m q g 3 := by
  intro M S hC
  have hmx : max (n0 : Int) n1 ≤ 1024 := by omega
  have HC := hid hC
  clear hC
  go_enter Try.func11, Try.ntmps11
  go_upto_region 1 with fail
  refine Pl.cutW (CkW w u0 u1 u2 u3 u4 n0 n1 128 64 256 c0 c1 c2 c3 c4 x l a f k m q g) HC.out ?_
  intro Y hY
  obtain ⟨hlow, z, r0, r1, r2, r3, r4, s, b0, b1, b2, b3, hk, hm, hq⟩ := hY
  have HL := hid hlow
  clear hlow HC
  go_wp2
  all_goals
    go_ret
    exact ⟨rfl, stA HL.out _⟩
set_option maxHeartbeats 1600000 in
theorem Gm.ck_f1 (m0 : (n0 : Int) ≤ 1024) (m1 : (n1 : Int) ≤ 1024) (ew0 : 0 ≤ x) (ew1 : x ≤ 15) (el0 : 0 ≤ l) (el1 : l ≤ 9) (ea0 : 0 ≤ a) (ea1 : a ≤ 63) (ef0 : 0 ≤ f) (ef1 : 20000 < f) : CkT w u0 u1 u2 u3 u4 n0 n1 128 64 256 c0 c1 c2 c3 c4 x l a f k m q g 3 := by
  intro M S hC
  have hmx : max (n0 : Int) n1 ≤ 1024 := by omega
  have HC := hid hC
  clear hC
  go_enter Try.func11, Try.ntmps11
  go_upto_region 1 with fail
  refine Pl.cutW (CkW w u0 u1 u2 u3 u4 n0 n1 128 64 256 c0 c1 c2 c3 c4 x l a f k m q g) HC.out ?_
  intro Y hY
  obtain ⟨hlow, z, r0, r1, r2, r3, r4, s, b0, b1, b2, b3, hk, hm, hq⟩ := hY
  have HL := hid hlow
  clear hlow HC
  go_wp2
  all_goals
    go_ret
    exact ⟨rfl, stA HL.out _⟩
set_option maxHeartbeats 1600000 in
theorem Gm.ck_k0 (m0 : (n0 : Int) ≤ 1024) (m1 : (n1 : Int) ≤ 1024) (ew0 : 0 ≤ x) (ew1 : x ≤ 15) (el0 : 0 ≤ l) (el1 : l ≤ 9) (ea0 : 0 ≤ a) (ea1 : a ≤ 63) (ef0 : 0 ≤ f) (ef1 : f ≤ 20000) (ek0 : k < 0) : CkT w u0 u1 u2 u3 u4 n0 n1 128 64 256 c0 c1 c2 c3 c4 x l a f k m q g 3 := by
  intro M S hC
  have hmx : max (n0 : Int) n1 ≤ 1024 := by omega
  have HC := hid hC
  clear hC
  go_enter Try.func11, Try.ntmps11
  go_upto_region 1 with fail
  refine Pl.cutW (CkW w u0 u1 u2 u3 u4 n0 n1 128 64 256 c0 c1 c2 c3 c4 x l a f k m q g) HC.out ?_
  intro Y hY
  obtain ⟨hlow, z, r0, r1, r2, r3, r4, s, b0, b1, b2, b3, hk, hm, hq⟩ := hY
  have HL := hid hlow
  clear hlow HC
  go_wp2
  all_goals
    go_ret
    exact ⟨rfl, stA HL.out _⟩
set_option maxHeartbeats 1600000 in
theorem Gm.ck_k1 (m0 : (n0 : Int) ≤ 1024) (m1 : (n1 : Int) ≤ 1024) (ew0 : 0 ≤ x) (ew1 : x ≤ 15) (el0 : 0 ≤ l) (el1 : l ≤ 9) (ea0 : 0 ≤ a) (ea1 : a ≤ 63) (ef0 : 0 ≤ f) (ef1 : f ≤ 20000) (ek0 : 0 ≤ k) (ek1 : 200000 < k) : CkT w u0 u1 u2 u3 u4 n0 n1 128 64 256 c0 c1 c2 c3 c4 x l a f k m q g 3 := by
  intro M S hC
  have hmx : max (n0 : Int) n1 ≤ 1024 := by omega
  have HC := hid hC
  clear hC
  go_enter Try.func11, Try.ntmps11
  go_upto_region 1 with fail
  refine Pl.cutW (CkW w u0 u1 u2 u3 u4 n0 n1 128 64 256 c0 c1 c2 c3 c4 x l a f k m q g) HC.out ?_
  intro Y hY
  obtain ⟨hlow, z, r0, r1, r2, r3, r4, s, b0, b1, b2, b3, hk, hm, hq⟩ := hY
  have HL := hid hlow
  clear hlow HC
  go_wp2
  all_goals
    go_ret
    exact ⟨rfl, stA HL.out _⟩
set_option maxHeartbeats 1600000 in
theorem Gm.ck_p0 (m0 : (n0 : Int) ≤ 1024) (m1 : (n1 : Int) ≤ 1024) (ew0 : 0 ≤ x) (ew1 : x ≤ 15) (el0 : 0 ≤ l) (el1 : l ≤ 9) (ea0 : 0 ≤ a) (ea1 : a ≤ 63) (ef0 : 0 ≤ f) (ef1 : f ≤ 20000) (ek0 : 0 ≤ k) (ek1 : k ≤ 200000) (ep0 : m < 0) : CkT w u0 u1 u2 u3 u4 n0 n1 128 64 256 c0 c1 c2 c3 c4 x l a f k m q g 3 := by
  intro M S hC
  have hmx : max (n0 : Int) n1 ≤ 1024 := by omega
  have HC := hid hC
  clear hC
  go_enter Try.func11, Try.ntmps11
  go_upto_region 1 with fail
  refine Pl.cutW (CkW w u0 u1 u2 u3 u4 n0 n1 128 64 256 c0 c1 c2 c3 c4 x l a f k m q g) HC.out ?_
  intro Y hY
  obtain ⟨hlow, z, r0, r1, r2, r3, r4, s, b0, b1, b2, b3, hk, hm, hq⟩ := hY
  have HL := hid hlow
  clear hlow HC
  go_wp2
  all_goals
    go_ret
    exact ⟨rfl, stA HL.out _⟩
set_option maxHeartbeats 1600000 in
theorem Gm.ck_p1 (m0 : (n0 : Int) ≤ 1024) (m1 : (n1 : Int) ≤ 1024) (ew0 : 0 ≤ x) (ew1 : x ≤ 15) (el0 : 0 ≤ l) (el1 : l ≤ 9) (ea0 : 0 ≤ a) (ea1 : a ≤ 63) (ef0 : 0 ≤ f) (ef1 : f ≤ 20000) (ek0 : 0 ≤ k) (ek1 : k ≤ 200000) (ep0 : 0 ≤ m) (ep1 : k + 20000 < m) : CkT w u0 u1 u2 u3 u4 n0 n1 128 64 256 c0 c1 c2 c3 c4 x l a f k m q g 3 := by
  intro M S hC
  have hmx : max (n0 : Int) n1 ≤ 1024 := by omega
  have HC := hid hC
  clear hC
  go_enter Try.func11, Try.ntmps11
  go_upto_region 1 with fail
  refine Pl.cutW (CkW w u0 u1 u2 u3 u4 n0 n1 128 64 256 c0 c1 c2 c3 c4 x l a f k m q g) HC.out ?_
  intro Y hY
  obtain ⟨hlow, z, r0, r1, r2, r3, r4, s, b0, b1, b2, b3, hk, hm, hq⟩ := hY
  have HL := hid hlow
  clear hlow HC
  go_wp2
  all_goals
    go_ret
    exact ⟨rfl, stA HL.out _⟩
set_option maxHeartbeats 1600000 in
theorem Gm.ck_q0 (m0 : (n0 : Int) ≤ 1024) (m1 : (n1 : Int) ≤ 1024) (ew0 : 0 ≤ x) (ew1 : x ≤ 15) (el0 : 0 ≤ l) (el1 : l ≤ 9) (ea0 : 0 ≤ a) (ea1 : a ≤ 63) (ef0 : 0 ≤ f) (ef1 : f ≤ 20000) (ek0 : 0 ≤ k) (ek1 : k ≤ 200000) (ep0 : 0 ≤ m) (ep1 : m ≤ k + 20000) (eq0 : q < 0) : CkT w u0 u1 u2 u3 u4 n0 n1 128 64 256 c0 c1 c2 c3 c4 x l a f k m q g 3 := by
  intro M S hC
  have hmx : max (n0 : Int) n1 ≤ 1024 := by omega
  have HC := hid hC
  clear hC
  go_enter Try.func11, Try.ntmps11
  go_upto_region 1 with fail
  refine Pl.cutW (CkW w u0 u1 u2 u3 u4 n0 n1 128 64 256 c0 c1 c2 c3 c4 x l a f k m q g) HC.out ?_
  intro Y hY
  obtain ⟨hlow, z, r0, r1, r2, r3, r4, s, b0, b1, b2, b3, hk, hm, hq⟩ := hY
  have HL := hid hlow
  clear hlow HC
  go_wp2
  all_goals
    go_ret
    exact ⟨rfl, stA HL.out _⟩
set_option maxHeartbeats 1600000 in
theorem Gm.ck_q1 (m0 : (n0 : Int) ≤ 1024) (m1 : (n1 : Int) ≤ 1024) (ew0 : 0 ≤ x) (ew1 : x ≤ 15) (el0 : 0 ≤ l) (el1 : l ≤ 9) (ea0 : 0 ≤ a) (ea1 : a ≤ 63) (ef0 : 0 ≤ f) (ef1 : f ≤ 20000) (ek0 : 0 ≤ k) (ek1 : k ≤ 200000) (ep0 : 0 ≤ m) (ep1 : m ≤ k + 20000) (eq0 : 0 ≤ q) (eq1 : k + 20000 < q) : CkT w u0 u1 u2 u3 u4 n0 n1 128 64 256 c0 c1 c2 c3 c4 x l a f k m q g 3 := by
  intro M S hC
  have hmx : max (n0 : Int) n1 ≤ 1024 := by omega
  have HC := hid hC
  clear hC
  go_enter Try.func11, Try.ntmps11
  go_upto_region 1 with fail
  refine Pl.cutW (CkW w u0 u1 u2 u3 u4 n0 n1 128 64 256 c0 c1 c2 c3 c4 x l a f k m q g) HC.out ?_
  intro Y hY
  obtain ⟨hlow, z, r0, r1, r2, r3, r4, s, b0, b1, b2, b3, hk, hm, hq⟩ := hY
  have HL := hid hlow
  clear hlow HC
  go_wp2
  all_goals
    go_ret
    exact ⟨rfl, stA HL.out _⟩
set_option maxHeartbeats 1600000 in
theorem Gm.ck_ok (m0 : (n0 : Int) ≤ 1024) (m1 : (n1 : Int) ≤ 1024) (ew0 : 0 ≤ x) (ew1 : x ≤ 15) (el0 : 0 ≤ l) (el1 : l ≤ 9) (ea0 : 0 ≤ a) (ea1 : a ≤ 63) (ef0 : 0 ≤ f) (ef1 : f ≤ 20000) (ek0 : 0 ≤ k) (ek1 : k ≤ 200000) (ep0 : 0 ≤ m) (ep1 : m ≤ k + 20000) (eq0 : 0 ≤ q) (eq1 : q ≤ k + 20000) : CkT w u0 u1 u2 u3 u4 n0 n1 128 64 256 c0 c1 c2 c3 c4 x l a f k m q g 0 := by
  intro M S hC
  have hmx : max (n0 : Int) n1 ≤ 1024 := by omega
  have HC := hid hC
  clear hC
  go_enter Try.func11, Try.ntmps11
  go_upto_region 1 with fail
  refine Pl.cutW (CkW w u0 u1 u2 u3 u4 n0 n1 128 64 256 c0 c1 c2 c3 c4 x l a f k m q g) HC.out ?_
  intro Y hY
  obtain ⟨hlow, z, r0, r1, r2, r3, r4, s, b0, b1, b2, b3, hk, hm, hq⟩ := hY
  have HL := hid hlow
  clear hlow HC
  go_wp2
  all_goals
    go_ret
    exact ⟨rfl, stA HL.out _⟩
theorem Gm.check_any (M : Mach) (S : Sl) (w : World) (hS : S.lens M) : Calls Try.prog 11 #[.agg (machL M S).toArray] w fun e w' => e = .returned (.int .i64 M.chk) ∧ Below w.heap.size w w' := by
  obtain ⟨u0, c0, e0⟩ := hS 0 (by omega)
  obtain ⟨u1, c1, e1⟩ := hS 1 (by omega)
  obtain ⟨u2, c2, e2⟩ := hS 2 (by omega)
  obtain ⟨u3, c3, e3⟩ := hS 3 (by omega)
  obtain ⟨u4, c4, e4⟩ := hS 4 (by omega)
  have hC := CkW.mk0 M S w 41 e0 e1 e2 e3 e4
  unfold Mach.chk
  by_cases hr : M.mrom.length ≤ 1024 ∧ M.arom.length ≤ 1024
  · rw [if_pos hr]
    have t0 : (M.mrom.length : Int) ≤ 1024 := by omega
    have t1 : (M.arom.length : Int) ≤ 1024 := by omega
    by_cases hl : M.ram.length = 128 ∧ M.own.length = 64 ∧ M.video.length = 256
    · rw [if_pos hl]
      obtain ⟨l1, l2, l3⟩ := hl
      rw [l1, l2, l3] at hC
      by_cases gw0 : 0 ≤ M.s.w
      case neg =>
        rw [if_neg (by omega)]
        exact Gm.ck_w0 t0 t1  (by omega) M S hC
      case pos =>
      by_cases gw1 : M.s.w ≤ 15
      case neg =>
        rw [if_neg (by omega)]
        exact Gm.ck_w1 t0 t1 gw0 (by omega) M S hC
      case pos =>
      by_cases gl0 : 0 ≤ M.b.l
      case neg =>
        rw [if_pos ⟨gw0, gw1⟩, if_neg (fun hb => by have hb := (bok_iff _ _ _).1 hb; have := hb.l0; have := hb.l1; have := hb.a0; have := hb.a1; have := hb.f0; have := hb.f1; omega)]
        exact Gm.ck_l0 t0 t1 gw0 gw1 (by omega) M S hC
      case pos =>
      by_cases gl1 : M.b.l ≤ 9
      case neg =>
        rw [if_pos ⟨gw0, gw1⟩, if_neg (fun hb => by have hb := (bok_iff _ _ _).1 hb; have := hb.l0; have := hb.l1; have := hb.a0; have := hb.a1; have := hb.f0; have := hb.f1; omega)]
        exact Gm.ck_l1 t0 t1 gw0 gw1 gl0 (by omega) M S hC
      case pos =>
      by_cases ga0 : 0 ≤ M.b.a
      case neg =>
        rw [if_pos ⟨gw0, gw1⟩, if_neg (fun hb => by have hb := (bok_iff _ _ _).1 hb; have := hb.l0; have := hb.l1; have := hb.a0; have := hb.a1; have := hb.f0; have := hb.f1; omega)]
        exact Gm.ck_a0 t0 t1 gw0 gw1 gl0 gl1 (by omega) M S hC
      case pos =>
      by_cases ga1 : M.b.a ≤ 63
      case neg =>
        rw [if_pos ⟨gw0, gw1⟩, if_neg (fun hb => by have hb := (bok_iff _ _ _).1 hb; have := hb.l0; have := hb.l1; have := hb.a0; have := hb.a1; have := hb.f0; have := hb.f1; omega)]
        exact Gm.ck_a1 t0 t1 gw0 gw1 gl0 gl1 ga0 (by omega) M S hC
      case pos =>
      by_cases gf0 : 0 ≤ M.b.f
      case neg =>
        rw [if_pos ⟨gw0, gw1⟩, if_neg (fun hb => by have hb := (bok_iff _ _ _).1 hb; have := hb.l0; have := hb.l1; have := hb.a0; have := hb.a1; have := hb.f0; have := hb.f1; omega)]
        exact Gm.ck_f0 t0 t1 gw0 gw1 gl0 gl1 ga0 ga1 (by omega) M S hC
      case pos =>
      by_cases gf1 : M.b.f ≤ 20000
      case neg =>
        rw [if_pos ⟨gw0, gw1⟩, if_neg (fun hb => by have hb := (bok_iff _ _ _).1 hb; have := hb.l0; have := hb.l1; have := hb.a0; have := hb.a1; have := hb.f0; have := hb.f1; omega)]
        exact Gm.ck_f1 t0 t1 gw0 gw1 gl0 gl1 ga0 ga1 gf0 (by omega) M S hC
      case pos =>
      by_cases gk0 : 0 ≤ M.clock
      case neg =>
        rw [if_pos ⟨gw0, gw1⟩, if_pos ((bok_iff _ _ _).2 ⟨gl0, gl1, ga0, ga1, gf0, gf1⟩), if_neg (by omega)]
        exact Gm.ck_k0 t0 t1 gw0 gw1 gl0 gl1 ga0 ga1 gf0 gf1 (by omega) M S hC
      case pos =>
      by_cases gk1 : M.clock ≤ 200000
      case neg =>
        rw [if_pos ⟨gw0, gw1⟩, if_pos ((bok_iff _ _ _).2 ⟨gl0, gl1, ga0, ga1, gf0, gf1⟩), if_neg (by omega)]
        exact Gm.ck_k1 t0 t1 gw0 gw1 gl0 gl1 ga0 ga1 gf0 gf1 gk0 (by omega) M S hC
      case pos =>
      by_cases gp0 : 0 ≤ M.mready
      case neg =>
        rw [if_pos ⟨gw0, gw1⟩, if_pos ((bok_iff _ _ _).2 ⟨gl0, gl1, ga0, ga1, gf0, gf1⟩), if_neg (by omega)]
        exact Gm.ck_p0 t0 t1 gw0 gw1 gl0 gl1 ga0 ga1 gf0 gf1 gk0 gk1 (by omega) M S hC
      case pos =>
      by_cases gp1 : M.mready ≤ M.clock + 20000
      case neg =>
        rw [if_pos ⟨gw0, gw1⟩, if_pos ((bok_iff _ _ _).2 ⟨gl0, gl1, ga0, ga1, gf0, gf1⟩), if_neg (by omega)]
        exact Gm.ck_p1 t0 t1 gw0 gw1 gl0 gl1 ga0 ga1 gf0 gf1 gk0 gk1 gp0 (by omega) M S hC
      case pos =>
      by_cases gq0 : 0 ≤ M.aready
      case neg =>
        rw [if_pos ⟨gw0, gw1⟩, if_pos ((bok_iff _ _ _).2 ⟨gl0, gl1, ga0, ga1, gf0, gf1⟩), if_neg (by omega)]
        exact Gm.ck_q0 t0 t1 gw0 gw1 gl0 gl1 ga0 ga1 gf0 gf1 gk0 gk1 gp0 gp1 (by omega) M S hC
      case pos =>
      by_cases gq1 : M.aready ≤ M.clock + 20000
      case neg =>
        rw [if_pos ⟨gw0, gw1⟩, if_pos ((bok_iff _ _ _).2 ⟨gl0, gl1, ga0, ga1, gf0, gf1⟩), if_neg (by omega)]
        exact Gm.ck_q1 t0 t1 gw0 gw1 gl0 gl1 ga0 ga1 gf0 gf1 gk0 gk1 gp0 gp1 gq0 (by omega) M S hC
      case pos =>
      rw [if_pos ⟨gw0, gw1⟩, if_pos ((bok_iff _ _ _).2 ⟨gl0, gl1, ga0, ga1, gf0, gf1⟩), if_pos ⟨⟨gk0, gk1⟩, ⟨gp0, gp1⟩, ⟨gq0, gq1⟩⟩]
      exact Gm.ck_ok t0 t1 gw0 gw1 gl0 gl1 ga0 ga1 gf0 gf1 gk0 gk1 gp0 gp1 gq0 gq1 M S hC
    · rw [if_neg hl]
      by_cases l1 : M.ram.length = 128
      case neg => exact Gm.ck_ram t0 t1 (by simp; omega) M S hC
      by_cases l2 : M.own.length = 64
      case neg => exact Gm.ck_own t0 t1 l1 (by simp; omega) M S hC
      exact Gm.ck_video t0 t1 l1 l2 (by simp; omega) M S hC
  · rw [if_neg hr]
    exact Gm.ck_many (by omega) M S hC
end
end Go.Proofs.Ytldgjapiobpanaa
