/-
  The Go text of the law TonePut returns true.
-/
import Derived.Test.YtjmmbbehjklhgaaTonQ
import Derived.Test.YtjmmbbehjklhgaaTonR
namespace Go.Proofs.Ytjmmbbehjklhgaa
open Go.ChangeShapes Go.WideShapes Go.ChangeAt Go.RowKit
set_option linter.unusedVariables false

set_option maxRecDepth 100000 in
set_option maxHeartbeats 6400000 in
theorem put_law_ok (s : Sd) (k : Nat) (b : Int) (w : World) (hk : k < 24) (h : s.ok) (hb : 0 ≤ b ∧ b ≤ 255) :
    Calls Try.prog 4 #[(.agg #[.int .u16 s.a.p, .int .u16 s.a.c, .int .u8 s.a.l, .bool s.a.h, .int .u16 s.a.n, .int .u16 s.b.p, .int .u16 s.b.c, .int .u8 s.b.l, .bool s.b.h, .int .u16 s.b.n, .int .u16 s.c.p, .int .u16 s.c.c, .int .u8 s.c.l, .bool s.c.h, .int .u16 s.c.n, .int .i64 s.w]), .int .i64 k, .int .u8 b] w fun e w' => e = .returned (.bool true) ∧ Below w.heap.size w w' := by
  obtain ⟨x, hx⟩ : ∃ x, x = s.put k b := ⟨_, rfl⟩
  have he := eq_sound x
  have hp := fun W => put_any s k b W hk h hb
  have hr := fun W => rput_any s k b W hk h hb
  rw [← hx] at hp hr
  clear hx
  go_enter Try.func4, Try.ntmps4
  go_upto_region 4 with (first
    | (go_at_call 16; refine (hp _).mono ?_; rintro e w1 ⟨rfl, hb1⟩; have HK : Hid (TwoS w w1.heap.size s x (w1.alloc (.cells #[.int .u16 x.a.p, .int .u16 x.a.c, .int .u8 x.a.l, .bool x.a.h, .int .u16 x.a.n, .int .u16 x.b.p, .int .u16 x.b.c, .int .u8 x.b.l, .bool x.b.h, .int .u16 x.b.n, .int .u16 x.c.p, .int .u16 x.c.c, .int .u8 x.c.l, .bool x.c.h, .int .u16 x.c.n, .int .i64 x.w] 27))) := ⟨stA (stp (stA (st0 w) _) hb1) _, ((Bx.new w (scs s) _ rfl).kept hb1).over _, Bx.new w1 (scs x) 27 rfl⟩)
    | (go_at_call 9; refine (sounded_any _).mono ?_; rintro e w2 ⟨rfl, hb2⟩))
  have HK2 := hid (HK.out.kept hb2)
  clear HK hb1 hb2
  generalize w1.heap.size = bx at *
  refine Pl.cutW (TwoS w bx s x) HK2.out ?_
  intro W hW
  have HW := hid hW
  obtain ⟨c0, c1, c2, c3, c4, c5, c6, c7, c8, c9, c10, c11, c12, c13, c14, c15, c16, c17, c18, c19, c20, c21, c22, c23, c24, c25, c26, c27, c28, c29, c30, c31, _⟩ := hW.all
  clear hW HK2
  go_region_held3 (fun w' => w'.cell? ⟨w.heap.size, 0, none⟩ = some (.int .u16 s.a.p) ∧ w'.cell? ⟨w.heap.size, 1, none⟩ = some (.int .u16 s.a.c) ∧ w'.cell? ⟨w.heap.size, 2, none⟩ = some (.int .u8 s.a.l) ∧ w'.cell? ⟨w.heap.size, 3, none⟩ = some (.bool s.a.h) ∧ w'.cell? ⟨w.heap.size, 4, none⟩ = some (.int .u16 s.a.n) ∧ w'.cell? ⟨w.heap.size, 5, none⟩ = some (.int .u16 s.b.p) ∧ w'.cell? ⟨w.heap.size, 6, none⟩ = some (.int .u16 s.b.c) ∧ w'.cell? ⟨w.heap.size, 7, none⟩ = some (.int .u8 s.b.l) ∧ w'.cell? ⟨w.heap.size, 8, none⟩ = some (.bool s.b.h) ∧ w'.cell? ⟨w.heap.size, 9, none⟩ = some (.int .u16 s.b.n) ∧ w'.cell? ⟨w.heap.size, 10, none⟩ = some (.int .u16 s.c.p) ∧ w'.cell? ⟨w.heap.size, 11, none⟩ = some (.int .u16 s.c.c) ∧ w'.cell? ⟨w.heap.size, 12, none⟩ = some (.int .u8 s.c.l) ∧ w'.cell? ⟨w.heap.size, 13, none⟩ = some (.bool s.c.h) ∧ w'.cell? ⟨w.heap.size, 14, none⟩ = some (.int .u16 s.c.n) ∧ w'.cell? ⟨w.heap.size, 15, none⟩ = some (.int .i64 s.w) ∧ w'.cell? ⟨bx, 0, none⟩ = some (.int .u16 x.a.p) ∧ w'.cell? ⟨bx, 1, none⟩ = some (.int .u16 x.a.c) ∧ w'.cell? ⟨bx, 2, none⟩ = some (.int .u8 x.a.l) ∧ w'.cell? ⟨bx, 3, none⟩ = some (.bool x.a.h) ∧ w'.cell? ⟨bx, 4, none⟩ = some (.int .u16 x.a.n) ∧ w'.cell? ⟨bx, 5, none⟩ = some (.int .u16 x.b.p) ∧ w'.cell? ⟨bx, 6, none⟩ = some (.int .u16 x.b.c) ∧ w'.cell? ⟨bx, 7, none⟩ = some (.int .u8 x.b.l) ∧ w'.cell? ⟨bx, 8, none⟩ = some (.bool x.b.h) ∧ w'.cell? ⟨bx, 9, none⟩ = some (.int .u16 x.b.n) ∧ w'.cell? ⟨bx, 10, none⟩ = some (.int .u16 x.c.p) ∧ w'.cell? ⟨bx, 11, none⟩ = some (.int .u16 x.c.c) ∧ w'.cell? ⟨bx, 12, none⟩ = some (.int .u8 x.c.l) ∧ w'.cell? ⟨bx, 13, none⟩ = some (.bool x.c.h) ∧ w'.cell? ⟨bx, 14, none⟩ = some (.int .u16 x.c.n) ∧ w'.cell? ⟨bx, 15, none⟩ = some (.int .i64 x.w) ∧ TwoS w bx s x w')
    (first
      | with_reducible exact TwoS.all HW.out
      | with_reducible exact TwoS.all HW.out.drew
      | with_reducible exact twoS_keep (by assumption) (by assumption)
      | (go_keep; done))
    ((go_at_call 17; refine (hr _).mono ?_; rintro e w3 ⟨rfl, hb3⟩))
  go_wp2
  go_ret
  exact ⟨rfl, stp HW.out.low.drew hb3⟩
end Go.Proofs.Ytjmmbbehjklhgaa
