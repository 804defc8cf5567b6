/-
  Package pad: what Press, Write, Read answer, as plain numbers; nothing old is written.
-/
import Derived.Test.YthooknikfachnaaPlain
namespace Go.Proofs.Ythooknikfachnaa
open Go.ChangeShapes Go.WideShapes Go.ChangeAt Go.RowKit
set_option linter.unusedVariables false
set_option maxRecDepth 100000

theorem or_one : ∀ s : Nat, s < 256 → bits .or .u8 (((s : Int) * 2) % 256) 1 = (((s : Int) * 2) % 256) + 1 := by decide +kernel
theorem or_one' (s : Int) (h : 0 ≤ s ∧ s ≤ 255) : bits .or .u8 (s * 2 % 256) 1 = s * 2 % 256 + 1 := by
  obtain ⟨k, rfl⟩ := Int.eq_ofNat_of_zero_le h.1
  exact or_one k (by omega)
theorem and_one : ∀ s : Nat, s < 256 → bits .and .u8 (s : Int) 1 = (s : Int) % 2 := by decide +kernel
theorem and_one' (s : Int) (h : 0 ≤ s ∧ s ≤ 255) : bits .and .u8 s 1 = s % 2 := by
  obtain ⟨k, rfl⟩ := Int.eq_ofNat_of_zero_le h.1
  exact and_one k (by omega)
def odd (x : Int) : Bool := x % 2 == 1
theorem info_pad : (Try.prog.info? 28).map (·.size) = some 3 := by kernel_rfl
theorem load_pad (W : World) (q : Nat) (d s : Int) (l : Bool) (h : W.rangeAt q 0 [.int .u8 d, .bool l, .int .u8 s]) : (loadVar 28 ⟨q, 0, none⟩).run Try.prog W = .ok (.agg #[.int .u8 d, .bool l, .int .u8 s]) W :=
  run_loadVar_mid W q 0 28 _ _ h Try.underlying28 rfl info_pad
theorem follow_any (d s : Int) (l : Bool) (w : World) :
    Calls Try.prog 91 #[.agg #[.int .u8 d, .bool l, .int .u8 s]] w fun e w' => e = .returned (.agg #[.int .u8 d, .bool l, .int .u8 (sel l d s)]) ∧ Below w.heap.size w w' := by
  cases l
  all_goals
    go_enter Try.func91, Try.ntmps91
    go_wp2
    refine bodyPost_ret (v := .agg _) (by simp [results, Try.results91, go_sem, sel]) rfl ⟨rfl, ?_⟩
    exact stA (stA (st0 _) _) _
theorem write_any (d s x : Int) (l : Bool) (w : World) (hx : 0 ≤ x ∧ x ≤ 255) :
    Calls Try.prog 83 #[.agg #[.int .u8 d, .bool l, .int .u8 s], .int .u8 x] w fun e w' => e = .returned (.agg #[.int .u8 d, .bool (odd x), .int .u8 (sel (odd x) d s)]) ∧ Below w.heap.size w w' := by
  have ha : (bits .and .u8 x 1 == 1) = odd x := by rw [and_one' x hx]; rfl
  go_enter Try.func83, Try.ntmps83
  go_wp2_with (go_at_call 91; refine (follow_any _ _ _ _).mono ?_; rintro e w1 ⟨rfl, hb1⟩; obtain ⟨k1, f1⟩ := bcell hb1; have z1 : w.heap.size + 1 < w1.heap.size := Nat.lt_of_lt_of_le (by simp) hb1.size)
  have hF := Pl.fin [.int .u8 d, .bool (odd x), .int .u8 (sel (odd x) d s)] (Pl.there_new _ _ _ 3 (w.heap.size + 1) (by simp) rfl) (stA (stA (st0 w) _) _) hb1 (by simp) (by omega)
  exact bodyPost_ret (v := .agg _) (by simp only [results, Try.results83]; simp; exact load_pad _ _ _ _ _ hF.2) rfl ⟨rfl, hF.1⟩
theorem read_pad (d s : Int) (l : Bool) (w : World) (hd : 0 ≤ d ∧ d ≤ 255) (hs : 0 ≤ s ∧ s ≤ 255) :
    Calls Try.prog 82 #[.agg #[.int .u8 d, .bool l, .int .u8 s]] w fun e w' => e = .returned (.tuple #[.int .u8 (sel l d s / 128), .agg #[.int .u8 d, .bool l, .int .u8 (sel l s (s * 2 % 256 + 1))]]) ∧ Below w.heap.size w w' := by
  have ho := or_one' s hs
  cases l
  · go_enter Try.func82, Try.ntmps82
    go_wp2
    go_region_held3 (fun w' => w'.cell? ⟨w.heap.size, 0, none⟩ = some (.int .u8 d) ∧ w'.cell? ⟨w.heap.size, 1, none⟩ = some (.bool false) ∧ w'.cell? ⟨w.heap.size, 2, none⟩ = some (.int .u8 (s * 2 % 256 + 1)))
      ((go_keep; done))
      (fail)
    go_wp2
    refine bodyPost_ret (v := .tuple #[_, .agg _]) (by simp [results, Try.results82, go_sem, sel]) rfl ⟨rfl, ?_⟩
    exact (stA (stA (st0 _) _) _).drew
  · go_enter Try.func82, Try.ntmps82
    go_wp2
    go_region_held3 (fun w' => w'.cell? ⟨w.heap.size, 0, none⟩ = some (.int .u8 d) ∧ w'.cell? ⟨w.heap.size, 1, none⟩ = some (.bool true) ∧ w'.cell? ⟨w.heap.size, 2, none⟩ = some (.int .u8 s))
      ((go_keep; done))
      (fail)
    go_wp2
    refine bodyPost_ret (v := .tuple #[_, .agg _]) (by simp [results, Try.results82, go_sem, sel]) rfl ⟨rfl, ?_⟩
    exact (stA (stA (st0 _) _) _).drew
/-- What is shifted out behind so many Reads. -/
def shN (d : Int) (k : Nat) : Int := (d * 2 ^ k + (2 ^ k - 1)) % 256
def alN (d : Int) (k : Nat) : Int := d / 2 ^ (8 - k)
theorem setC_size (b : Nat) : ∀ (vs : List Value) (o : Nat) (w : World), (w.setCells b o vs).heap.size = w.heap.size
  | [], o, w => rfl
  | v :: vs, o, w => (setC_size b vs (o + 1) _).trans (by simp)
theorem sh_next : ∀ d : Nat, d < 256 → ∀ k : Nat, k < 8 → shN d k * 2 % 256 + 1 = shN d (k + 1) ∧ 0 ≤ shN d k ∧ shN d k ≤ 255 ∧ bits .or .u8 (alN d k * 2 % 256) (shN d k / 128) = alN d (k + 1) ∧ 0 ≤ alN d k ∧ alN d k ≤ 255 := by decide +kernel
theorem sh_end : ∀ d : Nat, d < 256 → shN d 0 = d ∧ shN d 8 = 255 ∧ alN d 0 = 0 ∧ alN d 8 = d := by decide +kernel
/-- Between two Reads of All: the pad at its box, and the result's box behind it. -/
structure AllW (w : World) (n : Nat) (k : Nat) (wr : World) : Prop where
  low : Below w.heap.size w wr
  c : wr.rangeAt w.heap.size 0 [.int .u8 n, .bool false, .int .u8 (shN n k)]
  f : ∀ o, wr.frozen? ⟨w.heap.size, o, none⟩ = false
  th : wr.there (w.heap.size + 1) 0 3
  lt : w.heap.size + 1 < wr.heap.size
theorem AllW.put {w w0 w1 : World} {n k : Nat} (hl : Below w.heap.size w w0) (hb : Below w0.heap.size w0 w1) (h0 : w0.there w.heap.size 0 3) (h1 : w0.there (w.heap.size + 1) 0 3) (hf : ∀ o, w0.frozen? ⟨w.heap.size, o, none⟩ = false) (hz : w.heap.size + 1 < w0.heap.size) :
    AllW w n k (w1.setCells w.heap.size 0 [.int .u8 n, .bool false, .int .u8 (shN n k)]) := by
  have hs := hb.size
  have h := Pl.fin [.int .u8 n, .bool false, .int .u8 (shN n k)] h0 hl hb (by omega) (Nat.le_refl _)
  have t1 := Pl.there_old h1 hb hz
  refine ⟨h.1, h.2, fun o => ?_, fun j hj => ?_, ?_⟩
  · rw [World.frozen?_setCells]
    exact (hb.frozen (p := ⟨w.heap.size, o, none⟩) (show w.heap.size < w0.heap.size by omega)).trans (hf o)
  · rw [World.frozen?_setCells, World.cell?_setCells_out _ _ _ _ _ (fun e => absurd e (by simp))]
    exact t1 j hj
  · have := (setC_size w.heap.size [.int .u8 n, .bool false, .int .u8 (shN n k)] 0 w1)
    omega
set_option maxRecDepth 100000 in
theorem eq_pad (d s : Int) (l : Bool) (w : World) : (binOp .eql 28 (.agg #[.int .u8 d, .bool l, .int .u8 s]) (.agg #[.int .u8 d, .bool l, .int .u8 s])).run Try.prog w = .ok (.bool true) w := by
  have u3 := Try.underlying5
  have a3 := Try.isAgg5
  have z3 := Try.sizeOf5
  have u4 := Try.underlying4
  have a4 := Try.isAgg4
  have z4 := Try.sizeOf4
  have hS : Try.prog.underlying 28 = some (.struct (Try.prog.fieldsOf 28)) := by kernel_rfl
  have hp : Try.prog.stoodInHeld 28 = false := by kernel_rfl
  rw [run_eql_struct, show (10000 : Nat) = 9999 + 1 from rfl, run_equalIn_agg w 9999 28 _ _ hS hp]
  simp only [Program.fieldsOf, Try.underlying28]
  go_simp
set_option maxRecDepth 100000 in
theorem neq_pad (d s : Int) (l : Bool) (w : World) : (binOp .neq 28 (.agg #[.int .u8 d, .bool l, .int .u8 s]) (.agg #[.int .u8 d, .bool l, .int .u8 s])).run Try.prog w = .ok (.bool false) w := by
  have h := eq_pad d s l w
  rw [run_eql_struct] at h
  rw [run_neq_struct]
  revert h
  generalize Sem.run Try.prog (Op.equalIn 10000 28 _ _) w = r
  intro h
  cases r with
  | ok b w' =>
    have e : Result.ok (Value.bool b) w' = .ok (.bool true) w := h
    injection e with e1 e2
    injection e1 with e3
    subst e3 e2
    rfl
  | _ => cases h
/-! ### the reference's pads -/
theorem pr_read (d s : Int) (l : Bool) (w : World) (hd : 0 ≤ d ∧ d ≤ 255) (hs : 0 ≤ s ∧ s ≤ 255) :
    Calls Try.prog 34 #[.agg #[.int .u8 d, .bool l, .int .u8 s]] w fun e w' => e = .returned (.tuple #[.int .u8 (sel l d s / 128), .agg #[.int .u8 d, .bool l, .int .u8 (sel l s (s * 2 % 256 + 1))]]) ∧ Below w.heap.size w w' := by
  have ho : IntKind.u8.wrap (s * 2 + 1) = s * 2 % 256 + 1 := by simp [IntKind.wrap, IntKind.bits, IntKind.signed]; omega
  have hq : IntKind.u8.wrap (d.tdiv 128) = d / 128 := by rw [Int.tdiv_eq_ediv_of_nonneg hd.1]; simp [IntKind.wrap, IntKind.bits, IntKind.signed]; omega
  cases l
  · go_enter Try.func34, Try.ntmps34
    go_wp2
    go_region_held3 (fun w' => w'.cell? ⟨w.heap.size, 0, none⟩ = some (.int .u8 d) ∧ w'.cell? ⟨w.heap.size, 1, none⟩ = some (.bool false) ∧ w'.cell? ⟨w.heap.size, 2, none⟩ = some (.int .u8 (s * 2 % 256 + 1)))
      ((go_keep; done))
      (fail)
    go_wp2
    refine bodyPost_ret (v := .tuple #[_, .agg _]) (by simp [results, Try.results34, go_sem, sel]) rfl ⟨rfl, ?_⟩
    exact (stA (stA (st0 _) _) _).drew
  · go_enter Try.func34, Try.ntmps34
    go_wp2
    go_region_held3 (fun w' => w'.cell? ⟨w.heap.size, 0, none⟩ = some (.int .u8 d) ∧ w'.cell? ⟨w.heap.size, 1, none⟩ = some (.bool true) ∧ w'.cell? ⟨w.heap.size, 2, none⟩ = some (.int .u8 s))
      ((go_keep; done))
      (fail)
    go_wp2
    refine bodyPost_ret (v := .tuple #[_, .agg _]) (by simp [results, Try.results34, go_sem, sel]) rfl ⟨rfl, ?_⟩
    exact (stA (stA (st0 _) _) _).drew
theorem pr_write (d s x : Int) (l : Bool) (w : World) (hx : 0 ≤ x ∧ x ≤ 255) :
    Calls Try.prog 39 #[.agg #[.int .u8 d, .bool l, .int .u8 s], .int .u8 x] w fun e w' => e = .returned (.agg #[.int .u8 d, .bool (odd x), .int .u8 (sel (odd x) d s)]) ∧ Below w.heap.size w w' := by
  have hm : x % 2 = 0 ∨ x % 2 = 1 := by omega
  rcases hm with h | h
  all_goals
    have ho : odd x = (x % 2 == 1) := rfl
    rw [ho, h]
    have hw : IntKind.u8.wrap (x.tmod 2) = x % 2 := by rw [Int.tmod_eq_emod_of_nonneg hx.1]; simp [IntKind.wrap, IntKind.bits, IntKind.signed]; omega
    go_enter Try.func39, Try.ntmps39
    go_wp2
    refine bodyPost_ret (v := .agg _) (by simp [results, Try.results39, go_sem, sel]) rfl ⟨rfl, ?_⟩
    exact stA (stA (st0 _) _) _
end Go.Proofs.Ythooknikfachnaa
