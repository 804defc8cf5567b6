/-
  Parts of a proof, joined.
-/
import Derived.Test.YtlibaekomndmoaaSb03
namespace Go.Proofs.Ytlibaekomndmoaa
open Go.ChangeShapes Go.WideShapes Go.ChangeAt Go.RowKit
set_option linter.unusedVariables false
set_option maxRecDepth 100000
inductive Ct where
  | u8 (n : Int)
  | bo (b : Bool)
  | u16 (n : Int)
  | num (n : Int)
  | lst (l : List UInt8)
inductive Kd where
  | u8 | bo | u16 | num | lst
def Ct.kd : Ct → Kd
  | .u8 _ => .u8
  | .bo _ => .bo
  | .u16 _ => .u16
  | .num _ => .num
  | .lst _ => .lst
def Ct.ok : Ct → Prop
  | .u8 n => 0 ≤ n ∧ n ≤ 255
  | .bo _ => True
  | .u16 n => 0 ≤ n ∧ n ≤ 65535
  | .num n => 0 ≤ n ∧ n ≤ 4294967295
  | .lst l => l.length ≤ 65535
def b8 (n : Int) : UInt8 := UInt8.ofNat n.toNat
theorem b8_nat {n : Int} (h : 0 ≤ n ∧ n ≤ 255) : ((b8 n).toNat : Int) = n := by
  unfold b8
  rw [UInt8.toNat_ofNat']
  omega
theorem b8_of (c : UInt8) : b8 (c.toNat : Int) = c := by
  unfold b8
  simp
theorem u8_bd (c : UInt8) : 0 ≤ (c.toNat : Int) ∧ (c.toNat : Int) ≤ 255 := by
  have := c.toNat_lt
  omega
def wW (n : Int) : List UInt8 := [b8 (n / 256), b8 (n % 256)]
def wN (n : Int) : List UInt8 := wW (n / 65536) ++ wW (n % 65536)
def Ct.wr : Ct → List UInt8
  | .u8 n => [b8 n]
  | .bo b => [if b then 1 else 0]
  | .u16 n => wW n
  | .num n => wN n
  | .lst l => wW l.length ++ l
def rW : List UInt8 → Option (Int × List UInt8)
  | a :: b :: l => some ((a.toNat : Int) * 256 + b.toNat, l)
  | _ => none
def rN (l : List UInt8) : Option (Int × List UInt8) :=
  match rW l with
  | none => none
  | some (x, l1) => match rW l1 with
    | none => none
    | some (y, l2) => some (x * 65536 + y, l2)
def rL (l : List UInt8) : Option (List UInt8 × List UInt8) :=
  match rW l with
  | none => none
  | some (x, l1) => if x ≤ l1.length then some (l1.take x.toNat, l1.drop x.toNat) else none
def rdK : Kd → List UInt8 → Option (Ct × List UInt8)
  | .u8, c :: l => some (.u8 c.toNat, l)
  | .u8, [] => none
  | .bo, c :: l => if c.toNat ≤ 1 then some (.bo (c.toNat == 1), l) else none
  | .bo, [] => none
  | .u16, l => (rW l).map (fun p => (.u16 p.1, p.2))
  | .num, l => (rN l).map (fun p => (.num p.1, p.2))
  | .lst, l => (rL l).map (fun p => (.lst p.1, p.2))
theorem rW_wW {n : Int} (h : 0 ≤ n ∧ n ≤ 65535) (l : List UInt8) : rW (wW n ++ l) = some (n, l) := by
  show some (((b8 (n / 256)).toNat : Int) * 256 + ((b8 (n % 256)).toNat : Int), l) = _
  rw [b8_nat (by omega), b8_nat (by omega)]
  congr 2
  omega
theorem rW_inv {l l' : List UInt8} {n : Int} (h : rW l = some (n, l')) : l = wW n ++ l' ∧ 0 ≤ n ∧ n ≤ 65535 := by
  unfold rW at h
  split at h
  · rename_i a b t
    simp only [Option.some.injEq, Prod.mk.injEq] at h
    obtain ⟨rfl, rfl⟩ := h
    have ha := u8_bd a
    have hb := u8_bd b
    refine ⟨?_, by omega, by omega⟩
    show a :: b :: t = b8 _ :: b8 _ :: t
    rw [show ((a.toNat : Int) * 256 + b.toNat) / 256 = a.toNat by omega, show ((a.toNat : Int) * 256 + b.toNat) % 256 = b.toNat by omega, b8_of, b8_of]
  · cases h
theorem rN_wN {n : Int} (h : 0 ≤ n ∧ n ≤ 4294967295) (l : List UInt8) : rN (wN n ++ l) = some (n, l) := by
  unfold rN wN
  rw [List.append_assoc, rW_wW (by omega)]
  simp only
  rw [rW_wW (by omega)]
  simp only
  congr 2
  omega
theorem rN_inv {l l' : List UInt8} {n : Int} (h : rN l = some (n, l')) : l = wN n ++ l' ∧ 0 ≤ n ∧ n ≤ 4294967295 := by
  unfold rN at h
  split at h
  · cases h
  · rename_i x l1 h1
    split at h
    · cases h
    · rename_i y l2 h2
      simp only [Option.some.injEq, Prod.mk.injEq] at h
      obtain ⟨rfl, rfl⟩ := h
      obtain ⟨e1, b1⟩ := rW_inv h1
      obtain ⟨e2, b2⟩ := rW_inv h2
      refine ⟨?_, by omega, by omega⟩
      unfold wN
      rw [List.append_assoc, show (x * 65536 + y) / 65536 = x by omega, show (x * 65536 + y) % 65536 = y by omega, ← e2, ← e1]
theorem rL_wL {k : List UInt8} (h : k.length ≤ 65535) (l : List UInt8) : rL ((wW k.length ++ k) ++ l) = some (k, l) := by
  unfold rL
  rw [List.append_assoc, rW_wW (by omega)]
  simp only
  rw [if_pos (by rw [List.length_append]; omega)]
  simp
theorem rL_inv {l l' k : List UInt8} (h : rL l = some (k, l')) : l = (wW k.length ++ k) ++ l' ∧ k.length ≤ 65535 := by
  unfold rL at h
  split at h
  · cases h
  · rename_i x l1 h1
    split at h
    · rename_i hx
      simp only [Option.some.injEq, Prod.mk.injEq] at h
      obtain ⟨rfl, rfl⟩ := h
      obtain ⟨e1, b1⟩ := rW_inv h1
      have hl : (l1.take x.toNat).length = x.toNat := by rw [List.length_take]; omega
      refine ⟨?_, by rw [hl]; omega⟩
      rw [hl, List.append_assoc, List.take_append_drop, show ((x.toNat : Nat) : Int) = x by omega, ← e1]
    · cases h
theorem rdK_wr {c : Ct} (h : c.ok) (l : List UInt8) : rdK c.kd (c.wr ++ l) = some (c, l) := by
  cases c with
  | u8 n => show some (Ct.u8 ((b8 n).toNat : Int), l) = _; rw [b8_nat h]
  | bo b => cases b <;> rfl
  | u16 n => simp only [Ct.kd, Ct.wr, rdK]; rw [rW_wW h]; rfl
  | num n => simp only [Ct.kd, Ct.wr, rdK]; rw [rN_wN h]; rfl
  | lst k => simp only [Ct.kd, Ct.wr, rdK]; rw [rL_wL h]; rfl
theorem rdK_inv {k : Kd} {c : Ct} {l l' : List UInt8} (h : rdK k l = some (c, l')) : l = c.wr ++ l' ∧ c.ok ∧ c.kd = k := by
  cases k with
  | u8 =>
    cases l with
    | nil => cases h
    | cons x t =>
      simp only [rdK, Option.some.injEq, Prod.mk.injEq] at h
      obtain ⟨rfl, rfl⟩ := h
      exact ⟨by show x :: t = b8 _ :: t; rw [b8_of], u8_bd x, rfl⟩
  | bo =>
    cases l with
    | nil => cases h
    | cons x t =>
      simp only [rdK] at h
      split at h
      · rename_i hx
        simp only [Option.some.injEq, Prod.mk.injEq] at h
        obtain ⟨rfl, rfl⟩ := h
        refine ⟨?_, trivial, rfl⟩
        have hc : x = 0 ∨ x = 1 := by
          have : x.toNat = 0 ∨ x.toNat = 1 := by omega
          rcases this with e | e
          · exact Or.inl (UInt8.toNat_inj.1 e)
          · exact Or.inr (UInt8.toNat_inj.1 e)
        rcases hc with rfl | rfl <;> rfl
      · cases h
  | u16 =>
    simp only [rdK, Option.map_eq_some_iff, Prod.mk.injEq] at h
    obtain ⟨⟨n, t⟩, h1, rfl, rfl⟩ := h
    obtain ⟨e, b⟩ := rW_inv h1
    exact ⟨e, b, rfl⟩
  | num =>
    simp only [rdK, Option.map_eq_some_iff, Prod.mk.injEq] at h
    obtain ⟨⟨n, t⟩, h1, rfl, rfl⟩ := h
    obtain ⟨e, b⟩ := rN_inv h1
    exact ⟨e, b, rfl⟩
  | lst =>
    simp only [rdK, Option.map_eq_some_iff, Prod.mk.injEq] at h
    obtain ⟨⟨n, t⟩, h1, rfl, rfl⟩ := h
    obtain ⟨e, b⟩ := rL_inv h1
    exact ⟨e, b, rfl⟩
/-! ### one behind the other -/
def wrL : List Ct → List UInt8
  | [] => []
  | c :: xs => c.wr ++ wrL xs
theorem wrL_app : ∀ a b : List Ct, wrL (a ++ b) = wrL a ++ wrL b
  | [], b => rfl
  | c :: a, b => by simp only [List.cons_append, wrL, wrL_app a b, List.append_assoc]
def rdL : List Kd → List UInt8 → Option (List Ct × List UInt8)
  | [], l => some ([], l)
  | k :: ks, l => match rdK k l with
    | none => none
    | some (c, l1) => match rdL ks l1 with
      | none => none
      | some (xs, l2) => some (c :: xs, l2)
theorem rdL_app : ∀ (a b : List Kd) (l : List UInt8), rdL (a ++ b) l = match rdL a l with
    | none => none
    | some (xs, l1) => match rdL b l1 with
      | none => none
      | some (ys, l2) => some (xs ++ ys, l2)
  | [], b, l => by
    show rdL b l = match rdL b l with | none => none | some (ys, l2) => some ([] ++ ys, l2)
    cases rdL b l <;> rfl
  | k :: a, b, l => by
    simp only [List.cons_append, rdL]
    cases h : rdK k l with
    | none => rfl
    | some p =>
      obtain ⟨c, l1⟩ := p
      simp only
      rw [rdL_app a b l1]
      cases h2 : rdL a l1 with
      | none => rfl
      | some q =>
        obtain ⟨xs, l2⟩ := q
        simp only
        cases rdL b l2 with
        | none => rfl
        | some r => rfl
theorem rdL_wr : ∀ (xs : List Ct) (l : List UInt8), (∀ c ∈ xs, c.ok) → rdL (xs.map Ct.kd) (wrL xs ++ l) = some (xs, l)
  | [], l, h => rfl
  | c :: xs, l, h => by
    simp only [List.map_cons, rdL, wrL, List.append_assoc]
    rw [rdK_wr (h c List.mem_cons_self)]
    simp only
    rw [rdL_wr xs l (fun x hx => h x (List.mem_cons_of_mem _ hx))]
theorem rdL_inv : ∀ (ks : List Kd) (l l' : List UInt8) (xs : List Ct), rdL ks l = some (xs, l') → l = wrL xs ++ l' ∧ (∀ c ∈ xs, c.ok) ∧ xs.map Ct.kd = ks
  | [], l, l', xs, h => by
    simp only [rdL, Option.some.injEq, Prod.mk.injEq] at h
    obtain ⟨rfl, rfl⟩ := h
    exact ⟨rfl, (fun c hc => by cases hc), rfl⟩
  | k :: ks, l, l', xs, h => by
    simp only [rdL] at h
    split at h
    · cases h
    · rename_i c l1 h1
      split at h
      · cases h
      · rename_i ys l2 h2
        simp only [Option.some.injEq, Prod.mk.injEq] at h
        obtain ⟨rfl, rfl⟩ := h
        obtain ⟨e1, o1, k1⟩ := rdK_inv h1
        obtain ⟨e2, o2, k2⟩ := rdL_inv ks l1 l2 ys h2
        refine ⟨by rw [e1, e2]; simp only [wrL, List.append_assoc], fun x hx => ?_, by simp only [List.map_cons, k1, k2]⟩
        rcases List.mem_cons.1 hx with rfl | hx
        · exact o1
        · exact o2 x hx
theorem rdL_len {ks : List Kd} {l l' : List UInt8} {xs : List Ct} (h : rdL ks l = some (xs, l')) : xs.length = ks.length := by
  have := (rdL_inv ks l l' xs h).2.2
  rw [← this, List.length_map]
theorem rdL_next {K : List Kd} {n k : Nat} {l l1 : List UInt8} {xs : List Ct} (h : rdL (K.take n) l = some (xs, l1)) :
    (rdL ((K.drop n).take k) l1 = none → rdL K l = none) ∧ ∀ ys l2, rdL ((K.drop n).take k) l1 = some (ys, l2) → rdL (K.take (n + k)) l = some (xs ++ ys, l2) := by
  have e : K.take (n + k) = K.take n ++ (K.drop n).take k := by rw [List.take_add]
  refine ⟨fun hn => ?_, fun ys l2 hy => ?_⟩
  · have e2 : K = K.take n ++ ((K.drop n).take k ++ (K.drop n).drop k) := by rw [List.take_append_drop, List.take_append_drop]
    rw [e2, rdL_app, h]
    simp only
    rw [rdL_app, hn]
  · rw [e, rdL_app, h]
    simp only
    rw [hy]
def setAll (cs : List Ct) : List Nat → List Ct → List Ct
  | i :: is, x :: xs => setAll (cs.set i x) is xs
  | _, _ => cs
theorem setAll_app : ∀ (cs : List Ct) (a b : List Nat) (xs ys : List Ct), xs.length = a.length → setAll cs (a ++ b) (xs ++ ys) = setAll (setAll cs a xs) b ys
  | cs, [], b, [], ys, h => rfl
  | cs, i :: a, b, x :: xs, ys, h => by
    simp only [List.cons_append, setAll]
    exact setAll_app _ a b xs ys (by simpa using h)
  | cs, [], b, x :: xs, ys, h => by simp at h
  | cs, i :: a, b, [], ys, h => by simp at h
/-! ### a machine's -/
def cpuC (c : C.Cpu) : List Ct := [.u16 (c.r 0), .u16 (c.r 1), .u16 (c.r 2), .u16 (c.r 3), .u16 (c.r 4), .u16 (c.r 5), .u16 (c.r 6), .u16 (c.r 7), .u16 c.PC, .bo c.Z, .bo c.N, .bo c.C, .bo c.V, .bo c.May, .bo c.Waits]
def machC (M : Mach) : List Ct := cpuC M.main ++ (cpuC M.aux ++ ([.lst M.mrom, .lst M.arom, .lst M.ram, .lst M.own, .lst M.video] ++
  [.u8 M.p0.d, .bo M.p0.l, .u8 M.p0.s, .u8 M.p1.d, .bo M.p1.l, .u8 M.p1.s, .u16 M.t.r, .u16 M.t.c, .bo M.t.on, .bo M.t.g,
  .u16 M.s.a.p, .u16 M.s.a.c, .u8 M.s.a.l, .bo M.s.a.h, .u16 M.s.a.n, .u16 M.s.b.p, .u16 M.s.b.c, .u8 M.s.b.l, .bo M.s.b.h, .u16 M.s.b.n, .u16 M.s.c.p, .u16 M.s.c.c, .u8 M.s.c.l, .bo M.s.c.h, .u16 M.s.c.n, .num M.s.w,
  .num M.b.l, .num M.b.a, .bo M.b.g, .num M.b.f, .u16 M.fr, .u16 M.to, .bo M.granted, .bo M.held, .u8 M.m0, .u8 M.m1, .bo M.rung, .num M.clock, .num M.mready, .num M.aready]))
def svI : List Nat := [0, 1, 2, 3, 4, 5, 6, 7, 8, 9, 10, 11, 12, 13, 14, 15, 16, 17, 18, 19, 20, 21, 22, 23, 24, 25, 26, 27, 28, 29, 30, 31, 32, 33, 34, 35, 37, 36, 38, 40, 39, 41, 42, 43, 44,
  45, 46, 49, 47, 48, 50, 51, 54, 52, 53, 55, 56, 59, 57, 58, 60, 61, 62, 64, 63, 65, 66, 69, 70, 67, 68, 71, 72, 73, 74]
def svT : List Kd := [.u16, .u16, .u16, .u16, .u16, .u16, .u16, .u16, .u16, .bo, .bo, .bo, .bo, .bo, .bo, .u16, .u16, .u16, .u16, .u16, .u16, .u16, .u16, .u16, .bo, .bo, .bo, .bo, .bo, .bo, .lst, .lst, .lst, .lst, .lst,
  .u8, .bo, .u8, .u8, .bo, .u8, .u16, .u16, .bo, .bo, .u16, .u16, .u8, .bo, .u16, .u16, .u16, .u8, .bo, .u16, .u16, .u16, .u8, .bo, .u16, .num, .num, .num, .bo, .num, .u16, .u16, .bo, .bo, .u8, .u8, .bo, .num, .num, .num]
def svK : List Kd := svI.map (fun i => svT.getD i .u8)
def svX (M : Mach) : List Ct := svI.map (fun i => (machC M).getD i (.u8 0))
def enc (M : Mach) : List UInt8 := wrL (svX M)
theorem svX_kd (M : Mach) : (svX M).map Ct.kd = svK := rfl
theorem svX_take (M : Mach) (n k : Nat) : wrL ((svX M).take n) ++ wrL (((svX M).drop n).take k) = wrL ((svX M).take (n + k)) := by
  rw [← wrL_app, List.take_add]
end Go.Proofs.Ytlibaekomndmoaa
