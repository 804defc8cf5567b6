/-
  Parts of a proof, joined.
-/
import Derived.Test.YtdioiilmpjckfaaZt02
import Derived.Deep.RegionHeld3
namespace Go.Proofs.Ytdioiilmpjckfaa
open Go.ChangeShapes Go.WideShapes Go.ChangeAt Go.RowKit
set_option linter.unusedVariables false
set_option maxRecDepth 100000
inductive Ct where
  | u8 (n : Int)
  | bo (b : Bool)
  | u16 (n : Int)
  | num (n : Int)
  | lst (l : List UInt8)
inductive Kd where
  | u8 | bo | u16 | num | lst
def Ct.kd : Ct → Kd
  | .u8 _ => .u8
  | .bo _ => .bo
  | .u16 _ => .u16
  | .num _ => .num
  | .lst _ => .lst
def Ct.ok : Ct → Prop
  | .u8 n => 0 ≤ n ∧ n ≤ 255
  | .bo _ => True
  | .u16 n => 0 ≤ n ∧ n ≤ 65535
  | .num n => 0 ≤ n ∧ n ≤ 4294967295
  | .lst l => l.length ≤ 65535
def b8 (n : Int) : UInt8 := UInt8.ofNat n.toNat
theorem b8_nat {n : Int} (h : 0 ≤ n ∧ n ≤ 255) : ((b8 n).toNat : Int) = n := by
  unfold b8
  rw [UInt8.toNat_ofNat']
  omega
theorem b8_of (c : UInt8) : b8 (c.toNat : Int) = c := by
  unfold b8
  simp
theorem u8_bd (c : UInt8) : 0 ≤ (c.toNat : Int) ∧ (c.toNat : Int) ≤ 255 := by
  have := c.toNat_lt
  omega
def wW (n : Int) : List UInt8 := [b8 (n / 256), b8 (n % 256)]
def wN (n : Int) : List UInt8 := wW (n / 65536) ++ wW (n % 65536)
def Ct.wr : Ct → List UInt8
  | .u8 n => [b8 n]
  | .bo b => [if b then 1 else 0]
  | .u16 n => wW n
  | .num n => wN n
  | .lst l => wW l.length ++ l
def rW : List UInt8 → Option (Int × List UInt8)
  | a :: b :: l => some ((a.toNat : Int) * 256 + b.toNat, l)
  | _ => none
def rN (l : List UInt8) : Option (Int × List UInt8) :=
  match rW l with
  | none => none
  | some (x, l1) => match rW l1 with
    | none => none
    | some (y, l2) => some (x * 65536 + y, l2)
def rL (l : List UInt8) : Option (List UInt8 × List UInt8) :=
  match rW l with
  | none => none
  | some (x, l1) => if x ≤ l1.length then some (l1.take x.toNat, l1.drop x.toNat) else none
def rdK : Kd → List UInt8 → Option (Ct × List UInt8)
  | .u8, c :: l => some (.u8 c.toNat, l)
  | .u8, [] => none
  | .bo, c :: l => if c.toNat ≤ 1 then some (.bo (c.toNat == 1), l) else none
  | .bo, [] => none
  | .u16, l => (rW l).map (fun p => (.u16 p.1, p.2))
  | .num, l => (rN l).map (fun p => (.num p.1, p.2))
  | .lst, l => (rL l).map (fun p => (.lst p.1, p.2))
theorem rW_wW {n : Int} (h : 0 ≤ n ∧ n ≤ 65535) (l : List UInt8) : rW (wW n ++ l) = some (n, l) := by
  show some (((b8 (n / 256)).toNat : Int) * 256 + ((b8 (n % 256)).toNat : Int), l) = _
  rw [b8_nat (by omega), b8_nat (by omega)]
  congr 2
  omega
theorem rW_inv {l l' : List UInt8} {n : Int} (h : rW l = some (n, l')) : l = wW n ++ l' ∧ 0 ≤ n ∧ n ≤ 65535 := by
  unfold rW at h
  split at h
  · rename_i a b t
    simp only [Option.some.injEq, Prod.mk.injEq] at h
    obtain ⟨rfl, rfl⟩ := h
    have ha := u8_bd a
    have hb := u8_bd b
    refine ⟨?_, by omega, by omega⟩
    show a :: b :: t = b8 _ :: b8 _ :: t
    rw [show ((a.toNat : Int) * 256 + b.toNat) / 256 = a.toNat by omega, show ((a.toNat : Int) * 256 + b.toNat) % 256 = b.toNat by omega, b8_of, b8_of]
  · cases h
theorem rN_wN {n : Int} (h : 0 ≤ n ∧ n ≤ 4294967295) (l : List UInt8) : rN (wN n ++ l) = some (n, l) := by
  unfold rN wN
  rw [List.append_assoc, rW_wW (by omega)]
  simp only
  rw [rW_wW (by omega)]
  simp only
  congr 2
  omega
theorem rN_inv {l l' : List UInt8} {n : Int} (h : rN l = some (n, l')) : l = wN n ++ l' ∧ 0 ≤ n ∧ n ≤ 4294967295 := by
  unfold rN at h
  split at h
  · cases h
  · rename_i x l1 h1
    split at h
    · cases h
    · rename_i y l2 h2
      simp only [Option.some.injEq, Prod.mk.injEq] at h
      obtain ⟨rfl, rfl⟩ := h
      obtain ⟨e1, b1⟩ := rW_inv h1
      obtain ⟨e2, b2⟩ := rW_inv h2
      refine ⟨?_, by omega, by omega⟩
      unfold wN
      rw [List.append_assoc, show (x * 65536 + y) / 65536 = x by omega, show (x * 65536 + y) % 65536 = y by omega, ← e2, ← e1]
theorem rL_wL {k : List UInt8} (h : k.length ≤ 65535) (l : List UInt8) : rL ((wW k.length ++ k) ++ l) = some (k, l) := by
  unfold rL
  rw [List.append_assoc, rW_wW (by omega)]
  simp only
  rw [if_pos (by rw [List.length_append]; omega)]
  simp
theorem rL_inv {l l' k : List UInt8} (h : rL l = some (k, l')) : l = (wW k.length ++ k) ++ l' ∧ k.length ≤ 65535 := by
  unfold rL at h
  split at h
  · cases h
  · rename_i x l1 h1
    split at h
    · rename_i hx
      simp only [Option.some.injEq, Prod.mk.injEq] at h
      obtain ⟨rfl, rfl⟩ := h
      obtain ⟨e1, b1⟩ := rW_inv h1
      have hl : (l1.take x.toNat).length = x.toNat := by rw [List.length_take]; omega
      refine ⟨?_, by rw [hl]; omega⟩
      rw [hl, List.append_assoc, List.take_append_drop, show ((x.toNat : Nat) : Int) = x by omega, ← e1]
    · cases h
theorem rdK_wr {c : Ct} (h : c.ok) (l : List UInt8) : rdK c.kd (c.wr ++ l) = some (c, l) := by
  cases c with
  | u8 n => show some (Ct.u8 ((b8 n).toNat : Int), l) = _; rw [b8_nat h]
  | bo b => cases b <;> rfl
  | u16 n => simp only [Ct.kd, Ct.wr, rdK]; rw [rW_wW h]; rfl
  | num n => simp only [Ct.kd, Ct.wr, rdK]; rw [rN_wN h]; rfl
  | lst k => simp only [Ct.kd, Ct.wr, rdK]; rw [rL_wL h]; rfl
theorem rdK_inv {k : Kd} {c : Ct} {l l' : List UInt8} (h : rdK k l = some (c, l')) : l = c.wr ++ l' ∧ c.ok ∧ c.kd = k := by
  cases k with
  | u8 =>
    cases l with
    | nil => cases h
    | cons x t =>
      simp only [rdK, Option.some.injEq, Prod.mk.injEq] at h
      obtain ⟨rfl, rfl⟩ := h
      exact ⟨by show x :: t = b8 _ :: t; rw [b8_of], u8_bd x, rfl⟩
  | bo =>
    cases l with
    | nil => cases h
    | cons x t =>
      simp only [rdK] at h
      split at h
      · rename_i hx
        simp only [Option.some.injEq, Prod.mk.injEq] at h
        obtain ⟨rfl, rfl⟩ := h
        refine ⟨?_, trivial, rfl⟩
        have hc : x = 0 ∨ x = 1 := by
          have : x.toNat = 0 ∨ x.toNat = 1 := by omega
          rcases this with e | e
          · exact Or.inl (UInt8.toNat_inj.1 e)
          · exact Or.inr (UInt8.toNat_inj.1 e)
        rcases hc with rfl | rfl <;> rfl
      · cases h
  | u16 =>
    simp only [rdK, Option.map_eq_some_iff, Prod.mk.injEq] at h
    obtain ⟨⟨n, t⟩, h1, rfl, rfl⟩ := h
    obtain ⟨e, b⟩ := rW_inv h1
    exact ⟨e, b, rfl⟩
  | num =>
    simp only [rdK, Option.map_eq_some_iff, Prod.mk.injEq] at h
    obtain ⟨⟨n, t⟩, h1, rfl, rfl⟩ := h
    obtain ⟨e, b⟩ := rN_inv h1
    exact ⟨e, b, rfl⟩
  | lst =>
    simp only [rdK, Option.map_eq_some_iff, Prod.mk.injEq] at h
    obtain ⟨⟨n, t⟩, h1, rfl, rfl⟩ := h
    obtain ⟨e, b⟩ := rL_inv h1
    exact ⟨e, b, rfl⟩
/-! ### one behind the other -/
def wrL : List Ct → List UInt8
  | [] => []
  | c :: xs => c.wr ++ wrL xs
theorem wrL_app : ∀ a b : List Ct, wrL (a ++ b) = wrL a ++ wrL b
  | [], b => rfl
  | c :: a, b => by simp only [List.cons_append, wrL, wrL_app a b, List.append_assoc]
def rdL : List Kd → List UInt8 → Option (List Ct × List UInt8)
  | [], l => some ([], l)
  | k :: ks, l => match rdK k l with
    | none => none
    | some (c, l1) => match rdL ks l1 with
      | none => none
      | some (xs, l2) => some (c :: xs, l2)
theorem rdL_app : ∀ (a b : List Kd) (l : List UInt8), rdL (a ++ b) l = match rdL a l with
    | none => none
    | some (xs, l1) => match rdL b l1 with
      | none => none
      | some (ys, l2) => some (xs ++ ys, l2)
  | [], b, l => by
    show rdL b l = match rdL b l with | none => none | some (ys, l2) => some ([] ++ ys, l2)
    cases rdL b l <;> rfl
  | k :: a, b, l => by
    simp only [List.cons_append, rdL]
    cases h : rdK k l with
    | none => rfl
    | some p =>
      obtain ⟨c, l1⟩ := p
      simp only
      rw [rdL_app a b l1]
      cases h2 : rdL a l1 with
      | none => rfl
      | some q =>
        obtain ⟨xs, l2⟩ := q
        simp only
        cases rdL b l2 with
        | none => rfl
        | some r => rfl
theorem rdL_wr : ∀ (xs : List Ct) (l : List UInt8), (∀ c ∈ xs, c.ok) → rdL (xs.map Ct.kd) (wrL xs ++ l) = some (xs, l)
  | [], l, h => rfl
  | c :: xs, l, h => by
    simp only [List.map_cons, rdL, wrL, List.append_assoc]
    rw [rdK_wr (h c List.mem_cons_self)]
    simp only
    rw [rdL_wr xs l (fun x hx => h x (List.mem_cons_of_mem _ hx))]
theorem rdL_inv : ∀ (ks : List Kd) (l l' : List UInt8) (xs : List Ct), rdL ks l = some (xs, l') → l = wrL xs ++ l' ∧ (∀ c ∈ xs, c.ok) ∧ xs.map Ct.kd = ks
  | [], l, l', xs, h => by
    simp only [rdL, Option.some.injEq, Prod.mk.injEq] at h
    obtain ⟨rfl, rfl⟩ := h
    exact ⟨rfl, (fun c hc => by cases hc), rfl⟩
  | k :: ks, l, l', xs, h => by
    simp only [rdL] at h
    split at h
    · cases h
    · rename_i c l1 h1
      split at h
      · cases h
      · rename_i ys l2 h2
        simp only [Option.some.injEq, Prod.mk.injEq] at h
        obtain ⟨rfl, rfl⟩ := h
        obtain ⟨e1, o1, k1⟩ := rdK_inv h1
        obtain ⟨e2, o2, k2⟩ := rdL_inv ks l1 l2 ys h2
        refine ⟨by rw [e1, e2]; simp only [wrL, List.append_assoc], fun x hx => ?_, by simp only [List.map_cons, k1, k2]⟩
        rcases List.mem_cons.1 hx with rfl | hx
        · exact o1
        · exact o2 x hx
theorem rdL_len {ks : List Kd} {l l' : List UInt8} {xs : List Ct} (h : rdL ks l = some (xs, l')) : xs.length = ks.length := by
  have := (rdL_inv ks l l' xs h).2.2
  rw [← this, List.length_map]
theorem rdL_next {K : List Kd} {n k : Nat} {l l1 : List UInt8} {xs : List Ct} (h : rdL (K.take n) l = some (xs, l1)) :
    (rdL ((K.drop n).take k) l1 = none → rdL K l = none) ∧ ∀ ys l2, rdL ((K.drop n).take k) l1 = some (ys, l2) → rdL (K.take (n + k)) l = some (xs ++ ys, l2) := by
  have e : K.take (n + k) = K.take n ++ (K.drop n).take k := by rw [List.take_add]
  refine ⟨fun hn => ?_, fun ys l2 hy => ?_⟩
  · have e2 : K = K.take n ++ ((K.drop n).take k ++ (K.drop n).drop k) := by rw [List.take_append_drop, List.take_append_drop]
    rw [e2, rdL_app, h]
    simp only
    rw [rdL_app, hn]
  · rw [e, rdL_app, h]
    simp only
    rw [hy]
def setAll (cs : List Ct) : List Nat → List Ct → List Ct
  | i :: is, x :: xs => setAll (cs.set i x) is xs
  | _, _ => cs
theorem setAll_app : ∀ (cs : List Ct) (a b : List Nat) (xs ys : List Ct), xs.length = a.length → setAll cs (a ++ b) (xs ++ ys) = setAll (setAll cs a xs) b ys
  | cs, [], b, [], ys, h => rfl
  | cs, i :: a, b, x :: xs, ys, h => by
    simp only [List.cons_append, setAll]
    exact setAll_app _ a b xs ys (by simpa using h)
  | cs, [], b, x :: xs, ys, h => by simp at h
  | cs, i :: a, b, [], ys, h => by simp at h
/-! ### a machine's -/
def cpuC (c : C.Cpu) : List Ct := [.u16 (c.r 0), .u16 (c.r 1), .u16 (c.r 2), .u16 (c.r 3), .u16 (c.r 4), .u16 (c.r 5), .u16 (c.r 6), .u16 (c.r 7), .u16 c.PC, .bo c.Z, .bo c.N, .bo c.C, .bo c.V, .bo c.May, .bo c.Waits]
def machC (M : Mach) : List Ct := cpuC M.main ++ (cpuC M.aux ++ ([.lst M.mrom, .lst M.arom, .lst M.ram, .lst M.own, .lst M.video] ++
  [.u8 M.p0.d, .bo M.p0.l, .u8 M.p0.s, .u8 M.p1.d, .bo M.p1.l, .u8 M.p1.s, .u16 M.t.r, .u16 M.t.c, .bo M.t.on, .bo M.t.g,
  .u16 M.s.a.p, .u16 M.s.a.c, .u8 M.s.a.l, .bo M.s.a.h, .u16 M.s.a.n, .u16 M.s.b.p, .u16 M.s.b.c, .u8 M.s.b.l, .bo M.s.b.h, .u16 M.s.b.n, .u16 M.s.c.p, .u16 M.s.c.c, .u8 M.s.c.l, .bo M.s.c.h, .u16 M.s.c.n, .num M.s.w,
  .num M.b.l, .num M.b.a, .bo M.b.g, .num M.b.f, .u16 M.fr, .u16 M.to, .bo M.granted, .bo M.held, .u8 M.m0, .u8 M.m1, .bo M.rung, .num M.clock, .num M.mready, .num M.aready]))
def svI : List Nat := [0, 1, 2, 3, 4, 5, 6, 7, 8, 9, 10, 11, 12, 13, 14, 15, 16, 17, 18, 19, 20, 21, 22, 23, 24, 25, 26, 27, 28, 29, 30, 31, 32, 33, 34, 35, 37, 36, 38, 40, 39, 41, 42, 43, 44,
  45, 46, 49, 47, 48, 50, 51, 54, 52, 53, 55, 56, 59, 57, 58, 60, 61, 62, 64, 63, 65, 66, 69, 70, 67, 68, 71, 72, 73, 74]
def svT : List Kd := [.u16, .u16, .u16, .u16, .u16, .u16, .u16, .u16, .u16, .bo, .bo, .bo, .bo, .bo, .bo, .u16, .u16, .u16, .u16, .u16, .u16, .u16, .u16, .u16, .bo, .bo, .bo, .bo, .bo, .bo, .lst, .lst, .lst, .lst, .lst,
  .u8, .bo, .u8, .u8, .bo, .u8, .u16, .u16, .bo, .bo, .u16, .u16, .u8, .bo, .u16, .u16, .u16, .u8, .bo, .u16, .u16, .u16, .u8, .bo, .u16, .num, .num, .num, .bo, .num, .u16, .u16, .bo, .bo, .u8, .u8, .bo, .num, .num, .num]
def svK : List Kd := svI.map (fun i => svT.getD i .u8)
def svX (M : Mach) : List Ct := svI.map (fun i => (machC M).getD i (.u8 0))
def enc (M : Mach) : List UInt8 := wrL (svX M)
theorem svX_kd (M : Mach) : (svX M).map Ct.kd = svK := rfl
theorem svX_take (M : Mach) (n k : Nat) : wrL ((svX M).take n) ++ wrL (((svX M).drop n).take k) = wrL ((svX M).take (n + k)) := by
  rw [← wrL_app, List.take_add]
end Go.Proofs.Ytdioiilmpjckfaa
namespace Go.Proofs.Ytdioiilmpjckfaa
open Go.ChangeShapes Go.WideShapes Go.ChangeAt Go.RowKit
open Go
set_option linter.unusedVariables false
set_option maxRecDepth 100000
section
variable {P : Program} {ops : Array Oper} {Q : Exit → Act → World → Prop} {md : Region.Mode} {S : World → Prop} {st : Nat}
def wpAnyG (P : Program) (md : Region.Mode) (ops : Array Oper) (Q : Exit → Act → World → Prop) (S : World → Prop) (st : Nat) : Nat → Array Bool → Act → World → Prop
  | 0, listed, a, w => Region.ready md ops listed = [] ∧ Q .normal a w
  | fuel + 1, listed, a, w =>
    (Region.ready md ops listed = [] → Q .normal a w) ∧
    ∀ i ∈ Region.ready md ops listed, wpOp P ops Q i (fun a' w' => ((listed.setIfInBounds i true).getD st true = false → S w') ∧ wpAnyG P md ops Q S st fuel (listed.setIfInBounds i true) a' w') a w
theorem wpAny_of_G : ∀ (fuel : Nat) (listed : Array Bool) (a : Act) (w : World), wpAnyG P md ops Q S st fuel listed a w → wpAny P md ops Q fuel listed a w
  | 0, _, _, _, h => h
  | fuel + 1, _, _, _, h => ⟨h.1, fun i hi => wpOp_mono (fun a' w' h' => wpAny_of_G fuel _ a' w' h'.2) (h.2 i hi)⟩
def waits (md : Region.Mode) (ops : Array Oper) (st i : Nat) : Bool :=
  match ops[st]? with
  | some o => o.after.toList.any fun e => Region.binds md e && e.on == i
  | none => false
theorem waits_spec {i : Nat} (h : waits md ops st i = true) : ∃ os, ops[st]? = some os ∧ ∃ e ∈ os.after, Region.binds md e = true ∧ e.on = i := by
  unfold waits at h
  cases hs : ops[st]? with
  | none => rw [hs] at h; cases h
  | some os =>
    rw [hs] at h
    obtain ⟨e, he, h2⟩ := List.any_eq_true.1 h
    simp only [Bool.and_eq_true, beq_iff_eq] at h2
    exact ⟨os, rfl, e, by simpa using he, h2.1, h2.2⟩
theorem wpAnyG_first {i : Nat} {oi : Oper} {v : Value} (hi : ops[i]? = some oi) (hsel : ∀ (j : Nat) (o : Oper) cs b, ops[j]? = some o → o.op ≠ .select cs b)
    (hQ : ∀ c a w, Q (.panic c) (a.put oi.dst v) w → Q (.panic c) a w) (hw : waits md ops st i = true) (hsi : st ≠ i) :
    ∀ (fuel : Nat) (listed : Array Bool) (a : Act) (w : World),
      (∀ j oj, ops[j]? = some oj → j ≠ i → listed.getD j true = false → (∀ e ∈ oj.after, Region.binds md e = true → e.on ≠ i) → oi.apart ops oj = true) →
      i ∈ Region.ready md ops listed → YieldsIf P ops S oi v a → S w → listed.getD st true = false →
      wpAnyG P md ops Q S st fuel (listed.setIfInBounds i true) (a.put oi.dst v) w → wpAnyG P md ops Q S st (fuel + 1) listed a w := by
  intro fuel
  induction fuel with
  | zero =>
    intro listed a w _ hr hy hS _ H
    refine ⟨fun h => (by rw [h] at hr; cases hr), fun j hj => ?_⟩
    by_cases hji : j = i
    · subst hji; exact hy.wpOp hi hS ⟨fun _ => hS, H⟩
    · have := ready_mono hj hji
      rw [H.1] at this
      cases this
  | succ fuel ih =>
    intro listed a w hfree hr hy hS hun H
    refine ⟨fun h => (by rw [h] at hr; cases hr), fun j hj => ?_⟩
    by_cases hji : j = i
    · subst hji; exact hy.wpOp hi hS ⟨fun _ => hS, H⟩
    · have h1 := H.2 j (ready_mono hj hji)
      obtain ⟨hjun, oj, hoj, hall⟩ := mem_ready.1 hj
      have hnot : ∀ e ∈ oj.after, Region.binds md e = true → e.on ≠ i := fun e he hb heq => by
        have h1 := hall e he hb
        have h0 := (mem_ready.1 hr).1
        rw [heq] at h1
        rcases Nat.lt_or_ge i listed.size with h' | h'
        · simp [h'] at h0 h1; rw [h0] at h1; cases h1
        · simp [Array.getElem?_eq_none h'] at h1
      have hjs : j ≠ st := fun e => by
        obtain ⟨os, hos, e', he', hb', hon⟩ := waits_spec hw
        rw [e, hos] at hoj
        cases hoj
        exact hnot e' he' hb' hon
      have h2 := wpOp_putIf hoj (hfree j oj hoj hji hjun hnot) (fun cs b => hsel i oi cs b hi) (fun cs b => hsel j oj cs b hoj) hQ hy h1
      have hun2 : (listed.setIfInBounds j true).getD st true = false := by rw [getD_set_ne true hjs]; exact hun
      have hun3 : ((listed.setIfInBounds i true).setIfInBounds j true).getD st true = false := by rw [getD_set_ne true hjs, getD_set_ne true (Ne.symm hsi)]; exact hun
      have hfree' : ∀ k ok, ops[k]? = some ok → k ≠ i → (listed.setIfInBounds j true).getD k true = false →
          (∀ e ∈ ok.after, Region.binds md e = true → e.on ≠ i) → oi.apart ops ok = true := fun k ok hk hki hun hno => by
        refine hfree k ok hk hki ?_ hno
        by_cases hjk : j = k
        · subst hjk; exact hjun
        · rw [getD_set_ne true hjk] at hun; exact hun
      refine wpOp_mono (fun a' w' h3 => ⟨fun _ => h3.2.1 hun3, ih (listed.setIfInBounds j true) a' w' hfree' (ready_mono hr (Ne.symm hji)) h3.1 (h3.2.1 hun3) hun2 ?_⟩) h2
      rw [Array.setIfInBounds_comm _ _ hji]
      exact h3.2.2
theorem wpAnyG_take {i : Nat} {oi : Oper} {v : Value} {fuel : Nat} {listed : Array Bool} {a : Act} {w : World} (hi : ops[i]? = some oi)
    (hs : Region.noSelect ops = true) (hf : Region.free md ops listed i = true) (hr : (Region.ready md ops listed).contains i = true) (hw : waits md ops st i = true) (hsi : st ≠ i) (hun : listed.getD st true = false)
    (hQ : ∀ c a w, Q (.panic c) (a.put oi.dst v) w → Q (.panic c) a w) (hy : YieldsIf P ops S oi v a) (hS : S w)
    (h : wpAnyG P md ops Q S st fuel (listed.setIfInBounds i true) (a.put oi.dst v) w) : wpAnyG P md ops Q S st (fuel + 1) listed a w :=
  wpAnyG_first hi (Region.noSelect_spec hs) hQ hw hsi fuel listed a w (Region.free_spec hi hf) (by simpa using hr) hy hS hun h
theorem wpAnyG_firstP {i : Nat} {oi : Oper} {v : Value} (hi : ops[i]? = some oi) (hsel : ∀ (j : Nat) (o : Oper) cs b, ops[j]? = some o → o.op ≠ .select cs b)
    (hQ : ∀ c a w, Q (.panic c) (a.put oi.dst v) w → Q (.panic c) a w) (hsi : st ≠ i) :
    ∀ (fuel : Nat) (listed : Array Bool) (a : Act) (w : World),
      (∀ j oj, ops[j]? = some oj → j ≠ i → listed.getD j true = false → (∀ e ∈ oj.after, Region.binds md e = true → e.on ≠ i) → oi.apart ops oj = true) →
      i ∈ Region.ready md ops listed → YieldsIf P ops (fun _ => True) oi v a → (listed.getD st true = false → S w) →
      wpAnyG P md ops Q S st fuel (listed.setIfInBounds i true) (a.put oi.dst v) w → wpAnyG P md ops Q S st (fuel + 1) listed a w := by
  have down : ∀ (l : Array Bool) (j : Nat), (l.setIfInBounds j true).getD st true = false → l.getD st true = false := fun l j h => by
    by_cases hj : j = st
    · subst hj
      simp [Array.getD] at h
    · rw [getD_set_ne true hj] at h; exact h
  intro fuel
  induction fuel with
  | zero =>
    intro listed a w _ hr hy hS H
    refine ⟨fun h => (by rw [h] at hr; cases hr), fun j hj => ?_⟩
    by_cases hji : j = i
    · subst hji; exact hy.wpOp hi trivial ⟨fun h => hS (down _ _ h), H⟩
    · have := ready_mono hj hji
      rw [H.1] at this
      cases this
  | succ fuel ih =>
    intro listed a w hfree hr hy hS H
    refine ⟨fun h => (by rw [h] at hr; cases hr), fun j hj => ?_⟩
    by_cases hji : j = i
    · subst hji; exact hy.wpOp hi trivial ⟨fun h => hS (down _ _ h), H⟩
    · have h1 := H.2 j (ready_mono hj hji)
      obtain ⟨hjun, oj, hoj, hall⟩ := mem_ready.1 hj
      have hnot : ∀ e ∈ oj.after, Region.binds md e = true → e.on ≠ i := fun e he hb heq => by
        have h1 := hall e he hb
        have h0 := (mem_ready.1 hr).1
        rw [heq] at h1
        rcases Nat.lt_or_ge i listed.size with h' | h'
        · simp [h'] at h0 h1; rw [h0] at h1; cases h1
        · simp [Array.getElem?_eq_none h'] at h1
      have h2 := wpOp_putIf hoj (hfree j oj hoj hji hjun hnot) (fun cs b => hsel i oi cs b hi) (fun cs b => hsel j oj cs b hoj) hQ hy h1
      have hfree' : ∀ k ok, ops[k]? = some ok → k ≠ i → (listed.setIfInBounds j true).getD k true = false →
          (∀ e ∈ ok.after, Region.binds md e = true → e.on ≠ i) → oi.apart ops ok = true := fun k ok hk hki hun hno => by
        refine hfree k ok hk hki ?_ hno
        by_cases hjk : j = k
        · subst hjk; exact hjun
        · rw [getD_set_ne true hjk] at hun; exact hun
      refine wpOp_mono (fun a' w' h3 => ?_) h2
      · have up : (listed.setIfInBounds j true).getD st true = false → ((listed.setIfInBounds i true).setIfInBounds j true).getD st true = false := fun h => by
          rw [Array.setIfInBounds_comm _ _ (Ne.symm hji), getD_set_ne true (Ne.symm hsi)]; exact h
        refine ⟨fun h => h3.2.1 (up h), ih (listed.setIfInBounds j true) a' w' hfree' (ready_mono hr (Ne.symm hji)) h3.1 (fun h => h3.2.1 (up h)) ?_⟩
        rw [Array.setIfInBounds_comm _ _ hji]
        exact h3.2.2
theorem wpAnyG_pure {i : Nat} {oi : Oper} {v : Value} {fuel : Nat} {listed : Array Bool} {a : Act} {w : World} (hi : ops[i]? = some oi)
    (hs : Region.noSelect ops = true) (hf : Region.free md ops listed i = true) (hr : (Region.ready md ops listed).contains i = true) (hsi : st ≠ i)
    (hQ : ∀ c a w, Q (.panic c) (a.put oi.dst v) w → Q (.panic c) a w) (hy : YieldsIf P ops (fun _ => True) oi v a) (hS : listed.getD st true = false → S w)
    (h : wpAnyG P md ops Q S st fuel (listed.setIfInBounds i true) (a.put oi.dst v) w) : wpAnyG P md ops Q S st (fuel + 1) listed a w :=
  wpAnyG_firstP hi (Region.noSelect_spec hs) hQ hsi fuel listed a w (Region.free_spec hi hf) (by simpa using hr) hy hS h
theorem wpAnyG_one {fuel : Nat} {listed : Array Bool} {a : Act} {w : World} {i : Nat} {o : Oper} (hr : Region.ready md ops listed = [i]) (ho : ops[i]? = some o)
    (h : ∀ K' : Act → World → Prop, Shut (∀ a w, ((listed.setIfInBounds i true).getD st true = false → S w) → wpAnyG P md ops Q S st fuel (listed.setIfInBounds i true) a w → K' a w) → if Region.wanted o (yielded ops a.tmps) = true then Oper.wp P o a w K' Q else K' (a.put o.dst undef) w) :
    wpAnyG P md ops Q S st (fuel + 1) listed a w :=
  And.intro (fun h0 => (by rw [hr] at h0; cases h0)) (fun j hj => (by
    rw [hr] at hj
    rcases List.mem_cons.1 hj with rfl | hj
    · exact wpOp_step ho (fun K' hK => h K' (fun a w hS hW => hK a w ⟨hS, hW⟩))
    · cases hj))
theorem wpAnyG_done {listed : Array Bool} {a : Act} {w : World} (hr : Region.ready md ops listed = []) (h : Q .normal a w) :
    ∀ fuel, wpAnyG P md ops Q S st fuel listed a w
  | 0 => ⟨hr, h⟩
  | _ + 1 => ⟨fun _ => h, by rw [hr]; simp⟩
theorem wp_region_G {id : Nat} {a : Act} {w : World} (hm : P.follows .mixedOrders = true)
    (h : wpAnyG P .any ops Q S st ops.size (Array.replicate ops.size false) a w.drew) : (Code.region id ops true).wp P Q a w :=
  wp_region_any hm (wpAny_of_G _ _ _ _ h)
end
end Go.Proofs.Ytdioiilmpjckfaa
