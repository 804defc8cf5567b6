/-
  A processor as plain data, with no Go in sight: over any memory that is read and written byte by byte, what one step leaves, and its cycles.
-/
import Derived.Test.YthooknikfachnaaOMath
namespace Go.Proofs.Ythooknikfachnaa.C
set_option linter.unusedVariables false
set_option maxRecDepth 100000

structure Cpu where
  R : List Int
  PC : Int
  Z : Bool
  N : Bool
  C : Bool
  V : Bool
  May : Bool
  Waits : Bool
deriving DecidableEq
/-- A memory: what is read at a place, and what a write leaves; reading may change it; for how many writes there is room. -/
structure Mem (σ : Type) where
  rd : σ → Int → Int × σ
  wr : σ → Int → Int → σ
  fuel : σ → Nat := fun _ => 4
/-- A processor in the midst of a step. -/
structure St (σ : Type) where
  c : Cpu
  s : σ
  n : Int
def Cpu.r (c : Cpu) (i : Int) : Int := c.R.getD i.toNat 0
def Cpu.set (c : Cpu) (i : Int) (x : Int) : Cpu := { c with R := c.R.set i.toNat x }
def Cpu.zero : Cpu := ⟨[0, 0, 0, 0, 0, 0, 0, 0], 0, false, false, false, false, false, false⟩
def sign (c : Cpu) : Int := (if c.Z then 1 else 0) + (if c.N then 2 else 0) + (if c.C then 4 else 0) + (if c.V then 8 else 0) + (if c.May then 16 else 0)
def Cpu.ok (c : Cpu) : Prop := c.R.length = 8 ∧ (∀ x ∈ c.R, 0 ≤ x ∧ x ≤ 65535) ∧ 0 ≤ c.PC ∧ c.PC ≤ 65535
section
variable {σ : Type} (m : Mem σ)
def Mem.rdw (s : σ) (a : Int) : Int × σ := ((m.rd s a).1 * 256 + (m.rd (m.rd s a).2 ((a + 1) % 65536)).1, (m.rd (m.rd s a).2 ((a + 1) % 65536)).2)
def Mem.wrw (s : σ) (a n : Int) : σ := m.wr (m.wr s a (n / 256)) ((a + 1) % 65536) (n % 256)
def push (x : St σ) (n : Int) : St σ := ⟨x.c.set 7 ((x.c.r 7 - 2) % 65536), m.wrw x.s ((x.c.r 7 - 2) % 65536) n, x.n⟩
def popV (x : St σ) : Int := (m.rdw x.s (x.c.r 7)).1
def pop (x : St σ) : St σ := ⟨x.c.set 7 ((x.c.r 7 + 2) % 65536), (m.rdw x.s (x.c.r 7)).2, x.n⟩
def toPC (x : St σ) (a : Int) : St σ := { x with c := { x.c with PC := a } }
def leave (x : St σ) (at' : Int) : St σ :=
  let y := push m (push m x x.c.PC) (sign (push m x x.c.PC).c)
  ⟨{ y.c with May := false, Waits := false, PC := (m.rdw y.s at').1 }, (m.rdw y.s at').2, y.n⟩
def comeBack (x : St σ) : St σ :=
  let n := popV m x
  let y := pop m x
  let z := pop m y
  ⟨{ z.c with PC := popV m y, Z := decide (n % 2 = 1), N := decide (n / 2 % 2 = 1), C := decide (n / 4 % 2 = 1), V := decide (n / 8 % 2 = 1), May := decide (n / 16 % 2 = 1) }, z.s, z.n⟩
def setR (x : St σ) (d v : Int) : St σ := { x with c := x.c.set d v }
def signs (x : St σ) (n : Int) (c v : Bool) : St σ := { x with c := { x.c with Z := n == 0, N := decide (32768 ≤ n), C := c, V := v } }
/-- What an order that reckons makes of two words: the word, a carry, an overflow. -/
def flN (k : Nat) (a b : Int) : Int := if k = 7 ∨ k = 15 then M.addN a b else if k = 8 ∨ k = 14 then M.subN a b else if k = 9 then bits .and .u16 a b else if k = 10 then bits .or .u16 a b else if k = 11 then bits .xor .u16 a b else M.mulN a b
def flC (k : Nat) (a b : Int) : Bool := if k = 7 ∨ k = 15 then M.addC a b else if k = 8 ∨ k = 14 then M.subC a b else if k = 9 ∨ k = 10 ∨ k = 11 then false else M.mulC a b
def flV (k : Nat) (a b : Int) : Bool := if k = 7 ∨ k = 15 then M.addV a b else if k = 8 ∨ k = 14 then M.subV a b else false
def reckon (x : St σ) (k : Nat) (a b : Int) : St σ := signs x (flN k a b) (flC k a b) (flV k a b)
def jump (x : St σ) (w : Int) : St σ := ⟨{ x.c with PC := w }, x.s, x.n + 1⟩
def both (x : St σ) (k : Nat) (d s : Int) : St σ := setR (reckon x k (x.c.r d) (x.c.r s)) d (flN k (x.c.r d) (x.c.r s))
def shift (x : St σ) (d n : Int) (o : Bool) : St σ := setR (signs x n o false) d n
/-- What an order does, PC being behind it. -/
def act (x : St σ) (k : Nat) (d s n w : Int) : St σ :=
  match k with
  | 1 => setR x d (x.c.r s)
  | 2 => setR x d w
  | 3 => ⟨x.c.set d (m.rdw x.s ((x.c.r s + n) % 65536)).1, (m.rdw x.s ((x.c.r s + n) % 65536)).2, x.n⟩
  | 4 => { x with s := m.wrw x.s ((x.c.r d + n) % 65536) (x.c.r s) }
  | 5 => ⟨x.c.set d (m.rd x.s ((x.c.r s + n) % 65536)).1, (m.rd x.s ((x.c.r s + n) % 65536)).2, x.n⟩
  | 6 => { x with s := m.wr x.s ((x.c.r d + n) % 65536) (x.c.r s % 256) }
  | 7 => both x 7 d s
  | 8 => both x 8 d s
  | 9 => both x 9 d s
  | 10 => both x 10 d s
  | 11 => both x 11 d s
  | 12 => shift x d (M.shlN (x.c.r d) n) (M.shlC (x.c.r d) n)
  | 13 => shift x d (M.shrN (x.c.r d) n) (M.shrC (x.c.r d) n)
  | 14 => reckon x 14 (x.c.r d) (x.c.r s)
  | 15 => setR (reckon x 15 (x.c.r d) (n % 65536)) d (flN 15 (x.c.r d) (n % 65536))
  | 16 => jump x w
  | 17 => if x.c.Z then jump x w else x
  | 18 => if x.c.N then jump x w else x
  | 19 => if x.c.C then jump x w else x
  | 20 => toPC (push m x x.c.PC) w
  | 21 => toPC (pop m x) (popV m x)
  | 22 => push m x (x.c.r s)
  | 23 => setR (pop m x) d (popV m x)
  | 24 => { x with c := { x.c with May := true } }
  | 25 => { x with c := { x.c with May := false } }
  | 26 => comeBack m x
  | 27 => { x with c := { x.c with Waits := true } }
  | 28 => both x 28 d s
  | 29 => if x.c.Z then x else jump x w
  | 31 => leave m x 4
  | _ => x
/-- The order's words, and what the processor is behind them. -/
def word1 (c : Cpu) (s : σ) : Int := (m.rdw s c.PC).1
def word2 (c : Cpu) (s : σ) : Int := if O.rLen (word1 m c s) = 2 then (m.rdw (m.rdw s c.PC).2 ((c.PC + 2) % 65536)).1 else 0
def behind (c : Cpu) (s : σ) : St σ :=
  ⟨{ c with PC := (c.PC + 2 * O.rLen (word1 m c s)) % 65536 }, if O.rLen (word1 m c s) = 2 then (m.rdw (m.rdw s c.PC).2 ((c.PC + 2) % 65536)).2 else (m.rdw s c.PC).2, 0⟩
def order (c : Cpu) (s : σ) : St σ :=
  act m { behind m c s with n := K.cyc (O.rk (word1 m c s)) } (O.rk (word1 m c s)) (O.rD (word1 m c s)) (O.rS (word1 m c s)) (O.rN (word1 m c s)) (O.rW (word1 m c s) (word2 m c s))
def step (c : Cpu) (s : σ) (rings : Bool) : St σ :=
  if rings && c.May then { leave m ⟨c, s, 0⟩ 2 with n := 6 }
  else if c.Waits then ⟨c, s, 1⟩
  else order m c s
def begin' (s : σ) : Cpu × σ := ({ Cpu.zero with PC := (m.rdw s 0).1 }, (m.rdw s 0).2)
end

/-! ### what is in range stays in range -/
theorem Cpu.r_bd {c : Cpu} (h : c.ok) (i : Int) : 0 ≤ c.r i ∧ c.r i ≤ 65535 := by
  unfold Cpu.r
  by_cases hi : i.toNat < c.R.length
  · rw [List.getD_eq_getElem?_getD, List.getElem?_eq_getElem hi]
    exact h.2.1 _ (List.getElem_mem hi)
  · rw [List.getD_eq_getElem?_getD, List.getElem?_eq_none (by omega)]; simp
theorem Cpu.ok_set {c : Cpu} (h : c.ok) (i x : Int) (h0 : 0 ≤ x) (h1 : x ≤ 65535) : (c.set i x).ok := by
  refine ⟨by simp [Cpu.set, h.1], fun y hy => ?_, h.2.2.1, h.2.2.2⟩
  rcases List.mem_or_eq_of_mem_set hy with hy | rfl
  · exact h.2.1 y hy
  · exact ⟨h0, h1⟩
theorem Cpu.r_set {c : Cpu} (h : c.ok) (i : Nat) (hi : i < 8) (x : Int) : (c.set i x).r i = x := by
  unfold Cpu.r Cpu.set
  simp only [Int.toNat_natCast]
  rw [List.getD_eq_getElem?_getD, List.getElem?_set_self (by rw [h.1]; exact hi)]
  rfl
theorem Cpu.ok_pc {c : Cpu} (h : c.ok) (x : Int) (h0 : 0 ≤ x) (h1 : x ≤ 65535) : Cpu.ok { c with PC := x } := ⟨h.1, h.2.1, h0, h1⟩
theorem sign_bd (c : Cpu) : 0 ≤ sign c ∧ sign c ≤ 31 := by unfold sign; split <;> split <;> split <;> split <;> split <;> omega
theorem zero_ok : Cpu.zero.ok := ⟨rfl, by decide, by decide, by decide⟩
/-- A memory whose bytes are bytes. -/
def Mem.ok {σ : Type} (m : Mem σ) (J : σ → Prop) : Prop := (∀ s a, J s → 0 ≤ (m.rd s a).1 ∧ (m.rd s a).1 ≤ 255 ∧ J (m.rd s a).2) ∧ ∀ s a b, J s → 0 ≤ b → b ≤ 255 → J (m.wr s a b)
end Go.Proofs.Ythooknikfachnaa.C
