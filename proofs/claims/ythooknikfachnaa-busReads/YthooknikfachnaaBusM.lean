/-
  A machine as plain data, with no Go in sight: what either processor reads at a place, what a write leaves, and the cells that a machine is written as.
-/
import Derived.Test.YthooknikfachnaaCpuM
import Derived.Test.YthooknikfachnaaPadA
import Derived.Test.YthooknikfachnaaTimA
import Derived.Test.YthooknikfachnaaTonG
import Derived.Test.YthooknikfachnaaBemA
namespace Go.Proofs.Ythooknikfachnaa
open Go.ChangeShapes Go.WideShapes Go.ChangeAt Go.RowKit
set_option linter.unusedVariables false
set_option maxRecDepth 100000

structure Pd where
  d : Int
  l : Bool
  s : Int
structure Bem where
  l : Int
  a : Int
  g : Bool
  f : Int
structure Mach where
  main : C.Cpu
  aux : C.Cpu
  mrom : List UInt8
  arom : List UInt8
  ram : List UInt8
  own : List UInt8
  video : List UInt8
  p0 : Pd
  p1 : Pd
  t : TM
  s : Sd
  b : Bem
  fr : Int
  to : Int
  granted : Bool
  held : Bool
  m0 : Int
  m1 : Int
  rung : Bool
  clock : Int
  mready : Int
  aready : Int
/-- A byte that was written to the sound: the clock, the port, the byte. -/
structure Wt where
  c : Int
  a : Int
  v : Int
/-- The clocks that transfers took, what was written to the sound, and the slice that holds it. -/
structure Tk where
  n : Int
  l : List Wt
  v : Value
abbrev Tk.zero : Tk := ⟨0, [], .slice none 0 0⟩
abbrev Tk.add (t : Tk) (k : Int) : Tk := { t with n := t.n + k }
def wcs : List Wt → List Value
  | [] => []
  | x :: l => .int .i64 x.c :: .int .i64 x.a :: .int .u8 x.v :: wcs l
theorem wcs_len : ∀ l : List Wt, (wcs l).length = l.length * 3
  | [] => rfl
  | x :: l => by simp only [wcs, List.length_cons, wcs_len l]; omega
theorem wcs_app : ∀ (l : List Wt) (k : List Wt), wcs (l ++ k) = wcs l ++ wcs k
  | [], k => rfl
  | x :: l, k => by simp only [wcs, List.cons_append, wcs_app l k]
abbrev Tk.app (t : Tk) (l : List Wt) (v : Value) : Tk := ⟨t.n, t.l ++ l, v⟩
theorem Tk.add_zero (t : Tk) : t.add 0 = t := by cases t; simp [Tk.add]
theorem Tk.app_nil (t : Tk) : t.app [] t.v = t := by cases t; simp [Tk.app]
structure Pd.ok (p : Pd) : Prop where
  d : 0 ≤ p.d ∧ p.d ≤ 255
  s : 0 ≤ p.s ∧ p.s ≤ 255
def Pd.rd (p : Pd) : Int := sel p.l p.d p.s / 128
def Pd.next (p : Pd) : Pd := ⟨p.d, p.l, sel p.l p.s (p.s * 2 % 256 + 1)⟩
def Pd.wr (p : Pd) (x : Int) : Pd := ⟨p.d, odd x, sel (odd x) p.d p.s⟩
def TM.put (t : TM) (n : Int) : TM := ⟨t.r, sel (odd n) t.r t.c, odd n, if odd (n / 2) then false else t.g⟩
def bget (l : List UInt8) (i : Int) : Int := ((l.getD i.toNat 0).toNat : Int)
def bput (l : List UInt8) (i : Int) (x : Int) : List UInt8 := l.set i.toNat (UInt8.ofNat x.toNat)
def hiB (w b : Int) : Int := b * 256 + w % 256
def loB (w b : Int) : Int := w / 256 * 256 + b
def two (a b : Bool) : Int := (if a then 1 else 0) + (if b then 2 else 0)
def romAt (l : List UInt8) (a : Int) : Int := if a < l.length then bget l a else 255
def Mach.lookM (M : Mach) (a : Int) : Int := if a < 32768 then romAt M.mrom a else if a < 49152 then bget M.ram ((a - 32768) % 128) else if a < 53248 then bget M.video ((a - 49152) % 256) else 255
def Mach.lookA (M : Mach) (a : Int) : Int := if a < 32768 then romAt M.arom a else if a < 49152 then bget M.own ((a - 32768) % 64) else if a < 53248 then (if M.granted then bget M.ram ((a - 49152) % 128) else 255) else 255
/-- What the main processor reads at a port. -/
def Mach.portM (M : Mach) (p : Nat) : Int × Mach :=
  match p with
  | 0 => (M.p0.rd, { M with p0 := M.p0.next })
  | 1 => (M.p1.rd, { M with p1 := M.p1.next })
  | 4 => (two M.t.on M.t.g, M)
  | 6 => (M.b.l, M)
  | 7 => (M.b.a, M)
  | 8 => (two M.b.g false, M)
  | 16 => (two M.granted M.held, M)
  | 17 => (M.m1, M)
  | _ => (255, M)
/-- What the other one reads at a port. -/
def Mach.portA (M : Mach) (p : Nat) : Int × Mach := if p = 24 then (M.m0, { M with rung := false }) else (255, M)
/-- So many bytes of a transfer. -/
def Mach.xfer (M : Mach) : Nat → Mach
  | 0 => M
  | k + 1 => { M.xfer k with video := bput (M.xfer k).video ((M.to + k) % 65536 % 256) ((M.xfer k).lookM ((M.fr + k) % 65536)) }
def beginC (hi lo : Int) : C.Cpu := { C.Cpu.zero with PC := hi * 256 + lo }
def Mach.grant (M : Mach) (n : Int) : Mach := { M with granted := odd n, held := odd (n / 2) }
def Mach.letGo (M : Mach) (n : Int) : Mach :=
  if M.held && !(odd (n / 2)) then { M.grant n with aux := beginC ((M.grant n).lookA 0) ((M.grant n).lookA 1), aready := M.clock } else M.grant n
/-- What a byte does that the main processor writes at a port. -/
def Mach.putM (M : Mach) (p : Nat) (n : Int) : Mach :=
  match p with
  | 0 => { M with p0 := M.p0.wr n, p1 := M.p1.wr n }
  | 2 => { M with t := { M.t with r := hiB M.t.r n } }
  | 3 => { M with t := { M.t with r := loB M.t.r n } }
  | 4 => { M with t := M.t.put n }
  | 8 => { M with b := { M.b with g := false } }
  | 10 => { M with fr := hiB M.fr n }
  | 11 => { M with fr := loB M.fr n }
  | 12 => { M with to := hiB M.to n }
  | 13 => { M with to := loB M.to n }
  | 14 => M.xfer n.toNat
  | 16 => M.letGo n
  | 17 => { M with m0 := n, rung := true }
  | _ => M
def takes (p : Nat) (n : Int) : Int := if p = 14 then 2 * n else 0
/-- What a byte does that the other one writes at a port. -/
def Mach.putA (M : Mach) (p : Nat) (n : Int) : Mach := if p < 24 then { M with s := M.s.put p n } else if p = 24 then { M with m1 := n } else M
def portNo (a : Int) : Nat := (a % 32).toNat
def isPort (a : Int) : Bool := decide (53248 ≤ a ∧ a ≤ 57343)
def Mach.rdM (M : Mach) (a : Int) : Int × Mach := if isPort a then M.portM (portNo a) else (M.lookM a, M)
def Mach.rdA (M : Mach) (a : Int) : Int × Mach := if isPort a then M.portA (portNo a) else (M.lookA a, M)
def Mach.memM (M : Mach) (a n : Int) : Mach := if a < 32768 then M else if a < 49152 then { M with ram := bput M.ram ((a - 32768) % 128) n } else if a < 53248 then { M with video := bput M.video ((a - 49152) % 256) n } else M
def Mach.memA (M : Mach) (a n : Int) : Mach := if a < 32768 then M else if a < 49152 then { M with own := bput M.own ((a - 32768) % 64) n } else if a < 53248 then (if M.granted then { M with ram := bput M.ram ((a - 49152) % 128) n } else M) else M
def Mach.wrM (M : Mach) (a n : Int) : Mach := if isPort a then M.putM (portNo a) n else M.memM a n
def Mach.wrA (M : Mach) (a n : Int) : Mach := if isPort a then M.putA (portNo a) n else M.memA a n
/-- What a byte adds to what was written to the sound. -/
def shown (c : Int) (p : Nat) (n : Int) : List Wt := if p < 24 then [⟨c, p, n⟩] else []
def Mach.shA (M : Mach) (a n : Int) : List Wt := if isPort a then shown M.clock (portNo a) n else []
def tookM (a n : Int) : Int := if isPort a then takes (portNo a) n else 0
/-! ### machines that may be -/
def bd16 (x : Int) : Prop := 0 ≤ x ∧ x ≤ 65535
def bd8 (x : Int) : Prop := 0 ≤ x ∧ x ≤ 255
/-- Of the kinds that its fields have. -/
structure Mach.ok (M : Mach) : Prop where
  main : M.main.ok
  aux : M.aux.ok
  p0 : M.p0.ok
  p1 : M.p1.ok
  tr : bd16 M.t.r
  tc : bd16 M.t.c
  s : M.s.ok
  fr : bd16 M.fr
  to : bd16 M.to
  m0 : bd8 M.m0
  m1 : bd8 M.m1
/-- What Check lets by. -/
structure Mach.fit (M : Mach) : Prop extends M.ok where
  mrom : M.mrom.length ≤ 1024
  arom : M.arom.length ≤ 1024
  ram : M.ram.length = 128
  own : M.own.length = 64
  video : M.video.length = 256
  w : 0 ≤ M.s.w ∧ M.s.w ≤ 15
  b : BOk M.b.l M.b.a M.b.f
  clock : 0 ≤ M.clock ∧ M.clock ≤ 200000
  mready : 0 ≤ M.mready ∧ M.mready ≤ M.clock + 20000
  aready : 0 ≤ M.aready ∧ M.aready ≤ M.clock + 20000
/-! ### cells -/
/-- The slices of a machine, as values. -/
structure Sl where
  mr : Value
  ar : Value
  ra : Value
  ow : Value
  vi : Value
def cpuL (c : C.Cpu) : List Value := [.int .u16 (c.r 0), .int .u16 (c.r 1), .int .u16 (c.r 2), .int .u16 (c.r 3), .int .u16 (c.r 4), .int .u16 (c.r 5), .int .u16 (c.r 6), .int .u16 (c.r 7), .int .u16 c.PC, .bool c.Z, .bool c.N, .bool c.C, .bool c.V, .bool c.May, .bool c.Waits]
def slL (S : Sl) : List Value := [S.mr, S.ar, S.ra, S.ow, S.vi]
def restL (M : Mach) : List Value := [.int .u8 M.p0.d, .bool M.p0.l, .int .u8 M.p0.s, .int .u8 M.p1.d, .bool M.p1.l, .int .u8 M.p1.s, .int .u16 M.t.r, .int .u16 M.t.c, .bool M.t.on, .bool M.t.g,
  .int .u16 M.s.a.p, .int .u16 M.s.a.c, .int .u8 M.s.a.l, .bool M.s.a.h, .int .u16 M.s.a.n, .int .u16 M.s.b.p, .int .u16 M.s.b.c, .int .u8 M.s.b.l, .bool M.s.b.h, .int .u16 M.s.b.n, .int .u16 M.s.c.p, .int .u16 M.s.c.c, .int .u8 M.s.c.l, .bool M.s.c.h, .int .u16 M.s.c.n, .int .i64 M.s.w,
  .int .i64 M.b.l, .int .i64 M.b.a, .bool M.b.g, .int .i64 M.b.f, .int .u16 M.fr, .int .u16 M.to, .bool M.granted, .bool M.held, .int .u8 M.m0, .int .u8 M.m1, .bool M.rung, .int .i64 M.clock, .int .i64 M.mready, .int .i64 M.aready]
/-- A machine's 75 cells. -/
def machL (M : Mach) (S : Sl) : List Value := cpuL M.main ++ (cpuL M.aux ++ (slL S ++ restL M))
theorem machL_len (M : Mach) (S : Sl) : (machL M S).length = 75 := rfl
end Go.Proofs.Ythooknikfachnaa
