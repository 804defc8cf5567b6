/-
  Programs as texts, as plain data: what a program is listed as, and what is built of a text, with no Go in sight; over the table of orders of the text KData.
-/
import Derived.Test.YtdjhlfoapieohaaGreatDoorOMath
import Derived.Lib.ItoaNum
import Derived.Lib.AtoiAll
import Derived.Lib.Join
import Derived.Lib.Strings
import Derived.Lib.IndexMore
import Derived.Lib.Split
namespace Go.Proofs.YtdjhlfoapieohaaGreatDoor.S
set_option linter.unusedVariables false

abbrev By := List UInt8
def isDigit (c : UInt8) : Bool := decide (48 ≤ c.toNat) && decide (c.toNat ≤ 57)
/-- A sign that may stand in a name. -/
def nameCh (c : UInt8) : Bool := isDigit c || c == 95 || (decide (97 ≤ c.toNat) && decide (c.toNat ≤ 122))
def reg (s : By) : Option Int := match s with
  | [a, c] => if a = 114 ∧ 48 ≤ c.toNat ∧ c.toNat ≤ 55 then some ((c.toNat : Int) - 48) else none
  | _ => none
def nameOk (s : By) : Bool := match s with
  | [] => false
  | c :: r => decide (s.length ≤ 12) && !isDigit c && s.all nameCh && (reg s).isNone
def num (s : By) : Option Int := match Lib.atoiAll s with
  | .ok v => if Lib.itoa v = s then some v else none
  | _ => none
/-- The order of this name. -/
def opOf (s : By) : Option Nat := (List.range 32).find? (fun k => k != 30 && (K.row k).1 == s)
/-- The signs of D, S, W, N in the table. -/
def sgn (p : Nat) : UInt8 := [100, 115, 119, 110].getD p 0
def parts (k : Nat) : List Nat := (List.range 4).filter (fun p => O.hasC k (sgn p))
structure Ord where
  d : Int
  s : Int
  n : Int
  w : Int
def Ord.get (o : Ord) (p : Nat) : Int := if p = 0 then o.d else if p = 1 then o.s else if p = 2 then o.w else o.n
def Ord.set (o : Ord) (p : Nat) (v : Int) : Ord := if p = 0 then { o with d := v } else if p = 1 then { o with s := v } else if p = 2 then { o with w := v } else { o with n := v }
def Ord.zero : Ord := ⟨0, 0, 0, 0⟩

/-! ### a program's listing -/
def partText (o : Ord) (p : Nat) : By := if p = 0 ∨ p = 1 then 114 :: Lib.itoa (o.get p) else Lib.itoa (o.get p)
def comma : By := [44, 32]
def plain : By := [46, 119, 111, 114, 100]
/-- An order's line, without its end. -/
def orderText (k : Nat) (o : Ord) : By := (K.row k).1 ++ (if parts k = [] then [] else 32 :: Lib.join ((parts k).map (partText o)) comma)
def wordText (a : Int) : By := plain ++ 32 :: Lib.itoa a
def word (a b : UInt8) : Int := (a.toNat : Int) * 256 + b.toNat
def second (r : By) : Int := match r with
  | a :: b :: _ => word a b
  | _ => 0
def rOrd (a b : Int) : Ord := ⟨O.rD a, O.rS a, O.rN a, O.rW a b⟩
/-- Is the first word that of an order that is whole? -/
def isOrder (a : Int) (len : Nat) : Bool := (O.first (O.rOp a) (O.rD a) (O.rS a) (O.rN a) == a) && decide (2 * O.rLen a ≤ len)
/-- The first line, without its end, and how many bytes it tells. -/
def lineOf (a : Int) (len : Nat) (b : Int) : By × Nat := if isOrder a len then (orderText (O.rk a) (rOrd a b), 2 * (O.rLen a).toNat) else (wordText a, 2)
def firstLine (rom : By) : By × Nat := lineOf (second rom) rom.length (second (rom.drop 2))
def listN : Nat → By → By
  | 0, _ => []
  | f + 1, rom => if rom = [] then [] else (firstLine rom).1 ++ 10 :: listN f (rom.drop (firstLine rom).2)
def list (rom : By) : By := listN rom.length rom

/-! ### what is built of a text -/
structure St where
  rom : By
  places : List (By × Nat)
  uses : List (By × Nat × Nat)
def wordOrName (s : By) : Option (Int × By) := if nameOk s then some (0, s) else (num s).map (fun v => (v, []))
def bytesOf : List Int → By
  | [] => []
  | a :: r => UInt8.ofNat (a / 256).toNat :: UInt8.ofNat (a % 256).toNat :: bytesOf r
def put (ws : List Int) (name : By) (ln : Nat) (st : St) : Except Int St :=
  if 1024 < st.rom.length + 2 * ws.length then .error 2 else
  .ok ⟨st.rom ++ bytesOf ws, st.places, if name = [] then st.uses else st.uses ++ [(name, st.rom.length + 2 * ws.length - 2, ln)]⟩
def readPlace (name : By) (st : St) : Except Int St :=
  if nameOk name then (match st.places.find? (fun p => p.1 == name) with
    | some _ => .error 6
    | none => .ok { st with places := st.places ++ [(name, st.rom.length)] }) else .error 1
def readWord (ps : List By) (ln : Nat) (st : St) : Except Int St := match ps with
  | [p] => (match wordOrName p with
    | some (v, name) => if v < 0 ∨ 65535 < v then .error 3 else put [v] name ln st
    | none => .error 1)
  | _ => .error 4
/-- One part of an order, of this kind. -/
def readPart (p : Nat) (s : By) (o : Ord) (name : By) : Option (Ord × By) :=
  if p = 2 then (wordOrName s).map (fun x => (o.set 2 x.1, x.2)) else if p = 3 then (num s).map (fun v => (o.set 3 v, name)) else (reg s).map (fun v => (o.set p v, name))
def readParts : List Nat → List By → Ord → By → Option (Ord × By)
  | p :: ks, s :: ss, o, name => (readPart p s o name).bind (fun x => readParts ks ss x.1 x.2)
  | _, _, o, name => some (o, name)
def readOrder (called : By) (ps : List By) (ln : Nat) (st : St) : Except Int St := match opOf called with
  | none => .error 5
  | some k => if ps.length = (parts k).length then (match readParts (parts k) ps Ord.zero [] with
      | none => .error 1
      | some (o, name) => if O.ck k o.d o.s o.n o.w = 0 then put (O.words k o.d o.s o.n o.w) name ln st else .error (O.ck k o.d o.s o.n o.w)) else .error 4
def partsOf (rest : By) : List By := if rest = [] then [] else Lib.split rest comma
def readLine (l : By) (ln : Nat) (st : St) : Except Int St :=
  if Lib.hasSuffix l [58] then readPlace (Lib.trimSuffix l [58]) st else
  if (Lib.cut l [32]).1 = plain then readWord (partsOf (Lib.cut l [32]).2.1) ln st else readOrder (Lib.cut l [32]).1 (partsOf (Lib.cut l [32]).2.1) ln st
def readLines : Nat → By → Nat → St → Except (Nat × Int) St
  | 0, _, _, st => .ok st
  | f + 1, s, ln, st => if s = [] then .ok st else
    if (Lib.cut s [10]).2.2 then (match readLine (Lib.cut s [10]).1 ln st with
      | .ok st' => readLines f (Lib.cut s [10]).2.1 (ln + 1) st'
      | .error e => .error (ln, e)) else .error (ln, 1)
def lay (places : List (By × Nat)) : List (By × Nat × Nat) → By → Except (Nat × Int) By
  | [], rom => .ok rom
  | u :: us, rom => match places.find? (fun p => p.1 == u.1) with
    | none => .error (u.2.2, 5)
    | some p => lay places us ((rom.set u.2.1 (UInt8.ofNat (p.2 / 256))).set (u.2.1 + 1) (UInt8.ofNat (p.2 % 256)))
def St.zero : St := ⟨[], [], []⟩
def readText (s : By) : Except (Nat × Int) By := match readLines s.length s 0 St.zero with
  | .ok st => lay st.places st.uses st.rom
  | .error e => .error e
def build (s : By) : Except (Nat × Int) By := if 4000 < s.length ∨ 300 < s.count 10 then .error (0, 2) else readText s
end Go.Proofs.YtdjhlfoapieohaaGreatDoor.S
