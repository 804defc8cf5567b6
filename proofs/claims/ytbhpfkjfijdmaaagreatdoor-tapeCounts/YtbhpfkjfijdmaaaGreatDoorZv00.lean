/-
  Parts of a proof, joined.
-/
import Derived.WalkKit
import Derived.Laws.BitsAllLaws
import Derived.Test.YtbhpfkjfijdmaaaGreatDoorRows
import Derived.ProofKit
import Derived.OpenShut
import Derived.Lay
import Derived.Lib.LaidU8
import Derived.Lib.Space
import Derived.Shelf.Vars
import Derived.Stop.Joined
import Derived.Lib.Fields
import Derived.Lib.Split
import Derived.Lib.ParseIntB
import Derived.Lib.SmallJoins
import Derived.Deep.Strs
import Derived.WalkSpells
import Derived.Outline
import Derived.Laws.EntriesVeiled
import Derived.Below
import Derived.Deep.RegionHeld3
import Derived.Deep.QuietTactic
import Derived.BigQuiet
import Derived.Laws.StructEq
import Derived.Deep.MidRow
import Derived.Deep.Fields
import Derived.Lib.Builder
import Derived.Deep.RegionWith
namespace Go.Proofs.YtbhpfkjfijdmaaaGreatDoor.M
set_option linter.unusedVariables false
set_option maxRecDepth 100000
def sg (a:Int):Int:=if 32768<=a then a - 65536 else a
def addN (a b:Int):Int:=(a+b) % 65536
def addC (a b:Int):Bool:=decide (65535 < a+b)
def addV (a b:Int):Bool:=decide (32767 < sg a+sg b \/ sg a+sg b < -32768)
def subN (a b:Int):Int:=(a - b) % 65536
def subC (a b:Int):Bool:=decide (a < b)
def subV (a b:Int):Bool:=decide (32767 < sg a - sg b \/ sg a - sg b < -32768)
def mulN (a b:Int):Int:=(a * b) % 65536
def mulC (a b:Int):Bool:=decide (65535 < a * b)
def shlN (a n:Int):Int:=(a * 2 ^ n.toNat) % 65536
def shlC (a n:Int):Bool:=decide (1<=n/\a / 2 ^ (16 - n).toNat % 2=1)
def shrN (a n:Int):Int:=a / 2 ^ n.toNat
def shrC (a n:Int):Bool:=decide (1<=n/\a / 2 ^ (n - 1).toNat % 2=1)
def hasB (a n:Int):Bool:=decide (a / 2 ^ n.toNat % 2=1)
def low (a n:Int):Int:=if (2:Int) ^ n.toNat<=2 * (a % 2 ^ n.toNat) then a % 2 ^ n.toNat - 2 ^ n.toNat else a % 2 ^ n.toNat
theorem addN_bd (a b:Int):0<=addN a b/\addN a b<=65535:=by unfold addN;omega
theorem subN_bd (a b:Int):0<=subN a b/\subN a b<=65535:=by unfold subN;omega
theorem mulN_bd (a b:Int):0<=mulN a b/\mulN a b<=65535:=by unfold mulN;omega
theorem shlN_bd (a n:Int):0<=shlN a n/\shlN a n<=65535:=by unfold shlN;omega
/-! ### the highest bit -/
theorem top (x:Nat) (h:x < 65536):x.testBit 15=decide (32768<=x):=by
 rw [Nat.testBit_eq_decide_div_mod_eq]
 by_cases hx:32768<=x
 ·rw [decide_eq_true hx,decide_eq_true];omega
 ·rw [decide_eq_false hx,decide_eq_false];omega
theorem and_pow (x i:Nat):x &&& 2 ^ i=if x.testBit i then 2 ^ i else 0:=by
 apply Nat.eq_of_testBit_eq
 intro j
 rw [Nat.testBit_and,Nat.testBit_two_pow]
 by_cases h:i=j
 ·subst h;cases x.testBit i <;> simp [Nat.testBit_two_pow_self]
 ·cases x.testBit i <;> simp [h]
theorem and_top (x:Nat):(((x &&& 32768:Nat):Int) != 0)=x.testBit 15:=by
 have h:x &&& 32768=if x.testBit 15 then 2 ^ 15 else 0:=and_pow x 15
 rw [h]
 cases x.testBit 15 <;> decide
theorem signs (x y z t:Nat) (hx:x < 65536) (hy:y < 65536) (hz:z < 65536) (ht:t < 65536) :
 (bits .and .u16 (bits .and .u16 (bits .xor .u16 (x:Int) (y:Int)) (bits .xor .u16 (z:Int) (t:Int))) 32768 != 0) =
  ((decide (32768<=x) != decide (32768<=y)) && (decide (32768<=z) != decide (32768<=t))):=by
 have h1:x ^^^ y < 2 ^ 16:=Nat.xor_lt_two_pow (by omega) (by omega)
 have h2:z ^^^ t < 2 ^ 16:=Nat.xor_lt_two_pow (by omega) (by omega)
 have h3:(x ^^^ y) &&& (z ^^^ t) < 2 ^ 16:=Nat.and_lt_two_pow _ h2
 rw [u16_xor_nat x y hx hy,u16_xor_nat z t hz ht,u16_and_nat _ _ (by omega) (by omega)]
 rw [show (32768:Int)=((32768:Nat):Int) from rfl,u16_and_nat _ _ (by omega) (by omega),and_top]
 rw [Nat.testBit_and,Nat.testBit_xor,Nat.testBit_xor,top x hx,top y hy,top z hz,top t ht]
theorem over_add (a b:Int) (ha:0<=a) (ha':a<=65535) (hb:0<=b) (hb':b<=65535) :
 (bits .and .u16 (bits .and .u16 (bits .xor .u16 a (IntKind.u16.wrap (a+b))) (bits .xor .u16 b (IntKind.u16.wrap (a+b)))) 32768 != 0)=addV a b:=by
 obtain ⟨A,rfl⟩:=Int.eq_ofNat_of_zero_le ha
 obtain ⟨B,rfl⟩:=Int.eq_ofNat_of_zero_le hb
 have e:IntKind.u16.wrap ((A:Int)+(B:Int))=(((A+B) % 65536:Nat):Int):=by rw [IntKind.wrap_u16];omega
 rw [e,signs A _ B _ (by omega) (by omega) (by omega) (by omega)]
 unfold addV sg
 by_cases h1:32768<=A <;> by_cases h2:32768<=B <;> by_cases h3:32768<=(A+B) % 65536 <;> by_cases h4:(32768:Int)<=(A:Int) <;> by_cases h5:(32768:Int)<=(B:Int) <;>
  first
   | (exfalso;omega)
   | (simp [h1,h2,h3,h4,h5];omega)
theorem over_sub (a b:Int) (ha:0<=a) (ha':a<=65535) (hb:0<=b) (hb':b<=65535) :
 (bits .and .u16 (bits .and .u16 (bits .xor .u16 a b) (bits .xor .u16 a (IntKind.u16.wrap (a - b)))) 32768 != 0)=subV a b:=by
 obtain ⟨A,rfl⟩:=Int.eq_ofNat_of_zero_le ha
 obtain ⟨B,rfl⟩:=Int.eq_ofNat_of_zero_le hb
 have e:IntKind.u16.wrap ((A:Int) - (B:Int))=(((A+65536 - B) % 65536:Nat):Int):=by rw [IntKind.wrap_u16];omega
 rw [e,signs A B A _ (by omega) (by omega) (by omega) (by omega)]
 unfold subV sg
 by_cases h1:32768<=A <;> by_cases h2:32768<=B <;> by_cases h3:32768<=(A+65536 - B) % 65536 <;> by_cases h4:(32768:Int)<=(A:Int) <;> by_cases h5:(32768:Int)<=(B:Int) <;>
  first
   | (exfalso;omega)
   | (simp [h1,h2,h3,h4,h5];omega)
theorem carry_add (a b:Int) (ha:0<=a) (ha':a<=65535) (hb:0<=b) (hb':b<=65535):decide (IntKind.u16.wrap (a+b) < a)=addC a b:=by
 unfold addC;rw [IntKind.wrap_u16,decide_eq_decide];omega
/-! ### products -/
theorem mul_bd (a b:Int) (ha:0<=a) (ha':a<=65535) (hb:0<=b) (hb':b<=65535):0<=a * b/\a * b<=4294836225:=by
 have h1:0<=a * b:=Int.mul_nonneg ha hb
 have h2:a * b<=65535 * 65535:=Int.mul_le_mul ha' hb' hb (by omega)
 omega
theorem mul_high (p:Int) (h:0<=p):(p / 65536 != 0)=decide (65535 < p):=by
 by_cases c:65535 < p
 ·rw [decide_eq_true c,bne_iff_ne];omega
 ·rw [decide_eq_false c];simp;omega
/-! ### bits and bytes -/
theorem bit_of (x:Int) (h:0<=x) (h':x<=65535):(bits .and .u16 x 1 == 1)=decide (x % 2=1):=by
 obtain ⟨X,rfl⟩:=Int.eq_ofNat_of_zero_le h
 rw [show (1:Int)=((1:Nat):Int) from rfl,u16_and_nat _ _ (by omega) (by omega),Nat.and_one_is_mod]
 by_cases c:(X:Int) % 2=1
 ·rw [decide_eq_true (by omega),beq_iff_eq];omega
 ·rw [decide_eq_false (by omega),beq_eq_false_iff_ne];omega
theorem joined (a b:Int) (ha:0<=a) (ha':a<=255) (hb:0<=b) (hb':b<=255):bits .or .u16 (a * 256) b=a * 256+b:=by
 obtain ⟨A,rfl⟩:=Int.eq_ofNat_of_zero_le ha
 obtain ⟨B,rfl⟩:=Int.eq_ofNat_of_zero_le hb
 rw [show (A:Int) * 256=((A * 256:Nat):Int) from by omega,u16_or_nat _ _ (by omega) (by omega)]
 have h:A * 256 ||| B=A * 256+B:=by
  have:=Nat.two_pow_add_eq_or_of_lt (i:=8) (b:=B) (by omega) A
  rw [show A * 256=2 ^ 8 * A from by omega];exact this.symm
 rw [h];omega
theorem has_of (a n:Int) (ha:0<=a) (ha':a<=65535):(bits .and .u16 (a / 2 ^ n.toNat) 1 == 1)=hasB a n:=by
 have hp:(0:Int) < 2 ^ n.toNat:=Int.pow_pos (by omega)
 have h0:0<=a / 2 ^ n.toNat:=Int.ediv_nonneg ha (by omega)
 have h1:a / 2 ^ n.toNat<=a:=Int.ediv_le_self _ ha
 exact bit_of _ h0 (by omega)
theorem wrap_i16 (n:Int):IntKind.i16.wrap n=if 32768<=n % 65536 then n % 65536 - 65536 else n % 65536:=by
 simp [IntKind.wrap,IntKind.bits,IntKind.signed]
theorem wrap64_small (n:Int) (h:-32768<=n) (h':n<=32767):RowKit.wrap64 n=n:=by unfold RowKit.wrap64;omega
theorem low_of (a n:Int) (hn:1<=n) (hn':n<=16) :
 RowKit.wrap64 (IntKind.i16.wrap (IntKind.u16.wrap (a * 2 ^ (16 - n).toNat)) / 2 ^ (16 - n).toNat)=low a n:=by
 have hc:n=1 \/ n=2 \/ n=3 \/ n=4 \/ n=5 \/ n=6 \/ n=7 \/ n=8 \/ n=9 \/ n=10 \/ n=11 \/ n=12 \/ n=13 \/ n=14 \/ n=15 \/ n=16:=by omega
 unfold low
 rw [IntKind.wrap_u16,wrap_i16]
 rcases hc with rfl | rfl | rfl | rfl | rfl | rfl | rfl | rfl | rfl | rfl | rfl | rfl | rfl | rfl | rfl | rfl <;>
  (simp only [Int.reduceSub,Int.reduceToNat,Int.reducePow]
   split <;> split <;> (rw [wrap64_small _ (by omega) (by omega)];omega))
theorem and_low (a:Int) (k:Nat) (hk:k<=16) (ha:0<=a) (ha':a<=65535):bits .and .u16 a ((2 ^ k - 1:Nat):Int)=a % 2 ^ k:=by
 obtain ⟨A,rfl⟩:=Int.eq_ofNat_of_zero_le ha
 have hp:2 ^ k<=2 ^ 16:=Nat.pow_le_pow_right (by omega) hk
 rw [u16_and_nat _ _ (by omega) (by omega),Nat.and_two_pow_sub_one_eq_mod]
 simp
/-! ### moved bit by bit -/
def upTo (a:Int):Nat->Int
 | 0=>a
 | k+1=>(upTo a k * 2) % 65536
/-! ### a word gathered bit by bit -/
def bitAt (a:Int) (k:Nat):Int:=bits .and .u16 (a / 2 ^ k) 1
def gather (f:Int->Int->Bool) (a b:Int):Nat->Int
 | 0=>0
 | k+1=>if f (bitAt a k) (bitAt b k) then gather f a b k+2 ^ k else gather f a b k
theorem bitAt_of (a:Int) (k:Nat) (ha:0<=a) (ha':a<=65535):bitAt a k=if a.toNat.testBit k then 1 else 0:=by
 obtain ⟨A,rfl⟩:=Int.eq_ofNat_of_zero_le ha
 unfold bitAt
 have h0:(A:Int) / 2 ^ k=((A / 2 ^ k:Nat):Int):=by simp
 have h1:A / 2 ^ k<=A:=Nat.div_le_self _ _
 rw [h0,show (1:Int)=((1:Nat):Int) from rfl,u16_and_nat _ _ (by omega) (by omega),Nat.and_one_is_mod,Int.toNat_natCast,Nat.testBit_eq_decide_div_mod_eq]
 by_cases h:A / 2 ^ k % 2=1
 ·simp [h]
 ·simp [h];omega
theorem gather_bd (f:Int->Int->Bool) (a b:Int) (k:Nat):0<=gather f a b k/\gather f a b k < 2 ^ k:=by
 induction k with
 | zero=>simp [gather]
 | succ k ih =>
  have hp:(0:Int) < 2 ^ k:=Int.pow_pos (by omega)
  simp only [gather,Int.pow_succ]
  split <;> omega
theorem gather_nat (f:Int->Int->Bool) (g:Bool->Bool->Bool) (X A B:Nat) (hA:A < 65536) (hB:B < 65536)
 (hf:∀ p q:Bool,f (if p then 1 else 0) (if q then 1 else 0)=g p q) (hX:∀ k,X.testBit k=g (A.testBit k) (B.testBit k)) (k:Nat) :
 gather f (A:Int) (B:Int) k=((X % 2 ^ k:Nat):Int):=by
 induction k with
 | zero=>simp [gather]
 | succ k ih =>
  simp only [gather]
  rw [bitAt_of _ k (by omega) (by omega),bitAt_of _ k (by omega) (by omega),Int.toNat_natCast,Int.toNat_natCast,hf,<- hX,Nat.mod_pow_succ,ih,Nat.testBit_eq_decide_div_mod_eq]
  by_cases h:X / 2 ^ k % 2=1
  ·simp [h]
  ·simp [show X / 2 ^ k % 2=0 from by omega]
def fAnd (x y:Int):Bool:=IntKind.u16.wrap (x+y) == 2
def fOr (x y:Int):Bool:=decide (0 < IntKind.u16.wrap (x+y))
def fXor (x y:Int):Bool:=x != y
theorem gather_and (a b:Int) (ha:0<=a) (ha':a<=65535) (hb:0<=b) (hb':b<=65535):gather fAnd a b 16=bits .and .u16 a b:=by
 obtain ⟨A,rfl⟩:=Int.eq_ofNat_of_zero_le ha
 obtain ⟨B,rfl⟩:=Int.eq_ofNat_of_zero_le hb
 rw [gather_nat fAnd and (A &&& B) A B (by omega) (by omega) (by decide) (fun k=>Nat.testBit_and A B k),u16_and_nat _ _ (by omega) (by omega)]
 have:A &&& B < 2 ^ 16:=Nat.and_lt_two_pow _ (by omega)
 rw [Nat.mod_eq_of_lt this]
theorem gather_or (a b:Int) (ha:0<=a) (ha':a<=65535) (hb:0<=b) (hb':b<=65535):gather fOr a b 16=bits .or .u16 a b:=by
 obtain ⟨A,rfl⟩:=Int.eq_ofNat_of_zero_le ha
 obtain ⟨B,rfl⟩:=Int.eq_ofNat_of_zero_le hb
 rw [gather_nat fOr or (A ||| B) A B (by omega) (by omega) (by decide) (fun k=>Nat.testBit_or A B k),u16_or_nat _ _ (by omega) (by omega)]
 have:A ||| B < 2 ^ 16:=Nat.or_lt_two_pow (by omega) (by omega)
 rw [Nat.mod_eq_of_lt this]
theorem gather_xor (a b:Int) (ha:0<=a) (ha':a<=65535) (hb:0<=b) (hb':b<=65535):gather fXor a b 16=bits .xor .u16 a b:=by
 obtain ⟨A,rfl⟩:=Int.eq_ofNat_of_zero_le ha
 obtain ⟨B,rfl⟩:=Int.eq_ofNat_of_zero_le hb
 rw [gather_nat fXor (fun p q=>p ^^ q) (A ^^^ B) A B (by omega) (by omega) (by decide) (fun k=>Nat.testBit_xor A B k),u16_xor_nat _ _ (by omega) (by omega)]
 have:A ^^^ B < 2 ^ 16:=Nat.xor_lt_two_pow (by omega) (by omega)
 rw [Nat.mod_eq_of_lt this]
theorem top_of (n:Int) (h:0<=n) (h':n<=65535):(bits .and .u16 n 32768 != 0)=decide (32768<=n):=by
 obtain ⟨X,rfl⟩:=Int.eq_ofNat_of_zero_le h
 rw [show (32768:Int)=((32768:Nat):Int) from rfl,u16_and_nat _ _ (by omega) (by omega),and_top,top X (by omega)]
 rw [decide_eq_decide];omega
theorem and_bd (a b:Int) (ha:0<=a) (ha':a<=65535) (hb:0<=b) (hb':b<=65535):0<=bits .and .u16 a b/\bits .and .u16 a b<=65535:=by
 rw [<- gather_and a b ha ha' hb hb'];have:=gather_bd fAnd a b 16;omega
theorem or_bd (a b:Int) (ha:0<=a) (ha':a<=65535) (hb:0<=b) (hb':b<=65535):0<=bits .or .u16 a b/\bits .or .u16 a b<=65535:=by
 rw [<- gather_or a b ha ha' hb hb'];have:=gather_bd fOr a b 16;omega
theorem xor_bd (a b:Int) (ha:0<=a) (ha':a<=65535) (hb:0<=b) (hb':b<=65535):0<=bits .xor .u16 a b/\bits .xor .u16 a b<=65535:=by
 rw [<- gather_xor a b ha ha' hb hb'];have:=gather_bd fXor a b 16;omega
end Go.Proofs.YtbhpfkjfijdmaaaGreatDoor.M
namespace Go.Proofs.YtbhpfkjfijdmaaaGreatDoor
open Go.ChangeShapes Go.WideShapes Go.ChangeAt Go.RowKit
set_option linter.unusedVariables false
set_option maxRecDepth 100000
theorem own:ownKnob Tryz.prog.godebug=none:=by kernel_rfl
end Go.Proofs.YtbhpfkjfijdmaaaGreatDoor
namespace Go.Proofs.YtbhpfkjfijdmaaaGreatDoor.K
set_option linter.unusedVariables false
set_option maxRecDepth 100000
def rows:List (List UInt8 × List UInt8 × List UInt8 × Int):=[
 ([110,111,112],[],[49],1),
 ([109,111,118],[100,115],[49],1),
 ([108,100,105],[100,119],[50],2),
 ([108,100],[100,115,110],[51],3),
 ([115,116],[100,115,110],[51],3),
 ([108,100,98],[100,115,110],[50],2),
 ([115,116,98],[100,115,110],[50],2),
 ([97,100,100],[100,115],[49],1),
 ([115,117,98],[100,115],[49],1),
 ([97,110,100],[100,115],[49],1),
 ([111,114],[100,115],[49],1),
 ([120,111,114],[100,115],[49],1),
 ([115,104,108],[100,110],[49],1),
 ([115,104,114],[100,110],[49],1),
 ([99,109,112],[100,115],[49],1),
 ([97,100,100,105],[100,110],[49],1),
 ([106,109,112],[119],[50],2),
 ([106,122],[119],[50],2),
 ([106,110],[119],[50],2),
 ([106,99],[119],[50],2),
 ([99,97,108,108],[119],[52],4),
 ([114,101,116],[],[52],4),
 ([112,117,115,104],[115],[51],3),
 ([112,111,112],[100],[51],3),
 ([101,105],[],[49],1),
 ([100,105],[],[49],1),
 ([114,116,105],[],[53],5),
 ([104,108,116],[],[49],1),
 ([109,117,108],[100,115],[54],6),
 ([106,110,122],[119],[50],2),
 ([45],[],[48],0),
 ([116,114,97,112],[],[53],5)]
def row (k:Nat):List UInt8 × List UInt8 × List UInt8 × Int:=rows.getD k ([],[],[],0)
def name (k:Nat):ByteArray:=⟨(row k).1.toArray⟩
def cyc (k:Nat):Int:=(row k).2.2.2
end Go.Proofs.YtbhpfkjfijdmaaaGreatDoor.K
namespace Go.Proofs.YtbhpfkjfijdmaaaGreatDoor.O
set_option linter.unusedVariables false
set_option maxRecDepth 100000
def hasC (k:Nat) (c:UInt8):Bool:=(K.row k).2.1.contains c
def isOp (op:Int):Bool:=decide (0<=op) && decide (op<=31) && (op != 30)
def first (op d s n:Int):Int:=op * 2048+d * 256+s * 32+(n+32) % 32
def rOp (a:Int):Int:=if a / 2048=30 then 31 else a / 2048
def rk (a:Int):Nat:=(rOp a).toNat
def rD (a:Int):Int:=if hasC (rk a) 100 then a / 256 % 8 else 0
def rS (a:Int):Int:=if hasC (rk a) 115 then a / 32 % 8 else 0
def nOf (k:Nat) (a:Int):Int:=if k=12 \/ k=13 then a % 16 else if 16<=a % 32 then a % 32 - 32 else a % 32
def rN (a:Int):Int:=if hasC (rk a) 110 then nOf (rk a) a else 0
def rW (a b:Int):Int:=if hasC (rk a) 119 then b else 0
def rLen (a:Int):Int:=if hasC (rk a) 119 then 2 else 1
def mask (k:Nat):Int:=(if hasC k 100 then 1 else 0)+(if hasC k 115 then 2 else 0)+(if hasC k 110 then (if k=12 \/ k=13 then 16 else 4) else 0)+(if hasC k 119 then 8 else 0)
theorem mask_cases:∀ k,k < 32->mask k ∈ ([0,1,2,3,5,7,8,9,17]:List Int):=by decide +kernel
def nameS (k:Nat):ByteArray:=if k=30 then ⟨#[]⟩ else K.name k
theorem nameS_empty:∀ k,k < 32->(nameS k).toList.isEmpty=(k == 30):=by decide +kernel
theorem mask_or (k:Nat) (hk:k < 32):mask k=0 \/ mask k=1 \/ mask k=2 \/ mask k=3 \/ mask k=5 \/ mask k=7 \/ mask k=8 \/ mask k=9 \/ mask k=17:=by simpa using mask_cases k hk
theorem isOp_iff (op:Int):isOp op=true ↔ 0<=op/\op<=31/\op ≠ 30:=by
 unfold isOp
 simp only [Bool.and_eq_true,decide_eq_true_eq,bne_iff_ne,ne_eq,and_assoc]
/-! ### the first word, laid in bit by bit -/
theorem low_5 (a:Int):M.low a 5=if 16<=a % 32 then a % 32 - 32 else a % 32:=by
 unfold M.low
 simp only [show (5:Int).toNat=5 from rfl,Int.reducePow]
 split <;> split <;> omega
/-! ### what was written is read -/
end Go.Proofs.YtbhpfkjfijdmaaaGreatDoor.O
namespace Go.Proofs.YtbhpfkjfijdmaaaGreatDoor
open Go.ChangeShapes Go.WideShapes Go.ChangeAt Go.RowKit
set_option linter.unusedVariables false
set_option maxRecDepth 100000
def shapesAt (w:World):Prop:=∀ k,k < 32->w.cell? ⟨1,k * 3,none⟩=some (.string (O.nameS k))/\w.cell? ⟨1,k * 3+1,none⟩=some (.int .i64 (K.cyc k))/\w.cell? ⟨1,k * 3+2,none⟩=some (.int .i64 (O.mask k))
theorem shapes_of_laid {W:World} {l:List (String × DataW Unit)} (h:laidMet Tryz.prog l W) (hm:("marquee/order.shapes",Rows.laid_marquee_order_shapes) ∈ l):shapesAt W:=by
 obtain ⟨g,t,cs,fuel,p,hg,ht,hv,hd⟩:=Lib.laidMet.reads h hm
 have e1:Tryz.prog.globalNamed "marquee/order.shapes" = some 1:=by kernel_rfl
 have e2:(Tryz.prog.globals[1]?).map (·.type)=some 280:=by kernel_rfl
 obtain rfl:=Option.some.inj (e1.symm.trans hg)
 obtain rfl:=Option.some.inj (e2.symm.trans ht)
 have e3:(Rows.laid_marquee_order_shapes:DataW Unit) = .agg ((List.range 32).map fun k=>.agg [.lit (.string (O.nameS k).data.toList),.lit (.int .i64 (K.cyc k)),.lit (.int .i64 (O.mask k))]):=by kernel_rfl
 rw [e3] at hd
 intro k hk
 obtain ⟨fuel',d,q,hdi,he⟩:=Lib.array_elem Tryz.underlying280 hd k hk
 simp only [List.getElem?_map,List.getElem?_range hk,Option.map_some,Option.some.injEq] at hdi
 subst hdi
 have c3:Tryz.prog.cellsOf 229=3:=by kernel_rfl
 have c9:Tryz.prog.cellsOf 9=1:=by kernel_rfl
 have c1:Tryz.prog.cellsOf 3=1:=by kernel_rfl
 rw [c3] at he
 obtain ⟨y0,y1,y2,n,hx,_,h0,h1,h2⟩:=Deep.trod_struct3 Tryz.underlying229 he
 simp only [Prod.mk.injEq,DataW.agg.injEq,List.cons.injEq,and_true] at hx
 obtain ⟨⟨x0,x1,x2⟩,_⟩:=hx
 dsimp only at h0 h1 h2
 rw [c9] at h0
 rw [c1] at h1 h2
 obtain ⟨s,s0,s1,_⟩:=DataW.trod_string Tryz.underlying9 h0
 obtain ⟨a,a0,a1,_⟩:=DataW.trod_int Tryz.underlying3 h1
 obtain ⟨b,b0,b1,_⟩:=DataW.trod_int Tryz.underlying3 h2
 rw [s1] at x0;rw [a1] at x1;rw [b1] at x2
 simp only [DataW.lit.injEq,Lit.string.injEq,Lit.int.injEq,true_and] at x0 x1 x2
 have es:s=O.nameS k:=ByteArray.ext (Array.toList_inj.1 x0.symm)
 subst es;subst x1;subst x2
 have f0:=congrArg (·[0]?) s0
 have f1:=congrArg (·[0]?) a0
 have f2:=congrArg (·[0]?) b0
 simp [List.getElem?_drop] at f0 f1 f2
 refine ⟨?_,?_,?_⟩
 ·rw [World.var?_cell hg hv (k * 3),f0]
 ·rw [World.var?_cell hg hv (k * 3+1),f1]
 ·rw [World.var?_cell hg hv (k * 3+2),f2]
theorem shapesAt.lt {w:World} (h:shapesAt w):1 < w.heap.size:=World.block_lt_of_cell? w _ (h 0 (by omega)).1
theorem shapesAt.kept {w w':World} (h:shapesAt w) (hb:Below w.heap.size w w'):shapesAt w':=fun k hk=>by
 have hl:=h.lt
 obtain ⟨h1,h2,h3⟩:=h k hk
 exact ⟨(hb.cell hl).trans h1,(hb.cell hl).trans h2,(hb.cell hl).trans h3⟩
/-! ### arguments: each reads behind the call as it did -/
theorem trodAll_below {H:Type} {enc:TypeId × Value->H} {P:Program} (hl:laidOutB P=true) {W W':World} (hb:Below W.heap.size W W') :
 ∀ {ts:List TypeId} {vs:List Value} {ds:List (DataW H)} {ps:List MemPlace},(∀ t ∈ ts,P.readableRec t=true/\t < P.types.size)->DataW.TrodAll enc P W 0 (fun _=>true) true ts vs ds ps->(∀ x ∈ ps,x.block < W.heap.size) ->
  DataW.TrodAll enc P W' 0 (fun b=>decide (b < W.heap.size)) true ts vs ds ps
 | [],vs,ds,ps,_,h,_=>by
  obtain ⟨rfl,rfl,rfl⟩:=trodAll_nil h
  exact trodAll_mk0
 | t :: ts,vs,ds,ps,hr,h,hlt=>by
  obtain ⟨v,vs',d,ds',p,q,rfl,rfl,rfl,hd,hrest⟩:=trodAll_cons h
  exact ⟨p,q,Below.trod hl (hr t (by simp)).1 (hr t (by simp)).2 hd hb (fun x hx=>hlt x (by simp [hx])),trodAll_below hl hb (fun t' ht'=>hr t' (by simp [ht'])) hrest (fun x hx=>hlt x (by simp [hx])),rfl⟩
theorem trodAll_below_all {H:Type} {enc:TypeId × Value->H} {P:Program} (hl:laidOutB P=true) {W W':World} (hb:Below W.heap.size W W') {ts:List TypeId} {vs:List Value} {ds:List (DataW H)} {ps:List MemPlace}
 (hr:ts.all (fun t=>P.readableRec t && decide (t < P.types.size))=true) (h:DataW.TrodAll enc P W 0 (fun _=>true) true ts vs ds ps) (hlt:∀ x ∈ ps,x.block < W.heap.size) :
 DataW.TrodAll enc P W' 0 (fun b=>decide (b < W.heap.size)) true ts vs ds ps :=
 trodAll_below hl hb (fun t ht=>by have:=List.all_eq_true.1 hr t ht;simpa using this) h hlt
theorem hid {p:Prop} (h:p):Hid p:=h
theorem ret_b {b b':Bool} (h:b=b'):Ending.returned (.bool b) = .returned (.bool b'):=by rw [h]
theorem stp {W a b:World} (h:Below W.heap.size W a) (hb:Below a.heap.size a b):Below W.heap.size W b:=h.trans (hb.mono h.size)
theorem stA {W a:World} (h:Below W.heap.size W a) (o:Obj):Below W.heap.size W (a.alloc o):=h.alloc h.size o
theorem st0 (W:World):Below W.heap.size W W:=Below.refl _ _
theorem bcell {W w1:World} (hb:Below W.heap.size W w1):(∀ b o,b < W.heap.size->w1.cell? ⟨b,o,none⟩=W.cell? ⟨b,o,none⟩)/\(∀ b o,b < W.heap.size->w1.frozen? ⟨b,o,none⟩=W.frozen? ⟨b,o,none⟩) :=
 ⟨fun b o h=>hb.cell (p:=⟨b,o,none⟩) h,fun b o h=>hb.frozen (p:=⟨b,o,none⟩) h⟩
theorem shape_yes (k:Nat) (hk:k < 32) (h30:k ≠ 30) (w:World) (hs:shapesAt w) :
 Calls Tryz.prog 155 #[.int .i64 k] w fun e w'=>e = .returned (.tuple #[.agg #[.string (O.nameS k),.int .i64 (K.cyc k),.int .i64 (O.mask k)],.int .i64 0])/\Below w.heap.size w w':=by
 have hl:=hs.lt
 obtain ⟨c0,c1,c2⟩:=hs k hk
 have hn:(O.nameS k).toList.isEmpty=false:=(O.nameS_empty k hk).trans (by simpa using h30)
 clear hs
 go_enter Tryz.func155,Tryz.ntmps155
 go_wp2
 exact bodyPost_ret (v:=.tuple #[.agg #[.string (O.nameS k),.int .i64 (K.cyc k),.int .i64 (O.mask k)],.int .i64 0]) (by simp [results,Tryz.results155,go_sem]) rfl ⟨rfl,(Below.refl _ _).alloc (Nat.le_refl _) _⟩
theorem shape_no (op:Int) (h:O.isOp op=false) (w:World) (hs:shapesAt w) :
 Calls Tryz.prog 155 #[.int .i64 op] w fun e w'=>e = .returned (.tuple #[.agg #[.string ⟨#[]⟩,.int .i64 0,.int .i64 0],.int .i64 5])/\Below w.heap.size w w':=by
 have hl:=hs.lt
 have h':¬ (0<=op/\op<=31/\op ≠ 30):=fun c=>by rw [(O.isOp_iff op).2 c] at h;cases h
 obtain ⟨c0,c1,c2⟩:=hs 30 (by omega)
 clear hs h
 have e30:O.nameS 30=⟨#[]⟩:=rfl
 rw [e30] at c0
 clear e30
 have hc:op < 0 \/ 31 < op \/ op=30:=by omega
 clear h'
 rcases hc with h | h | rfl
 ·go_enter Tryz.func155,Tryz.ntmps155
  go_wp2
  exact bodyPost_ret (v:=.tuple #[.agg #[.string ⟨#[]⟩,.int .i64 0,.int .i64 0],.int .i64 5]) (by simp [results,Tryz.results155,go_sem]) rfl ⟨rfl,(Below.refl _ _).alloc (Nat.le_refl _) _⟩
 ·have h2:¬ op < 0:=by omega
  go_enter Tryz.func155,Tryz.ntmps155
  go_wp2
  exact bodyPost_ret (v:=.tuple #[.agg #[.string ⟨#[]⟩,.int .i64 0,.int .i64 0],.int .i64 5]) (by simp [results,Tryz.results155,go_sem]) rfl ⟨rfl,(Below.refl _ _).alloc (Nat.le_refl _) _⟩
 ·go_enter Tryz.func155,Tryz.ntmps155
  go_wp2
  exact bodyPost_ret (v:=.tuple #[.agg #[.string ⟨#[]⟩,.int .i64 0,.int .i64 0],.int .i64 5]) (by simp [results,Tryz.results155,go_sem]) rfl ⟨rfl,(Below.refl _ _).alloc (Nat.le_refl _) _⟩
def lenOf (h:Int):Int:=if h / 8 % 2=1 then 2 else 1
theorem words_any (a b:Value) (k:Nat) (hk:k < 32) (w:World) :
 Calls Tryz.prog 206 #[.agg #[a,b,.int .i64 (O.mask k)]] w fun e w'=>e = .returned (.int .i64 (lenOf (O.mask k)))/\Below w.heap.size w w':=by
 rcases O.mask_or k hk with h | h | h | h | h | h | h | h | h <;> rw [h]
 all_goals
  clear h
  go_enter Tryz.func206,Tryz.ntmps206
  go_wp2
  go_ret
  exact ⟨rfl,(Below.refl _ _).alloc (Nat.le_refl _) _⟩
theorem cell_new (w:World) (cs:Array Value) (t:TypeId) (b:Nat) (h:b=w.heap.size) {k:Nat}:(w.alloc (.cells cs t)).cell? ⟨b,k,none⟩=cs[k]?:=by subst h;exact World.cell?_alloc_new ..
def sel (l:Bool) (a b:Int):Int:=if l then a else b
theorem sel_ind {P:Int->Prop} (l:Bool) {a b:Int} (ha:P a) (hb:P b):P (sel l a b):=by cases l <;> assumption
theorem Pl.new (w:World) (cs:Array Value) (t:TypeId) (b:Nat) (h:b=w.heap.size) {k:Nat}:(w.alloc (.cells cs t)).cell? ⟨b,k,none⟩=cs[k]?:=by subst h;exact World.cell?_alloc_new ..
theorem Pl.there_new (w:World) (cs:Array Value) (t:TypeId) (n b:Nat) (hb:b=w.heap.size) (h:cs.size=n):(w.alloc (.cells cs t)).there b 0 n:=fun j hj=>by
 subst hb
 refine ⟨?_,Lib.frozen_of_heap (heap_alloc_new w _) _⟩
 rw [Pl.new _ _ _ _ rfl,Array.getElem?_eq_getElem (by omega)]
 rfl
theorem Pl.there_old {w w':World} {b n:Nat} (h:w.there b 0 n) (hb:Below w.heap.size w w') (hlt:b < w.heap.size):w'.there b 0 n:=fun j hj=>by
 have:=h j hj
 rw [hb.cell (p:=⟨b,0+j,none⟩) hlt,hb.frozen (p:=⟨b,0+j,none⟩) hlt]
 exact this
theorem Pl.below {n:Nat} {a:World} {b:Nat} (hb:n<=b):∀ (vs:List Value) (o:Nat) (w:World),Below n a w->Below n a (w.setCells b o vs)
 | [],o,w,h=>h
 | v :: vs,o,w,h=>Pl.below hb vs (o+1) _ (h.setCell hb v)
theorem Pl.fin {w w0 w1:World} {b:Nat} (L:List Value) (hth:w0.there b 0 L.length) (hb0:Below w.heap.size w w0) (hb1:Below w0.heap.size w0 w1) (hlt:b < w0.heap.size) (hw:w.heap.size<=b):Below w.heap.size w (w1.setCells b 0 L)/\(w1.setCells b 0 L).rangeAt b 0 L :=
 ⟨Pl.below hw L 0 w1 (stp hb0 hb1),World.rangeAt_setCells_same w1 b 0 L (Pl.there_old hth hb1 hlt)⟩
theorem Pl.cutW {P:Program} {code:Code} {Q:Exit->Act->World->Prop} {a:Act} {w:World} (K:World->Prop) (h:K w) (k:∀ w',K w'->code.wp P Q a w'):code.wp P Q a w:=k w h
theorem Pl.cutB {P:Program} {fn:Func} {R:Ending->World->Prop} {e:Exit} {a:Act} {w:World} (K:World->Prop) (h:K w) (k:∀ w',K w'->bodyPost P fn R e a w'):bodyPost P fn R e a w:=k w h
theorem Pl.spot {w:World} {a:Addr} {v:Value} (h:w.cell? a=some v):a.spot=none:=by
 unfold World.cell? at h
 split at h
 ·split at h
  ·cases h
  ·rename_i hs
   cases hh:a.spot with
   | none=>rfl
   | some x=>rw [hh] at hs;simp at hs
 ·cases h
def isAt (k:IntKind) (w:World) (v:Value) (l:List Int):Prop:=(∃ a cap,v = .slice a 0 cap/\l=[]) \/ ∃ g o cap,v = .slice (some ⟨g,o,none⟩) l.length cap/\g < w.heap.size /\ ∀ j x,l[j]? = some x->w.cell? ⟨g,o+j,none⟩=some (.int k x)
theorem isAt.kept {k:IntKind} {w w':World} {v:Value} {l:List Int} (h:isAt k w v l) (hb:Below w.heap.size w w'):isAt k w' v l:=by
 rcases h with h | ⟨g,o,cap,h1,h3,h4⟩
 ·exact Or.inl h
 ·exact Or.inr ⟨g,o,cap,h1,Nat.lt_of_lt_of_le h3 hb.size,fun j x hj=>(hb.cell (p:=⟨g,o+j,none⟩) h3).trans (h4 j x hj)⟩
theorem ret_v {a b:Value} (h:a=b):Ending.returned a = .returned b:=by rw [h]
theorem xA {α:Type} {l:List α} {i:Nat} {a:α}:l.toArray.setIfInBounds i a=(l.set i a).toArray:=List.setIfInBounds_toArray _ _ _
theorem xB {α:Type} {a b:α} {l:List α}:(a :: l).set 0 b=b :: l:=List.set_cons_zero
theorem xC {α:Type} {a b:α} {l:List α} {n:Nat}:(a :: l).set (n+1) b=a :: l.set n b:=List.set_cons_succ
structure Bx (W : World) (b : Nat) (L : List Value) : Prop where
 z:b < W.heap.size
 c:W.rangeAt b 0 L
 f:∀ o,W.frozen? ⟨b,o,none⟩=false
section
variable {W w1 : World} {b : Nat} {L : List Value}
theorem Bx.at (h:Bx W b L) (i:Nat) (v:Value) (e:L[i]? = some v):W.cell? ⟨b,i,none⟩=some v:=by have:=h.c i v e;rwa [Nat.zero_add] at this
theorem Bx.kept (h:Bx W b L) (hb:Below W.heap.size W w1):Bx w1 b L :=
 ⟨Nat.lt_of_lt_of_le h.z hb.size,fun j v hj=>(hb.cell (p:=⟨b,0+j,none⟩) h.z).trans (h.c j v hj),fun o=>(hb.frozen (p:=⟨b,o,none⟩) h.z).trans (h.f o)⟩
theorem Bx.under {n:Nat} (h:Bx W b L) (hb:Below n W w1) (hn:b < n):Bx w1 b L :=
 ⟨Nat.lt_of_lt_of_le h.z hb.size,fun j v hj=>(hb.cell (p:=⟨b,0+j,none⟩) hn).trans (h.c j v hj),fun o=>(hb.frozen (p:=⟨b,o,none⟩) hn).trans (h.f o)⟩
theorem Bx.over (h:Bx W b L) (o:Obj):Bx (W.alloc o) b L:=h.kept (stA (st0 W) o)
theorem Bx.drew (h:Bx W b L):Bx W.drew b L:=⟨h.z,h.c,h.f⟩
theorem Bx.new (W:World) (L:List Value) (t:TypeId) {b:Nat} (hb:b=W.heap.size):Bx (W.alloc (.cells L.toArray t)) b L:=by
 subst hb
 exact ⟨by simp,fun j v hj=>(Pl.new _ _ _ _ rfl).trans (by rw [Nat.zero_add];simpa using hj),fun o=>Lib.frozen_of_heap (heap_alloc_new W _) o⟩
theorem Bx.far (h:Bx W b L) {b' o':Nat} (hne:b' ≠ b) (v:Value):Bx (W.setCell ⟨b',o',none⟩ v) b L :=
 ⟨by simpa using h.z,fun j x hj=>(World.cell?_setCell_far W _ _ v hne).trans (h.c j x hj),fun o=>by simpa using h.f o⟩
theorem Bx.set (h:Bx W b L) (i:Nat) (v:Value) (hi:i < L.length):Bx (W.setCell ⟨b,i,none⟩ v) b (L.set i v):=by
 refine ⟨by simpa using h.z,fun j x hj=>?_,fun o=>by simpa using h.f o⟩
 rw [Nat.zero_add]
 by_cases e:i=j
 ·subst e
  rw [List.getElem?_set_self hi] at hj
  have hs:(W.cell? ⟨b,i,none⟩).isSome:=by rw [h.at i _ (List.getElem?_eq_getElem hi)];rfl
  rw [<- hj]
  exact World.cell?_setCell_same' _ _ _ hs
 ·rw [List.getElem?_set_ne e] at hj
  exact (World.cell?_setCell_other _ _ _ _ (by intro x;exact e (congrArg Addr.off x))).trans (h.at j x hj)
def putL (L:List Value) (o:Nat):List Value->List Value
 | []=>L
 | v :: vs=>putL (L.set o v) (o+1) vs
theorem Bx.puts (h:Bx W b L) (o:Nat) (vs:List Value) (hl:o+vs.length<=L.length):Bx (W.setCells b o vs) b (putL L o vs):=by
 induction vs generalizing W L o with
 | nil=>exact h
 | cons v vs ih =>
  simp only [List.length_cons] at hl
  exact ih (h.set o v (by omega)) (o+1) (by simp;omega)
theorem Bx.fars (h:Bx W b L) {b':Nat} (hne:b' ≠ b) (o:Nat) (vs:List Value):Bx (W.setCells b' o vs) b L:=by
 induction vs generalizing W o with
 | nil=>exact h
 | cons v vs ih=>exact ih (h.far hne v) (o+1)
theorem Bx.mid (h:Bx W b L) (o n:Nat):W.rangeAt b o ((L.drop o).take n):=fun j v hj=>by
 have hj':(L.drop o)[j]? = some v:=by
  rw [List.getElem?_take] at hj
  split at hj
  ·exact hj
  ·cases hj
 rw [List.getElem?_drop] at hj'
 exact h.at (o+j) v hj'
theorem Bx.there (h:Bx W b L) (o n:Nat) (hl:o+n<=L.length):W.there b o n:=fun j hj=>by
 refine ⟨?_,h.f _⟩
 rw [h.at (o+j) _ (List.getElem?_eq_getElem (by omega))]
 rfl
end
theorem Bl.set {w W:World} {b o:Nat} (h:Below w.heap.size w W) (hb:w.heap.size<=b) (v:Value):Below w.heap.size w (W.setCell ⟨b,o,none⟩ v):=h.setCell hb v
theorem Bl.puts {w W:World} {b o:Nat} (h:Below w.heap.size w W) (hb:w.heap.size<=b) (vs:List Value):Below w.heap.size w (W.setCells b o vs):=Pl.below hb vs o W h
theorem Pl.cutL {P:Program} {ops:Array Oper} {rest:List Oper} {Q:Exit->Act->World->Prop} {a:Act} {w:World} (K:World->Prop) (h:K w) (k:∀ w',K w'->wpList P ops Q rest a w'):wpList P ops Q rest a w:=k w h
theorem Pl.cutE {F:Exit->Act->World->Prop} {e:Exit} {a:Act} {w:World} (K:World->Prop) (h:K w) (k:∀ w',K w'->F e a w'):F e a w:=k w h
theorem Bl.drewN {B:Nat} {a w:World} (h:Below B a w) (n:Nat):Below B a (w.drewN n):=h.trans ⟨rfl,rfl,rfl,Nat.le_refl _,fun _ _=>rfl⟩
end Go.Proofs.YtbhpfkjfijdmaaaGreatDoor
