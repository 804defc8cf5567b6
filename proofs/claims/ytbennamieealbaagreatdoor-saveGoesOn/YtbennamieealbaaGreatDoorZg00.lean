/-
  Parts of a proof, joined.
-/
import Derived.Test.YtbennamieealbaaGreatDoorChecked
import GoSem.PinnedTables
import GoSem.Claim
import GoSem.ClaimJoined
import GoSem.ClaimMapViews
import Derived.JoinedTies
import Derived.KernelRfl
import Derived.WalkKit
import Derived.ProofKit
import Derived.OpenShut
import Derived.Lay
import Derived.Lib.LaidU8
import Derived.Lib.Space
import Derived.Shelf.Vars
import Derived.Stop.Joined
import Derived.Lib.Fields
import Derived.Lib.Split
import Derived.Lib.ParseIntB
import Derived.Laws.BitsAllLaws
import Derived.Lib.SmallJoins
import Derived.Deep.Strs
import Derived.Test.YtbennamieealbaaGreatDoorRows
import Derived.Test.YtbennamieealbaaGreatDoorCards
import Derived.Test.YtbennamieealbaaGreatDoorTie
import Derived.SevenTiedAt
set_option linter.unusedVariables false
set_option maxRecDepth 100000
namespace Go.Proofs.YtbennamieealbaaGreatDoor
open Go.ChangeShapes Go.WideShapes Go.ChangeAt Go.RowKit
theorem own:ownKnob Tryz.prog.godebug=none:=by kernel_rfl
theorem zcb {H:Type} {enc:TypeId × Value->H} {a:Assume} {C:Checked} {os:Os} {f:FuncId} {fn:Func} {s:ChangeSpec} {conds:List PathCond} {apart fresh handsOn again:Bool} {X:World->Array Value->Prop}
 (hX:∀ (w w':World) (args:Array Value),w.heap=w'.heap->X w args->X w' args)
 (hown:ownKnob C.prog.godebug=none) (started:os.Started) (noInit:C.prog.inits.idxOf? f=none) (hfn:C.prog.funcs[f]? = some fn)
 (witness:∃ (w:World) (tape:Tape) (i:Input),w.os=os/\(w.forCall tape i).Shaped C.prog/\i.vars=[]/\Input.okWide C.prog (w.forCall tape i) .any w.heap.size f i /\
   ((s.pre enc C.prog fn conds apart (w.forCall tape i).memory i.args/\X (w.forCall tape i).memory i.args)/\sizedMet enc C.prog fn (OpenSpec.ofChange s) apart (w.forCall tape i).memory i.args)/\a.holds C.prog (lone (Frame.enter C.prog f i.args .normal) [] (w.forCall tape i)))
 (contract:∀ (W:World) (base:Nat) (args:Array Value) (ds gs:List (DataW H)) (before:List MemPlace),
   (∀ (j:Nat) t v,fn.params[j]? = some t->args[j]? = some v->Value.okWide C.prog W .any base t v) ->
   DataW.Whole enc C.prog fn.params.toList s.vars apart W args.toList ds gs before ->
   conds.all (PathCond.test C.prog ⟨fn.params.toList,ds,s.plain.varTypes C.prog,gs⟩)=true ->
   (DataW.weightsEach C.prog (fn.params.toList++s.plain.varTypes C.prog) (ds++gs)).all (· <= reachBytes)=true->X W args->W.ShapedOpen C.prog ->
   a.holds C.prog (lone (Frame.enter C.prog f args .normal) [] W) ->
   Calls C.prog f args W λe W'=>∃ v,e = .returned v/\s.post enc C.prog fn apart fresh handsOn again W args v W') :
 ReturnsInHanded a C os f .any (λw args=>(s.pre enc C.prog fn conds apart w args/\X w args)/\sizedMet enc C.prog fn (OpenSpec.ofChange s) apart w args) (s.post enc C.prog fn apart fresh handsOn again):=by
 refine returnsInHanded_of_calls hown started noInit witness ?_
 intro w tape i _ hsh _ hok hpre hholds
 obtain ⟨_,_,_,fn',hfn',_,_,_,_,hval⟩:=hok
 obtain rfl:fn'=fn:=Option.some.inj (hfn'.symm.trans hfn)
 obtain ⟨⟨⟨ds,gs,before,hw,hc⟩,hx⟩,hz⟩:=hpre
 refine (contract (w.forCall tape i) w.heap.size i.args ds gs before hval (DataW.Whole.of_heap (w':=w.forCall tape i) (by rfl) hw) hc (hz.weights hw) (hX _ _ _ (by rfl) hx) hsh hholds).mono λe W' ⟨v,he,hp⟩=>?_
 subst he
 exact ChangeSpec.post_blind hp
end Go.Proofs.YtbennamieealbaaGreatDoor
namespace Go.Proofs.YtbennamieealbaaGreatDoor.K
def rows:List (List UInt8 × List UInt8 × List UInt8 × Int):=[
 ([110,111,112],[],[49],1),
 ([109,111,118],[100,115],[49],1),
 ([108,100,105],[100,119],[50],2),
 ([108,100],[100,115,110],[51],3),
 ([115,116],[100,115,110],[51],3),
 ([108,100,98],[100,115,110],[50],2),
 ([115,116,98],[100,115,110],[50],2),
 ([97,100,100],[100,115],[49],1),
 ([115,117,98],[100,115],[49],1),
 ([97,110,100],[100,115],[49],1),
 ([111,114],[100,115],[49],1),
 ([120,111,114],[100,115],[49],1),
 ([115,104,108],[100,110],[49],1),
 ([115,104,114],[100,110],[49],1),
 ([99,109,112],[100,115],[49],1),
 ([97,100,100,105],[100,110],[49],1),
 ([106,109,112],[119],[50],2),
 ([106,122],[119],[50],2),
 ([106,110],[119],[50],2),
 ([106,99],[119],[50],2),
 ([99,97,108,108],[119],[52],4),
 ([114,101,116],[],[52],4),
 ([112,117,115,104],[115],[51],3),
 ([112,111,112],[100],[51],3),
 ([101,105],[],[49],1),
 ([100,105],[],[49],1),
 ([114,116,105],[],[53],5),
 ([104,108,116],[],[49],1),
 ([109,117,108],[100,115],[54],6),
 ([106,110,122],[119],[50],2),
 ([45],[],[48],0),
 ([116,114,97,112],[],[53],5)]
def row (k:Nat):List UInt8 × List UInt8 × List UInt8 × Int:=rows.getD k ([],[],[],0)
def name (k:Nat):ByteArray:=⟨(row k).1.toArray⟩
def cyc (k:Nat):Int:=(row k).2.2.2
end Go.Proofs.YtbennamieealbaaGreatDoor.K
namespace Go.Proofs.YtbennamieealbaaGreatDoor.M
def sg (a:Int):Int:=if 32768<=a then a-65536 else a
def addN (a b:Int):Int:=(a+b)%65536
def addC (a b:Int):Bool:=decide (65535<a+b)
def addV (a b:Int):Bool:=decide (32767<sg a+sg b \/ sg a+sg b < -32768)
def subN (a b:Int):Int:=(a-b)%65536
def subC (a b:Int):Bool:=decide (a<b)
def subV (a b:Int):Bool:=decide (32767<sg a-sg b \/ sg a-sg b < -32768)
def mulN (a b:Int):Int:=(a*b)%65536
def mulC (a b:Int):Bool:=decide (65535<a*b)
def shlN (a n:Int):Int:=(a*2 ^ n.toNat)%65536
def shlC (a n:Int):Bool:=decide (1<=n/\a/2 ^ (16-n).toNat%2=1)
def shrN (a n:Int):Int:=a/2 ^ n.toNat
def shrC (a n:Int):Bool:=decide (1<=n/\a/2 ^ (n-1).toNat%2=1)
def hasB (a n:Int):Bool:=decide (a/2 ^ n.toNat%2=1)
def low (a n:Int):Int:=if (2:Int) ^ n.toNat<=2*(a%2 ^ n.toNat) then a%2 ^ n.toNat-2 ^ n.toNat else a%2 ^ n.toNat
theorem addN_bd (a b:Int):0<=addN a b/\addN a b<=65535:=by unfold addN;omega
theorem subN_bd (a b:Int):0<=subN a b/\subN a b<=65535:=by unfold subN;omega
theorem mulN_bd (a b:Int):0<=mulN a b/\mulN a b<=65535:=by unfold mulN;omega
theorem shlN_bd (a n:Int):0<=shlN a n/\shlN a n<=65535:=by unfold shlN;omega
/-! ### the highest bit -/
theorem top (x:Nat) (h:x<65536):x.testBit 15=decide (32768<=x):=by
 rw [Nat.testBit_eq_decide_div_mod_eq]
 by_cases hx:32768<=x
 ·rw [decide_eq_true hx,decide_eq_true];omega
 ·rw [decide_eq_false hx,decide_eq_false];omega
theorem and_pow (x i:Nat):x &&& 2 ^ i=if x.testBit i then 2 ^ i else 0:=by
 apply Nat.eq_of_testBit_eq
 intro j
 rw [Nat.testBit_and,Nat.testBit_two_pow]
 by_cases h:i=j
 ·subst h;cases x.testBit i <;> simp [Nat.testBit_two_pow_self]
 ·cases x.testBit i <;> simp [h]
theorem and_top (x:Nat):(((x &&& 32768:Nat):Int) != 0)=x.testBit 15:=by
 have h:x &&& 32768=if x.testBit 15 then 2 ^ 15 else 0:=and_pow x 15
 rw [h]
 cases x.testBit 15 <;> decide
theorem signs (x y z t:Nat) (hx:x<65536) (hy:y<65536) (hz:z<65536) (ht:t<65536) :
 (bits .and .u16 (bits .and .u16 (bits .xor .u16 (x:Int) (y:Int)) (bits .xor .u16 (z:Int) (t:Int))) 32768 != 0) =
  ((decide (32768<=x) != decide (32768<=y)) && (decide (32768<=z) != decide (32768<=t))):=by
 have h1:x ^^^ y<2 ^ 16:=Nat.xor_lt_two_pow (by omega) (by omega)
 have h2:z ^^^ t<2 ^ 16:=Nat.xor_lt_two_pow (by omega) (by omega)
 have h3:(x ^^^ y) &&& (z ^^^ t)<2 ^ 16:=Nat.and_lt_two_pow _ h2
 rw [u16_xor_nat x y hx hy,u16_xor_nat z t hz ht,u16_and_nat _ _ (by omega) (by omega)]
 rw [show (32768:Int)=((32768:Nat):Int) from rfl,u16_and_nat _ _ (by omega) (by omega),and_top]
 rw [Nat.testBit_and,Nat.testBit_xor,Nat.testBit_xor,top x hx,top y hy,top z hz,top t ht]
theorem over_add (a b:Int) (ha:0<=a) (ha':a<=65535) (hb:0<=b) (hb':b<=65535) :
 (bits .and .u16 (bits .and .u16 (bits .xor .u16 a (IntKind.u16.wrap (a+b))) (bits .xor .u16 b (IntKind.u16.wrap (a+b)))) 32768 != 0)=addV a b:=by
 obtain ⟨A,rfl⟩:=Int.eq_ofNat_of_zero_le ha
 obtain ⟨B,rfl⟩:=Int.eq_ofNat_of_zero_le hb
 have e:IntKind.u16.wrap ((A:Int)+(B:Int))=(((A+B)%65536:Nat):Int):=by rw [IntKind.wrap_u16];omega
 rw [e,signs A _ B _ (by omega) (by omega) (by omega) (by omega)]
 unfold addV sg
 by_cases h1:32768<=A <;> by_cases h2:32768<=B <;> by_cases h3:32768<=(A+B)%65536 <;> by_cases h4:(32768:Int)<=(A:Int) <;> by_cases h5:(32768:Int)<=(B:Int) <;>
  first
   | (exfalso;omega)
   | (simp [h1,h2,h3,h4,h5];omega)
theorem over_sub (a b:Int) (ha:0<=a) (ha':a<=65535) (hb:0<=b) (hb':b<=65535) :
 (bits .and .u16 (bits .and .u16 (bits .xor .u16 a b) (bits .xor .u16 a (IntKind.u16.wrap (a-b)))) 32768 != 0)=subV a b:=by
 obtain ⟨A,rfl⟩:=Int.eq_ofNat_of_zero_le ha
 obtain ⟨B,rfl⟩:=Int.eq_ofNat_of_zero_le hb
 have e:IntKind.u16.wrap ((A:Int)-(B:Int))=(((A+65536-B)%65536:Nat):Int):=by rw [IntKind.wrap_u16];omega
 rw [e,signs A B A _ (by omega) (by omega) (by omega) (by omega)]
 unfold subV sg
 by_cases h1:32768<=A <;> by_cases h2:32768<=B <;> by_cases h3:32768<=(A+65536-B)%65536 <;> by_cases h4:(32768:Int)<=(A:Int) <;> by_cases h5:(32768:Int)<=(B:Int) <;>
  first
   | (exfalso;omega)
   | (simp [h1,h2,h3,h4,h5];omega)
theorem carry_add (a b:Int) (ha:0<=a) (ha':a<=65535) (hb:0<=b) (hb':b<=65535):decide (IntKind.u16.wrap (a+b)<a)=addC a b:=by
 unfold addC;rw [IntKind.wrap_u16,decide_eq_decide];omega
/-! ### products -/
theorem mul_bd (a b:Int) (ha:0<=a) (ha':a<=65535) (hb:0<=b) (hb':b<=65535):0<=a*b/\a*b<=4294836225:=by
 have h1:0<=a*b:=Int.mul_nonneg ha hb
 have h2:a*b<=65535*65535:=Int.mul_le_mul ha' hb' hb (by omega)
 omega
theorem mul_high (p:Int) (h:0<=p):(p/65536 != 0)=decide (65535<p):=by
 by_cases c:65535<p
 ·rw [decide_eq_true c,bne_iff_ne];omega
 ·rw [decide_eq_false c];simp;omega
/-! ### bits and bytes -/
theorem bit_of (x:Int) (h:0<=x) (h':x<=65535):(bits .and .u16 x 1 == 1)=decide (x%2=1):=by
 obtain ⟨X,rfl⟩:=Int.eq_ofNat_of_zero_le h
 rw [show (1:Int)=((1:Nat):Int) from rfl,u16_and_nat _ _ (by omega) (by omega),Nat.and_one_is_mod]
 by_cases c:(X:Int)%2=1
 ·rw [decide_eq_true (by omega),beq_iff_eq];omega
 ·rw [decide_eq_false (by omega),beq_eq_false_iff_ne];omega
theorem joined (a b:Int) (ha:0<=a) (ha':a<=255) (hb:0<=b) (hb':b<=255):bits .or .u16 (a*256) b=a*256+b:=by
 obtain ⟨A,rfl⟩:=Int.eq_ofNat_of_zero_le ha
 obtain ⟨B,rfl⟩:=Int.eq_ofNat_of_zero_le hb
 rw [show (A:Int)*256=((A*256:Nat):Int) from by omega,u16_or_nat _ _ (by omega) (by omega)]
 have h:A*256 ||| B=A*256+B:=by
  have:=Nat.two_pow_add_eq_or_of_lt (i:=8) (b:=B) (by omega) A
  rw [show A*256=2 ^ 8*A from by omega];exact this.symm
 rw [h];omega
theorem has_of (a n:Int) (ha:0<=a) (ha':a<=65535):(bits .and .u16 (a/2 ^ n.toNat) 1 == 1)=hasB a n:=by
 have hp:(0:Int)<2 ^ n.toNat:=Int.pow_pos (by omega)
 have h0:0<=a/2 ^ n.toNat:=Int.ediv_nonneg ha (by omega)
 have h1:a/2 ^ n.toNat<=a:=Int.ediv_le_self _ ha
 exact bit_of _ h0 (by omega)
theorem wrap_i16 (n:Int):IntKind.i16.wrap n=if 32768<=n%65536 then n%65536-65536 else n%65536:=by
 simp [IntKind.wrap,IntKind.bits,IntKind.signed]
theorem wrap64_small (n:Int) (h:-32768<=n) (h':n<=32767):RowKit.wrap64 n=n:=by unfold RowKit.wrap64;omega
theorem low_of (a n:Int) (hn:1<=n) (hn':n<=16) :
 RowKit.wrap64 (IntKind.i16.wrap (IntKind.u16.wrap (a*2 ^ (16-n).toNat))/2 ^ (16-n).toNat)=low a n:=by
 have hc:n=1 \/ n=2 \/ n=3 \/ n=4 \/ n=5 \/ n=6 \/ n=7 \/ n=8 \/ n=9 \/ n=10 \/ n=11 \/ n=12 \/ n=13 \/ n=14 \/ n=15 \/ n=16:=by omega
 unfold low
 rw [IntKind.wrap_u16,wrap_i16]
 rcases hc with rfl|rfl|rfl|rfl|rfl|rfl|rfl|rfl|rfl|rfl|rfl|rfl|rfl|rfl|rfl|rfl <;>
  (simp only [Int.reduceSub,Int.reduceToNat,Int.reducePow]
   split <;> split <;> (rw [wrap64_small _ (by omega) (by omega)];omega))
theorem and_low (a:Int) (k:Nat) (hk:k<=16) (ha:0<=a) (ha':a<=65535):bits .and .u16 a ((2 ^ k-1:Nat):Int)=a%2 ^ k:=by
 obtain ⟨A,rfl⟩:=Int.eq_ofNat_of_zero_le ha
 have hp:2 ^ k<=2 ^ 16:=Nat.pow_le_pow_right (by omega) hk
 rw [u16_and_nat _ _ (by omega) (by omega),Nat.and_two_pow_sub_one_eq_mod]
 simp
/-! ### moved bit by bit -/
def upTo (a:Int):Nat->Int
 | 0=>a
 | k+1=>(upTo a k*2)%65536
/-! ### a word gathered bit by bit -/
def bitAt (a:Int) (k:Nat):Int:=bits .and .u16 (a/2 ^ k) 1
def gather (f:Int->Int->Bool) (a b:Int):Nat->Int
 | 0=>0
 | k+1=>if f (bitAt a k) (bitAt b k) then gather f a b k+2 ^ k else gather f a b k
theorem bitAt_of (a:Int) (k:Nat) (ha:0<=a) (ha':a<=65535):bitAt a k=if a.toNat.testBit k then 1 else 0:=by
 obtain ⟨A,rfl⟩:=Int.eq_ofNat_of_zero_le ha
 unfold bitAt
 have h0:(A:Int)/2 ^ k=((A/2 ^ k:Nat):Int):=by simp
 have h1:A/2 ^ k<=A:=Nat.div_le_self _ _
 rw [h0,show (1:Int)=((1:Nat):Int) from rfl,u16_and_nat _ _ (by omega) (by omega),Nat.and_one_is_mod,Int.toNat_natCast,Nat.testBit_eq_decide_div_mod_eq]
 by_cases h:A/2 ^ k%2=1
 ·simp [h]
 ·simp [h];omega
theorem gather_bd (f:Int->Int->Bool) (a b:Int) (k:Nat):0<=gather f a b k/\gather f a b k<2 ^ k:=by
 induction k with
 | zero=>simp [gather]
 | succ k ih =>
  have hp:(0:Int)<2 ^ k:=Int.pow_pos (by omega)
  simp only [gather,Int.pow_succ]
  split <;> omega
theorem gather_nat (f:Int->Int->Bool) (g:Bool->Bool->Bool) (X A B:Nat) (hA:A<65536) (hB:B<65536)
 (hf:∀ p q:Bool,f (if p then 1 else 0) (if q then 1 else 0)=g p q) (hX:∀ k,X.testBit k=g (A.testBit k) (B.testBit k)) (k:Nat) :
 gather f (A:Int) (B:Int) k=((X%2 ^ k:Nat):Int):=by
 induction k with
 | zero=>simp [gather]
 | succ k ih =>
  simp only [gather]
  rw [bitAt_of _ k (by omega) (by omega),bitAt_of _ k (by omega) (by omega),Int.toNat_natCast,Int.toNat_natCast,hf,<- hX,Nat.mod_pow_succ,ih,Nat.testBit_eq_decide_div_mod_eq]
  by_cases h:X/2 ^ k%2=1
  ·simp [h]
  ·simp [show X/2 ^ k%2=0 from by omega]
def fAnd (x y:Int):Bool:=IntKind.u16.wrap (x+y) == 2
def fOr (x y:Int):Bool:=decide (0<IntKind.u16.wrap (x+y))
def fXor (x y:Int):Bool:=x != y
theorem gather_and (a b:Int) (ha:0<=a) (ha':a<=65535) (hb:0<=b) (hb':b<=65535):gather fAnd a b 16=bits .and .u16 a b:=by
 obtain ⟨A,rfl⟩:=Int.eq_ofNat_of_zero_le ha
 obtain ⟨B,rfl⟩:=Int.eq_ofNat_of_zero_le hb
 rw [gather_nat fAnd and (A &&& B) A B (by omega) (by omega) (by decide) (λk=>Nat.testBit_and A B k),u16_and_nat _ _ (by omega) (by omega)]
 have:A &&& B<2 ^ 16:=Nat.and_lt_two_pow _ (by omega)
 rw [Nat.mod_eq_of_lt this]
theorem gather_or (a b:Int) (ha:0<=a) (ha':a<=65535) (hb:0<=b) (hb':b<=65535):gather fOr a b 16=bits .or .u16 a b:=by
 obtain ⟨A,rfl⟩:=Int.eq_ofNat_of_zero_le ha
 obtain ⟨B,rfl⟩:=Int.eq_ofNat_of_zero_le hb
 rw [gather_nat fOr or (A ||| B) A B (by omega) (by omega) (by decide) (λk=>Nat.testBit_or A B k),u16_or_nat _ _ (by omega) (by omega)]
 have:A ||| B<2 ^ 16:=Nat.or_lt_two_pow (by omega) (by omega)
 rw [Nat.mod_eq_of_lt this]
theorem gather_xor (a b:Int) (ha:0<=a) (ha':a<=65535) (hb:0<=b) (hb':b<=65535):gather fXor a b 16=bits .xor .u16 a b:=by
 obtain ⟨A,rfl⟩:=Int.eq_ofNat_of_zero_le ha
 obtain ⟨B,rfl⟩:=Int.eq_ofNat_of_zero_le hb
 rw [gather_nat fXor (λp q=>p ^^ q) (A ^^^ B) A B (by omega) (by omega) (by decide) (λk=>Nat.testBit_xor A B k),u16_xor_nat _ _ (by omega) (by omega)]
 have:A ^^^ B<2 ^ 16:=Nat.xor_lt_two_pow (by omega) (by omega)
 rw [Nat.mod_eq_of_lt this]
theorem top_of (n:Int) (h:0<=n) (h':n<=65535):(bits .and .u16 n 32768 != 0)=decide (32768<=n):=by
 obtain ⟨X,rfl⟩:=Int.eq_ofNat_of_zero_le h
 rw [show (32768:Int)=((32768:Nat):Int) from rfl,u16_and_nat _ _ (by omega) (by omega),and_top,top X (by omega)]
 rw [decide_eq_decide];omega
theorem and_bd (a b:Int) (ha:0<=a) (ha':a<=65535) (hb:0<=b) (hb':b<=65535):0<=bits .and .u16 a b/\bits .and .u16 a b<=65535:=by
 rw [<- gather_and a b ha ha' hb hb'];have:=gather_bd fAnd a b 16;omega
theorem or_bd (a b:Int) (ha:0<=a) (ha':a<=65535) (hb:0<=b) (hb':b<=65535):0<=bits .or .u16 a b/\bits .or .u16 a b<=65535:=by
 rw [<- gather_or a b ha ha' hb hb'];have:=gather_bd fOr a b 16;omega
theorem xor_bd (a b:Int) (ha:0<=a) (ha':a<=65535) (hb:0<=b) (hb':b<=65535):0<=bits .xor .u16 a b/\bits .xor .u16 a b<=65535:=by
 rw [<- gather_xor a b ha ha' hb hb'];have:=gather_bd fXor a b 16;omega
end Go.Proofs.YtbennamieealbaaGreatDoor.M
namespace Go.Proofs.YtbennamieealbaaGreatDoor.O
def hasC (k:Nat) (c:UInt8):Bool:=(K.row k).2.1.contains c
def isOp (op:Int):Bool:=decide (0<=op) && decide (op<=31) && (op != 30)
def first (op d s n:Int):Int:=op*2048+d*256+s*32+(n+32)%32
def rOp (a:Int):Int:=if a/2048=30 then 31 else a/2048
def rk (a:Int):Nat:=(rOp a).toNat
def rD (a:Int):Int:=if hasC (rk a) 100 then a/256%8 else 0
def rS (a:Int):Int:=if hasC (rk a) 115 then a/32%8 else 0
def nOf (k:Nat) (a:Int):Int:=if k=12 \/ k=13 then a%16 else if 16<=a%32 then a%32-32 else a%32
def rN (a:Int):Int:=if hasC (rk a) 110 then nOf (rk a) a else 0
def rW (a b:Int):Int:=if hasC (rk a) 119 then b else 0
def rLen (a:Int):Int:=if hasC (rk a) 119 then 2 else 1
def mask (k:Nat):Int:=(if hasC k 100 then 1 else 0)+(if hasC k 115 then 2 else 0)+(if hasC k 110 then (if k=12 \/ k=13 then 16 else 4) else 0)+(if hasC k 119 then 8 else 0)
theorem mask_cases:∀ k,k<32->mask k∈([0,1,2,3,5,7,8,9,17]:List Int):=by decide +kernel
def nameS (k:Nat):ByteArray:=if k=30 then ⟨#[]⟩ else K.name k
theorem nameS_empty:∀ k,k<32->(nameS k).toList.isEmpty=(k == 30):=by decide +kernel
theorem mask_or (k:Nat) (hk:k<32):mask k=0 \/ mask k=1 \/ mask k=2 \/ mask k=3 \/ mask k=5 \/ mask k=7 \/ mask k=8 \/ mask k=9 \/ mask k=17:=by simpa using mask_cases k hk
theorem isOp_iff (op:Int):isOp op=true ↔ 0<=op/\op<=31/\op≠30:=by
 unfold isOp
 simp only [Bool.and_eq_true,decide_eq_true_eq,bne_iff_ne,ne_eq,and_assoc]
/-! ### the first word, laid in bit by bit -/
theorem low_5 (a:Int):M.low a 5=if 16<=a%32 then a%32-32 else a%32:=by
 unfold M.low
 simp only [show (5:Int).toNat=5 from rfl,Int.reducePow]
 split <;> split <;> omega
/-! ### what was written is read -/
end Go.Proofs.YtbennamieealbaaGreatDoor.O
namespace Go.Proofs.YtbennamieealbaaGreatDoor
open Go.ChangeShapes Go.WideShapes Go.ChangeAt Go.RowKit
def shapesAt (w:World):Prop:=∀ k,k<32->w.cell? ⟨2,k*3,none⟩=some (.string (O.nameS k))/\w.cell? ⟨2,k*3+1,none⟩=some (.int .i64 (K.cyc k))/\w.cell? ⟨2,k*3+2,none⟩=some (.int .i64 (O.mask k))
theorem shapesAt.lt {w:World} (h:shapesAt w):2<w.heap.size:=World.block_lt_of_cell? w _ (h 0 (by omega)).1
theorem shapesAt.kept {w w':World} (h:shapesAt w) (hb:Below w.heap.size w w'):shapesAt w':=λk hk=>by
 have hl:=h.lt
 obtain ⟨h1,h2,h3⟩:=h k hk
 exact ⟨(hb.cell hl).trans h1,(hb.cell hl).trans h2,(hb.cell hl).trans h3⟩
structure Facts (w : World) : Prop where
 tab:Lib.TabIs Tryz.prog w "strings.asciiSpace" .u8 Lib.asciiSpaceTab
 len:∃ m,w.cell? ⟨0,0,none⟩=some (.int .i64 m)
 shapes:shapesAt w
theorem zmK:Tryz.prog.globalNamed "strings.asciiSpace" = some 1:=by kernel_rfl
theorem Facts.kept {w w':World} (h:Facts w) (hb:Below w.heap.size w w'):Facts w':=by
 obtain ⟨t,⟨m,hm⟩,s⟩:=h
 exact ⟨Joins.tab_stays zmK t hb (Nat.le_refl _),⟨m,(hb.cell (World.block_lt_of_cell? w _ hm)).trans hm⟩,s.kept hb⟩
/-! ### arguments: each reads behind the call as it did -/
theorem zcc {H:Type} {enc:TypeId × Value->H} {P:Program} (hl:laidOutB P=true) {W W':World} (hb:Below W.heap.size W W') :
 ∀ {ts:List TypeId} {vs:List Value} {ds:List (DataW H)} {ps:List MemPlace},(∀ t∈ts,P.readableRec t=true/\t<P.types.size)->DataW.TrodAll enc P W 0 (λ_=>true) true ts vs ds ps->(∀ x∈ps,x.block<W.heap.size) ->
  DataW.TrodAll enc P W' 0 (λb=>decide (b<W.heap.size)) true ts vs ds ps
 | [],vs,ds,ps,_,h,_=>by
  obtain ⟨rfl,rfl,rfl⟩:=trodAll_nil h
  exact trodAll_mk0
 | t::ts,vs,ds,ps,hr,h,hlt=>by
  obtain ⟨v,vs',d,ds',p,q,rfl,rfl,rfl,hd,hrest⟩:=trodAll_cons h
  exact ⟨p,q,Below.trod hl (hr t (by simp)).1 (hr t (by simp)).2 hd hb (λx hx=>hlt x (by simp [hx])),zcc hl hb (λt' ht'=>hr t' (by simp [ht'])) hrest (λx hx=>hlt x (by simp [hx])),rfl⟩
theorem zcC {H:Type} {enc:TypeId × Value->H} {P:Program} (hl:laidOutB P=true) {W W':World} (hb:Below W.heap.size W W') {ts:List TypeId} {vs:List Value} {ds:List (DataW H)} {ps:List MemPlace}
 (hr:ts.all (λt=>P.readableRec t && decide (t<P.types.size))=true) (h:DataW.TrodAll enc P W 0 (λ_=>true) true ts vs ds ps) (hlt:∀ x∈ps,x.block<W.heap.size) :
 DataW.TrodAll enc P W' 0 (λb=>decide (b<W.heap.size)) true ts vs ds ps :=
 zcc hl hb (λt ht=>by have:=List.all_eq_true.1 hr t ht;simpa using this) h hlt
theorem zdM {W:World} {l:List (String × DataW Unit)} (h:laidMet Tryz.prog l W) (hm:("marquee/order.shapes",Rows.laid_marquee_order_shapes)∈l):shapesAt W:=by
 obtain ⟨g,t,cs,fuel,p,hg,ht,hv,hd⟩:=Lib.laidMet.reads h hm
 have e1:Tryz.prog.globalNamed "marquee/order.shapes" = some 2:=by kernel_rfl
 have e2:(Tryz.prog.globals[2]?).map (·.type)=some 331:=by kernel_rfl
 obtain rfl:=Option.some.inj (e1.symm.trans hg)
 obtain rfl:=Option.some.inj (e2.symm.trans ht)
 have e3:(Rows.laid_marquee_order_shapes:DataW Unit) = .agg ((List.range 32).map λk=>.agg [.lit (.string (O.nameS k).data.toList),.lit (.int .i64 (K.cyc k)),.lit (.int .i64 (O.mask k))]):=by kernel_rfl
 rw [e3] at hd
 intro k hk
 obtain ⟨fuel',d,q,hdi,he⟩:=Lib.array_elem Tryz.underlying331 hd k hk
 simp only [List.getElem?_map,List.getElem?_range hk,Option.map_some,Option.some.injEq] at hdi
 subst hdi
 have c3:Tryz.prog.cellsOf 294=3:=by kernel_rfl
 have c9:Tryz.prog.cellsOf 9=1:=by kernel_rfl
 have c1:Tryz.prog.cellsOf 3=1:=by kernel_rfl
 rw [c3] at he
 obtain ⟨y0,y1,y2,n,hx,_,h0,h1,h2⟩:=Deep.trod_struct3 Tryz.underlying294 he
 simp only [Prod.mk.injEq,DataW.agg.injEq,List.cons.injEq,and_true] at hx
 obtain ⟨⟨x0,x1,x2⟩,_⟩:=hx
 dsimp only at h0 h1 h2
 rw [c9] at h0
 rw [c1] at h1 h2
 obtain ⟨s,s0,s1,_⟩:=DataW.trod_string Tryz.underlying9 h0
 obtain ⟨a,a0,a1,_⟩:=DataW.trod_int Tryz.underlying3 h1
 obtain ⟨b,b0,b1,_⟩:=DataW.trod_int Tryz.underlying3 h2
 rw [s1] at x0;rw [a1] at x1;rw [b1] at x2
 simp only [DataW.lit.injEq,Lit.string.injEq,Lit.int.injEq,true_and] at x0 x1 x2
 have es:s=O.nameS k:=ByteArray.ext (Array.toList_inj.1 x0.symm)
 subst es;subst x1;subst x2
 have f0:=congrArg (·[0]?) s0
 have f1:=congrArg (·[0]?) a0
 have f2:=congrArg (·[0]?) b0
 simp [List.getElem?_drop] at f0 f1 f2
 refine ⟨?_,?_,?_⟩
 ·rw [World.var?_cell hg hv (k*3),f0]
 ·rw [World.var?_cell hg hv (k*3+1),f1]
 ·rw [World.var?_cell hg hv (k*3+2),f2]
def SaveGoesOnWalk:Prop:=∀ (H:Type) (enc:TypeId × Value->H) (W:World) (base:Nat) (v0 v1 v2 v3:Value) (d0 d1 d2 d3:DataW H) (p0 p1 p2 p3:List MemPlace),shapesAt W ->
 Value.okWide Tryz.prog W .any base (Tryz.f5.params.getD 0 0) v0->DataW.Trod enc Tryz.prog W 0 (λ_=>true) true (Tryz.f5.params.getD 0 0) v0 d0 p0->Value.okWide Tryz.prog W .any base (Tryz.f5.params.getD 1 0) v1->DataW.Trod enc Tryz.prog W 0 (λ_=>true) true (Tryz.f5.params.getD 1 0) v1 d1 p1->Value.okWide Tryz.prog W .any base (Tryz.f5.params.getD 2 0) v2->DataW.Trod enc Tryz.prog W 0 (λ_=>true) true (Tryz.f5.params.getD 2 0) v2 d2 p2->Value.okWide Tryz.prog W .any base (Tryz.f5.params.getD 3 0) v3->DataW.Trod enc Tryz.prog W 0 (λ_=>true) true (Tryz.f5.params.getD 3 0) v3 d3 p3 ->
 Calls Tryz.prog 5 #[v0,v1,v2,v3] W λe w'=>e = .returned (.bool true)/\Below W.heap.size W w'
theorem zcD (walk:SaveGoesOnWalk) (os:Os) (started:os.Started) (H:Type) (enc:TypeId × Value->H) :
 ReturnsInHanded {} Tryz.checked os 5 .any (λw args=>(Rows.saveGoesOnSpec.pre enc Tryz.prog Tryz.f5 [] false w args/\laidMetH Tryz.prog Rows.saveGoesOnRow.laid w)/\sizedMet enc Tryz.prog Tryz.f5 (OpenSpec.ofChange Rows.saveGoesOnSpec) false w args)
  (Rows.saveGoesOnSpec.post enc Tryz.prog Tryz.f5 false true false false):=by
 refine zcb (C:=Tryz.checked) (X:=λw _=>laidMetH Tryz.prog Rows.saveGoesOnRow.laid w) (λ_ _ _ hh h=>h.of_heap hh) own started (by kernel_rfl) Tryz.func5
  (ChangeSpec.witness_shaped (enc:=enc) (C:=Tryz.checked) (os:=os) (X:=λw _=>laidMetH Tryz.prog Rows.saveGoesOnRow.laid w) false (World.laidAll Tryz.prog os Rows.saveGoesOnRow.laid) #[.agg #[.int .u16 0,.int .u16 0,.int .u16 0,.int .u16 0,.int .u16 0,.int .u16 0,.int .u16 0,.int .u16 0,.int .u16 0,.bool false,.bool false,.bool false,.bool false,.bool false,.bool false,.int .u16 0,.int .u16 0,.int .u16 0,.int .u16 0,.int .u16 0,.int .u16 0,.int .u16 0,.int .u16 0,.int .u16 0,.bool false,.bool false,.bool false,.bool false,.bool false,.bool false,.slice none 0 0,.slice none 0 0,.slice none 0 0,.slice none 0 0,.slice none 0 0,.int .u8 0,.bool false,.int .u8 0,.int .u8 0,.bool false,.int .u8 0,.int .u16 0,.int .u16 0,.bool false,.bool false,.int .u16 0,.int .u16 0,.int .u8 0,.bool false,.int .u16 0,.int .u16 0,.int .u16 0,.int .u8 0,.bool false,.int .u16 0,.int .u16 0,.int .u16 0,.int .u8 0,.bool false,.int .u16 0,.int .i64 0,.int .i64 0,.int .i64 0,.bool false,.int .i64 0,.int .u16 0,.int .u16 0,.bool false,.bool false,.int .u8 0,.int .u8 0,.bool false,.int .i64 0,.int .i64 0,.int .i64 0],.slice none 0 0,.int .i64 0,.int .i64 0] 8 (World.laidAll_os _ _ _)
    (World.shaped_of_ZipB (by kernel_rfl) (by kernel_rfl)) (by kernel_rfl) (by kernel_rfl) (by kernel_rfl)
    (by rw [MakeChecks.laidMetH_plain _ _ _ (by kernel_rfl)];exact laidMet_laidAll _ (by kernel_rfl) (by kernel_rfl))) ?_
 intro W base args ds gs before hval0 hW _ hwt hL hsh _
 have hval:∀ (j:Nat) t v,Tryz.f5.params[j]? = some t->args[j]? = some v->Value.okWide Tryz.prog W .any base t v:=hval0
 have hW':=hW
 obtain ⟨p,q,hA0,hV,rfl,_,_⟩:=hW
 have hA:DataW.TrodAll enc Tryz.prog W 0 (λ_=>true) true Tryz.f5.params.toList args.toList ds p:=hA0
 have hA1:=hA
 rw [Tryz.params5] at hA hval
 obtain ⟨v0,vs0,d0,ds0,p0,q0,hargs,rfl,rfl,h0,r0⟩:=trodAll_cons hA
 obtain ⟨v1,vs1,d1,ds1,p1,q1,rfl,rfl,rfl,h1,r1⟩:=trodAll_cons r0
 obtain ⟨v2,vs2,d2,ds2,p2,q2,rfl,rfl,rfl,h2,r2⟩:=trodAll_cons r1
 obtain ⟨v3,vs3,d3,ds3,p3,q3,rfl,rfl,rfl,h3,r3⟩:=trodAll_cons r2
 obtain ⟨rfl,rfl,rfl⟩:=trodAll_nil r3
 obtain rfl:args=#[v0,v1,v2,v3]:=by cases args;simp_all
 obtain ⟨rfl,rfl⟩:=trodVars_none hV
 rw [MakeChecks.laidMetH_plain _ _ _ (by kernel_rfl)] at hL
 have hlt:=λx hx=>hW'.lt x (List.mem_append_left _ hx)
 refine (walk H enc W base v0 v1 v2 v3 d0 d1 d2 d3 _ _ _ _ (zdM hL (by simp [Rows.saveGoesOnRow])) (hval 0 _ v0 rfl rfl) h0 (hval 1 _ v1 rfl rfl) h1 (hval 2 _ v2 rfl rfl) h2 (hval 3 _ v3 rfl rfl) h3).mono λe W' ⟨he,hb⟩=>?_
 subst he
 exact ⟨_,rfl,_,_,_,[],_,[],hW',trodAll_mk1 (shut_bool Tryz.underlying4 _),zcC (by kernel_rfl) hb (by kernel_rfl) hA1 hlt,rfl,hb.frame _,λh=>by cases h⟩
theorem and_t {a b:Bool} (ha:a=true) (hb:b=true):(a && b)=true:=by rw [ha,hb];rfl
theorem zeG:(Rows.saveGoesOnRow.wf (OpenSpec.ofChange Rows.saveGoesOnSpec))=true:=by kernel_rfl
theorem zeH:(laidOutB Tryz.prog)=true:=by kernel_rfl
theorem zeI:(mapsRowed Tryz.prog)=true:=by kernel_rfl
theorem zeJ:(Tryz.f5.params.all (Tryz.prog.readableRec ·))=true:=by kernel_rfl
theorem zeK:(namedTie Tryz.prog Rows.saveGoesOnRow.named Rows.saveGoesOnSpec.vars)=true:=by kernel_rfl
theorem zeL:((Rows.saveGoesOnRow.stops == []))=true:=by kernel_rfl
theorem zeM:((Tryz.prog.stops == []))=true:=by kernel_rfl
theorem zeN:((Rows.saveGoesOnRow.knobs == []))=true:=by kernel_rfl
theorem zeO:((Tryz.prog.stopKnobs == []))=true:=by kernel_rfl
theorem zeP:((Rows.saveGoesOnRow.inPlace == Tryz.prog.inPlace 5))=true:=by kernel_rfl
theorem zdN:((Rows.saveGoesOnRow.unfollowed == Tryz.prog.unfollowed 5))=true:=by kernel_rfl
theorem zdO:((Rows.saveGoesOnRow.recurses == Tryz.prog.recurses 5))=true:=by kernel_rfl
theorem zdP:((Rows.saveGoesOnRow.named == Tryz.prog.varsNamed 5))=true:=by kernel_rfl
theorem zdQ:((Rows.saveGoesOnRow.maps == (Tryz.f5.params.toList++Rows.saveGoesOnSpec.plain.varTypes Tryz.prog).any (Tryz.prog.mapsRec ·)))=true:=by kernel_rfl
theorem zdR:((Rows.saveGoesOnRow.ifaces == (Tryz.f5.params.toList++Rows.saveGoesOnSpec.plain.varTypes Tryz.prog).any (Tryz.prog.ifacesRec ·)))=true:=by kernel_rfl
theorem zdS:((Rows.saveGoesOnRow.mapsOut == Tryz.prog.mapsAmong Tryz.f5.resultTypes.toList))=true:=by kernel_rfl
theorem zdT:((Rows.saveGoesOnRow.loops == (Tryz.f5.params.toList++Rows.saveGoesOnSpec.plain.varTypes Tryz.prog).any (Tryz.prog.loopsFrom ·)))=true:=by kernel_rfl
theorem zdU:((Rows.saveGoesOnRow.wideKeys == (Tryz.f5.params.toList++Rows.saveGoesOnSpec.plain.varTypes Tryz.prog++Tryz.f5.resultTypes.toList).any (Tryz.prog.wideKeysFrom ·)))=true:=by kernel_rfl
theorem zdV:(Rows.saveGoesOnSpec.vars.all (Tryz.prog.varReadable ·))=true:=by kernel_rfl
theorem zdW:(Tryz.f5.resultTypes.all (λt=>Tryz.prog.readableRec t && decide (t<Tryz.prog.types.size)))=true:=by kernel_rfl
theorem zdX:((Rows.saveGoesOnRow.ifacesOut == Tryz.f5.resultTypes.toList.any (Tryz.prog.ifacesRec ·)))=true:=by kernel_rfl
theorem zdY:((Rows.saveGoesOnRow.loopsOut == Tryz.f5.resultTypes.toList.any (Tryz.prog.loopsFrom ·)))=true:=by kernel_rfl
theorem zdZ:((Rows.saveGoesOnRow.plainKeys == Tryz.prog.plainKeys))=true:=by kernel_rfl
theorem zd0:(Rows.saveGoesOnRow.shortTexts.isNone)=true:=by kernel_rfl
theorem zd1:(Tryz.prog.stopsHeard)=true:=by kernel_rfl
theorem zd2:(Tryz.prog.mayEnter)=true:=by kernel_rfl
theorem zd3:((Rows.saveGoesOnRow.lifted == Tryz.prog.liftsFinal))=true:=by kernel_rfl
theorem zd4:((Tryz.prog.make == some Rows.saveGoesOnRow.make))=true:=by kernel_rfl
theorem zd5:((Rows.saveGoesOnRow.kinds == (if Rows.saveGoesOnRow.domain.isEmpty then [] else Tryz.f5.params.toList.map λt=>match Tryz.prog.underlying t with|some (.int k)=>some k|_=>none)))=true:=by kernel_rfl
theorem zd6:((Rows.saveGoesOnRow.pinned == Rows.saveGoesOnRow.pinnedBy))=true:=by kernel_rfl
theorem zd7:((Rows.saveGoesOnRow.veiled == (Tryz.f5.params.toList++Rows.saveGoesOnSpec.plain.varTypes Tryz.prog++Tryz.f5.resultTypes.toList).any (Tryz.prog.veiledRec ·)))=true:=by kernel_rfl
theorem zd8:(Rows.saveGoesOnRow.veiledFits Tryz.prog Tryz.f5.params.toList (Tryz.f5.params.toList++Rows.saveGoesOnSpec.plain.varTypes Tryz.prog++Tryz.f5.resultTypes.toList))=true:=by kernel_rfl
theorem zc1:joinedFacts Tryz.prog 5 Tryz.f5 Rows.saveGoesOnSpec Rows.saveGoesOnRow=true:=and_t (and_t (and_t (and_t (and_t (and_t (and_t (and_t (and_t (and_t (and_t (and_t (and_t (and_t (and_t (and_t (and_t (and_t (and_t (and_t (and_t (and_t (and_t (and_t (and_t (and_t (and_t (and_t (and_t (and_t (and_t (zeG) zeH) zeI) zeJ) zeK) zeL) zeM) zeN) zeO) zeP) zdN) zdO) zdP) zdQ) zdR) zdS) zdT) zdU) zdV) zdW) zdX) zdY) zdZ) zd0) zd1) zd2) zd3) zd4) zd5) zd6) zd7) zd8
theorem zd9 (walk:SaveGoesOnWalk):Rows.SaveGoesOnSaid :=
 OpenClaim.holds_of_wide 5 Tryz.f5 rfl rfl rfl rfl rfl rfl rfl ⟨rfl,rfl,rfl,rfl,rfl⟩ rfl rfl rfl rfl rfl (by kernel_rfl) Tryz.func5 zc1
  (of_decide_eq_true (by kernel_rfl)) (by unfold Func.isWrapper;first|(rw [if_pos (by decide +kernel)];kernel_rfl)|(rw [if_neg (by decide +kernel)];exact ⟨rfl,rfl⟩))
  (λos started H enc _=>zcD walk os started H enc)
theorem zeQ:Rows.saveGoesOnRow.wfByText (OpenSpec.ofChange Rows.saveGoesOnSpec)=true:=by kernel_rfl
theorem zeR:Tryz.pinned.checked.prog.mainIs=some (Rows.saveGoesOnCard.stood.harness.1,Rows.saveGoesOnCard.stood.harness.2.toList):=by kernel_rfl
theorem zeS:(!Rows.saveGoesOnCard.stood.harness.1 && Rows.saveGoesOnCard.stood.harness.2.isEmpty && !Rows.saveGoesOnCard.stood.looks)=false:=by kernel_rfl
theorem zeT:Tryz.pinned.checked.prog.funcNamed Rows.saveGoesOnRow.func=some 5:=by kernel_rfl
theorem zeU:Rows.saveGoesOnCard.stood.looks=Tryz.pinned.checked.prog.looks []:=by kernel_rfl
theorem zeV:(Tryz.f5.params.toList.all λt=>!(Tryz.pinned.checked.prog.wantsStandIn t))=true:=by kernel_rfl
theorem zeW:false=Rows.saveGoesOnRow.goesBy Tryz.pinned.checked.prog:=by kernel_rfl
theorem zc7 (walk:SaveGoesOnWalk):Rows.SaveGoesOnCardSaid :=
 Claim7.holds_tied_plain_at .later [] Rows.saveGoesOnCard.laidKinds true Rows.saveGoesOnCard.stood.harness Rows.saveGoesOnCard.stood.looks (zd9 walk) (λ_ h=>by cases h) zeQ (λ_ h=>by cases h) saveGoesOn_row_tie rfl ⟨rfl,rfl⟩ zeR zeS
  (λf fn hf hfn=>by
    obtain rfl:5=f:=Option.some.inj (zeT.symm.trans hf)
    obtain rfl:Tryz.f5=fn:=Option.some.inj (Tryz.func5.symm.trans hfn)
    exact ⟨zeU,λj t ht=>by
     have hm:t∈Tryz.f5.params.toList:=List.mem_of_getElem? (i:=j) (by rw [Array.getElem?_toList];exact ht)
     have:=List.all_eq_true.1 zeV t hm
     exact Bool.not_eq_true' _ ▸ this⟩)
  zeW
end Go.Proofs.YtbennamieealbaaGreatDoor
