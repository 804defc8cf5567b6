/-
  Parts of a proof, joined.
-/
import Derived.Test.YthghjlinhokimaaGreatDoorZcA
set_option linter.all false
set_option maxRecDepth 100000
namespace Go.Proofs.YthghjlinhokimaaGreatDoor.M
def sg(a:Int):Int:=if 32768<=a then a-65536 else a
def addN(a b:Int):Int:=(a+b)%65536
def addC(a b:Int):Bool:=decide (65535<a+b)
def addV(a b:Int):Bool:=decide (32767<sg a+sg b \/ sg a+sg b < -32768)
def subN(a b:Int):Int:=(a-b)%65536
def subC(a b:Int):Bool:=decide (a<b)
def subV(a b:Int):Bool:=decide (32767<sg a-sg b \/ sg a-sg b < -32768)
def mulN(a b:Int):Int:=(a*b)%65536
def mulC(a b:Int):Bool:=decide (65535<a*b)
def shlN(a n:Int):Int:=(a*2 ^ n.toNat)%65536
def shlC(a n:Int):Bool:=decide (1<=n/\a/2 ^ (16-n).toNat%2=1)
def shrN(a n:Int):Int:=a/2 ^ n.toNat
def shrC(a n:Int):Bool:=decide (1<=n/\a/2 ^ (n-1).toNat%2=1)
def hasB(a n:Int):Bool:=decide (a/2 ^ n.toNat%2=1)
def low(a n:Int):Int:=if (2:Int) ^ n.toNat<=2*(a%2 ^ n.toNat) then a%2 ^ n.toNat-2 ^ n.toNat else a%2 ^ n.toNat
theorem addN_bd(a b:Int):0<=addN a b/\addN a b<=65535:=by unfold addN;omega
theorem subN_bd(a b:Int):0<=subN a b/\subN a b<=65535:=by unfold subN;omega
theorem mulN_bd(a b:Int):0<=mulN a b/\mulN a b<=65535:=by unfold mulN;omega
theorem shlN_bd(a n:Int):0<=shlN a n/\shlN a n<=65535:=by unfold shlN;omega
/-! ### the highest bit -/
theorem top(x:Nat)(h:x<65536):x.testBit 15=decide (32768<=x):=by
 rw[bX];by_cases a:32768<=x
 ·rw[aL a,aL];omega
 ·rw[aF a,aF];omega
theorem and_pow(x i:Nat):x &&& 2 ^ i=if x.testBit i then 2 ^ i else 0:=by
 apply Nat.eq_of_testBit_eq;intro j;rw[jr,Nat.testBit_two_pow];by_cases h:i=j
 ·subst h;cases x.testBit i <;> simp[lP]
 ·cases x.testBit i <;> simp[h]
theorem and_top(x:Nat):(((x &&& 32768:Nat):Int) != 0)=x.testBit 15:=by
 have h:x &&& 32768=if x.testBit 15 then 2 ^ 15 else 0:=and_pow x 15
 rw[h];cases x.testBit 15 <;> decide
theorem signs(x y z t:Nat)(a:x<65536)(b:y<65536)(c:z<65536)(d:t<65536):(bits .and .u16 (bits .and .u16 (bits .xor .u16 (x:Int) (y:Int)) (bits .xor .u16 (z:Int) (t:Int))) 32768 != 0) =
  ((decide (32768<=x) != decide (32768<=y)) && (decide (32768<=z) != decide (32768<=t))):=by
 have h1:x ^^^ y<2 ^ 16:=iB (by omega) (by omega);have h2:z ^^^ t<2 ^ 16:=iB (by omega) (by omega);have h3:(x ^^^ y) &&& (z ^^^ t)<2 ^ 16:=kn _ h2;rw[jT x y a b,jT z t c d,fg _ _ (by omega) (by omega)];rw[show (32768:Int)=((32768:Nat):Int) from U,fg _ _ (by omega) (by omega),and_top];rw[jr,gV,gV,top x a,top y b,top z c,top t d]
theorem over_add(a b:Int)(c:0<=a)(d:a<=65535)(hb:0<=b)(f:b<=65535):(bits .and .u16 (bits .and .u16 (bits .xor .u16 a (IntKind.u16.wrap (a+b))) (bits .xor .u16 b (IntKind.u16.wrap (a+b)))) 32768 != 0)=addV a b:=by
 obtain⟨ai,rfl⟩:=aB c;obtain⟨B,rfl⟩:=aB hb;have e:IntKind.u16.wrap ((ai:Int)+(B:Int))=(((ai+B)%65536:Nat):Int):=by rw[bc];omega
 rw[e,signs ai _ B _ (by omega) (by omega) (by omega) (by omega)];unfold addV sg;by_cases h1:32768<=ai <;> by_cases h2:32768<=B <;> by_cases h3:32768<=(ai+B)%65536 <;> by_cases h4:(32768:Int)<=(ai:Int) <;> by_cases g:(32768:Int)<=(B:Int) <;>
  first
   | (exfalso;omega)
   | (simp[h1,h2,h3,h4,g];omega)
theorem over_sub(a b:Int)(c:0<=a)(d:a<=65535)(hb:0<=b)(f:b<=65535):(bits .and .u16 (bits .and .u16 (bits .xor .u16 a b) (bits .xor .u16 a (IntKind.u16.wrap (a-b)))) 32768 != 0)=subV a b:=by
 obtain⟨ai,rfl⟩:=aB c;obtain⟨B,rfl⟩:=aB hb;have e:IntKind.u16.wrap ((ai:Int)-(B:Int))=(((ai+65536-B)%65536:Nat):Int):=by rw[bc];omega
 rw[e,signs ai B ai _ (by omega) (by omega) (by omega) (by omega)];unfold subV sg;by_cases h1:32768<=ai <;> by_cases h2:32768<=B <;> by_cases h3:32768<=(ai+65536-B)%65536 <;> by_cases h4:(32768:Int)<=(ai:Int) <;> by_cases g:(32768:Int)<=(B:Int) <;>
  first
   | (exfalso;omega)
   | (simp[h1,h2,h3,h4,g];omega)
theorem carry_add(a b:Int)(e:0<=a)(c:a<=65535)(hb:0<=b)(d:b<=65535):decide (IntKind.u16.wrap (a+b)<a)=addC a b:=by
 unfold addC;rw[bc,cC];omega
/-! ### products -/
theorem mul_bd(a b:Int)(e:0<=a)(c:a<=65535)(hb:0<=b)(d:b<=65535):0<=a*b/\a*b<=4294836225:=by
 have h1:0<=a*b:=Int.mul_nonneg e hb;have h2:a*b<=65535*65535:=Int.mul_le_mul c d hb (by omega);omega
theorem mul_high(p:Int)(h:0<=p):(p/65536 != 0)=decide (65535<p):=by
 by_cases c:65535<p
 ·rw[aL c,jh];omega
 ·rw[aF c];simp;omega
/-! ### bits and bytes -/
theorem bit_of(x:Int)(h:0<=x)(a:x<=65535):(bits .and .u16 x 1 == 1)=decide (x%2=1):=by
 obtain⟨X,rfl⟩:=aB h;rw[show (1:Int)=((1:Nat):Int) from U,fg _ _ (by omega) (by omega),ko];by_cases c:(X:Int)%2=1
 ·rw[aL (by omega),iz];omega
 ·rw[aF (by omega),fA];omega
theorem joined(a b:Int)(c:0<=a)(d:a<=255)(hb:0<=b)(e:b<=255):bits .or .u16 (a*256) b=a*256+b:=by
 obtain⟨ai,rfl⟩:=aB c;obtain⟨B,rfl⟩:=aB hb;rw[show (ai:Int)*256=((ai*256:Nat):Int) from by omega,lB _ _ (by omega) (by omega)];have h:ai*256 ||| B=ai*256+B:=by
  have:=im (i:=8) (b:=B) (by omega) ai;rw[show ai*256=2 ^ 8*ai from by omega];exact this.symm
 rw[h];omega
theorem has_of(a n:Int)(b:0<=a)(c:a<=65535):(bits .and .u16 (a/2 ^ n.toNat) 1 == 1)=hasB a n:=by
 have hp:(0:Int)<2 ^ n.toNat:=iM (by omega);have d:0<=a/2 ^ n.toNat:=fH b (by omega);have h1:a/2 ^ n.toNat<=a:=gF _ b;exact bit_of _ d (by omega)
theorem wrap_i16(n:Int):IntKind.i16.wrap n=if 32768<=n%65536 then n%65536-65536 else n%65536:=by
 simp[IntKind.wrap,IntKind.bits,IntKind.signed]
theorem wrap64_small(n:Int)(h:-32768<=n)(a:n<=32767):RowKit.wrap64 n=n:=by unfold RowKit.wrap64;omega
theorem low_of(a n:Int)(c:1<=n)(b:n<=16):RowKit.wrap64 (IntKind.i16.wrap (IntKind.u16.wrap (a*2 ^ (16-n).toNat))/2 ^ (16-n).toNat)=low a n:=by
 have hc:n=1 \/ n=2 \/ n=3 \/ n=4 \/ n=5 \/ n=6 \/ n=7 \/ n=8 \/ n=9 \/ n=10 \/ n=11 \/ n=12 \/ n=13 \/ n=14 \/ n=15 \/ n=16:=by omega
 unfold low;rw[bc,wrap_i16];rcases hc with rfl|rfl|rfl|rfl|rfl|rfl|rfl|rfl|rfl|rfl|rfl|rfl|rfl|rfl|rfl|rfl <;>
  (simp only[Int.reduceSub,Int.reduceToNat,Int.reducePow]
   split <;> split <;> (rw[wrap64_small _ (by omega) (by omega)];omega))
theorem and_low(a:Int)(k:Nat)(b:k<=16)(c:0<=a)(d:a<=65535):bits .and .u16 a ((2 ^ k-1:Nat):Int)=a%2 ^ k:=by
 obtain⟨ai,rfl⟩:=aB c;have hp:2 ^ k<=2 ^ 16:=jX (by omega) b;rw[fg _ _ (by omega) (by omega),dq];simp
theorem back_of(a n:Int)(c:0<=a)(b:a<=65535)(f:0<=n)(d:n<=15):bits .and .u16 a (65535/2 ^ n.toNat)=shrN (shlN a n) n:=by
 have hc:n=0 \/ n=1 \/ n=2 \/ n=3 \/ n=4 \/ n=5 \/ n=6 \/ n=7 \/ n=8 \/ n=9 \/ n=10 \/ n=11 \/ n=12 \/ n=13 \/ n=14 \/ n=15:=by omega
 have key:=λk e=>and_low a k e c b
 unfold shrN shlN;rcases hc with rfl|rfl|rfl|rfl|rfl|rfl|rfl|rfl|rfl|rfl|rfl|rfl|rfl|rfl|rfl|rfl
 ·refine(key 16 (by omega)).trans ?_;simp
 ·refine(key 15 (by omega)).trans ?_;simp only[Int.reduceToNat,Int.reducePow];omega
 ·refine(key 14 (by omega)).trans ?_;simp only[Int.reduceToNat,Int.reducePow];omega
 ·refine(key 13 (by omega)).trans ?_;simp only[Int.reduceToNat,Int.reducePow];omega
 ·refine(key 12 (by omega)).trans ?_;simp only[Int.reduceToNat,Int.reducePow];omega
 ·refine(key 11 (by omega)).trans ?_;simp only[Int.reduceToNat,Int.reducePow];omega
 ·refine(key 10 (by omega)).trans ?_;simp only[Int.reduceToNat,Int.reducePow];omega
 ·refine(key 9 (by omega)).trans ?_;simp only[Int.reduceToNat,Int.reducePow];omega
 ·refine(key 8 (by omega)).trans ?_;simp only[Int.reduceToNat,Int.reducePow];omega
 ·refine(key 7 (by omega)).trans ?_;simp only[Int.reduceToNat,Int.reducePow];omega
 ·refine(key 6 (by omega)).trans ?_;simp only[Int.reduceToNat,Int.reducePow];omega
 ·refine(key 5 (by omega)).trans ?_;simp only[Int.reduceToNat,Int.reducePow];omega
 ·refine(key 4 (by omega)).trans ?_;simp only[Int.reduceToNat,Int.reducePow];omega
 ·refine(key 3 (by omega)).trans ?_;simp only[Int.reduceToNat,Int.reducePow];omega
 ·refine(key 2 (by omega)).trans ?_;simp only[Int.reduceToNat,Int.reducePow];omega
 ·refine(key 1 (by omega)).trans ?_;simp only[Int.reduceToNat,Int.reducePow];omega
theorem sg_bd(a:Int)(c:0<=a)(b:a<=65535):-32768<=sg a/\sg a<=32767:=by unfold sg;split <;> omega
/-! ### moved bit by bit -/
def upTo(a:Int):Nat->Int
 | 0=>a
 | k+1=>(upTo a k*2)%65536
def upOut(a:Int):Nat->Bool
 | 0=>false
 | k+1=>decide (32768<=upTo a k)
def downTo(a:Int):Nat->Int
 | 0=>a
 | k+1=>downTo a k/2
def downOut(a:Int):Nat->Bool
 | 0=>false
 | k+1=>(downTo a k%2 == 1)
theorem upTo_bd(a:Int)(c:0<=a)(b:a<=65535)(k:Nat):0<=upTo a k/\upTo a k<=65535:=by
 cases k with
 | zero=>exact⟨c,b⟩
 | succ k=>simp only[upTo];omega
theorem downTo_bd(a:Int)(c:0<=a)(b:a<=65535)(k:Nat):0<=downTo a k/\downTo a k<=65535:=by
 induction k with
 | zero=>exact⟨c,b⟩
 | succ k d=>simp only[downTo];omega
theorem upTo_eq(a:Int)(d:0<=a)(b:a<=65535)(k:Nat):upTo a k=(a*2 ^ k)%65536:=by
 induction k with
 | zero=>simp only[upTo,Int.pow_zero];omega
 | succ k c =>
  simp only[upTo,c,fi];rw[show a*(2 ^ k*2)=a*2 ^ k*2 from by rw[Int.mul_assoc]];generalize a*2 ^ k=x;omega
theorem downTo_eq(a:Int)(k:Nat):downTo a k=a/2 ^ k:=by
 induction k with
 | zero=>simp[downTo]
 | succ k b =>
  simp only[downTo,b,fi];rw[ma (mx (iM (by omega)))]
theorem up_shl(a n:Int)(c:0<=a)(b:a<=65535)(e:0<=n)(d:n<=15):upTo a n.toNat=shlN a n/\upOut a n.toNat=shlC a n:=by
 have hc:n=0 \/ n=1 \/ n=2 \/ n=3 \/ n=4 \/ n=5 \/ n=6 \/ n=7 \/ n=8 \/ n=9 \/ n=10 \/ n=11 \/ n=12 \/ n=13 \/ n=14 \/ n=15:=by omega
 refine⟨upTo_eq a c b _,?_⟩;rcases hc with rfl|rfl|rfl|rfl|rfl|rfl|rfl|rfl|rfl|rfl|rfl|rfl|rfl|rfl|rfl|rfl
 ·simp[upOut,shlC]
 all_goals
  simp only[Int.reduceSub,Int.reduceToNat,upOut,shlC,upTo_eq a c b,Int.reducePow];rw[jt,bC,bC];omega
theorem down_shr(a n:Int)(c:0<=n)(b:n<=15):downTo a n.toNat=shrN a n/\downOut a n.toNat=shrC a n:=by
 have hc:n=0 \/ n=1 \/ n=2 \/ n=3 \/ n=4 \/ n=5 \/ n=6 \/ n=7 \/ n=8 \/ n=9 \/ n=10 \/ n=11 \/ n=12 \/ n=13 \/ n=14 \/ n=15:=by omega
 refine⟨downTo_eq a _,?_⟩;rcases hc with rfl|rfl|rfl|rfl|rfl|rfl|rfl|rfl|rfl|rfl|rfl|rfl|rfl|rfl|rfl|rfl
 ·simp[downOut,shrC]
 all_goals
  simp only[Int.reduceSub,Int.reduceToNat,downOut,shrC,downTo_eq a,Int.reducePow];rw[jt,iz,bC];omega
/-! ### a word gathered bit by bit -/
def bitAt(a:Int)(k:Nat):Int:=bits .and .u16 (a/2 ^ k) 1
def gather(f:Int->Int->Bool)(a b:Int):Nat->Int
 | 0=>0
 | k+1=>if f (bitAt a k) (bitAt b k) then gather f a b k+2 ^ k else gather f a b k
theorem bitAt_of(a:Int)(k:Nat)(b:0<=a)(c:a<=65535):bitAt a k=if a.toNat.testBit k then 1 else 0:=by
 obtain⟨ai,rfl⟩:=aB b;unfold bitAt;have d:(ai:Int)/2 ^ k=((ai/2 ^ k:Nat):Int):=by simp
 have h1:ai/2 ^ k<=ai:=Nat.div_le_self _ _;rw[d,show (1:Int)=((1:Nat):Int) from U,fg _ _ (by omega) (by omega),ko,bH,bX];by_cases h:ai/2 ^ k%2=1
 ·simp[h]
 ·simp[h];omega
theorem gather_bd(f:Int->Int->Bool)(a b:Int)(k:Nat):0<=gather f a b k/\gather f a b k<2 ^ k:=by
 induction k with
 | zero=>simp[gather]
 | succ k c =>
  have hp:(0:Int)<2 ^ k:=iM (by omega);simp only[gather,fi];split <;> omega
theorem pow_le(k:Nat)(h:k<=16):(2:Int) ^ k<=65536:=by
 have h1:2 ^ k<=2 ^ 16:=jX (by omega) h;have h2:((2 ^ k:Nat):Int)=(2:Int) ^ k:=by simp
 omega
theorem gather_nat(f:Int->Int->Bool)(g:Bool->Bool->Bool)(X ai B:Nat)(d:ai<65536)(hB:B<65536)
 (a:∀ p q:Bool,f (if p then 1 else 0) (if q then 1 else 0)=g p q) (b:∀ k,X.testBit k=g (ai.testBit k) (B.testBit k)) (k:Nat) :
 gather f (ai:Int) (B:Int) k=((X%2 ^ k:Nat):Int):=by
 induction k with
 | zero=>simp[gather]
 | succ k c =>
  simp only[gather];rw[bitAt_of _ k (by omega) (by omega),bitAt_of _ k (by omega) (by omega),bH,bH,a,<- b,Nat.mod_pow_succ,c,bX];by_cases h:X/2 ^ k%2=1
  ·simp[h]
  ·simp[show X/2 ^ k%2=0 from by omega]
def fAnd(x y:Int):Bool:=IntKind.u16.wrap (x+y) == 2
def fOr(x y:Int):Bool:=decide (0<IntKind.u16.wrap (x+y))
def fXor(x y:Int):Bool:=x != y
theorem gather_and(a b:Int)(c:0<=a)(d:a<=65535)(hb:0<=b)(e:b<=65535):gather fAnd a b 16=bits .and .u16 a b:=by
 obtain⟨ai,rfl⟩:=aB c;obtain⟨B,rfl⟩:=aB hb;rw[gather_nat fAnd and (ai &&& B) ai B (by omega) (by omega) (by decide) (λk=>jr ai B k),fg _ _ (by omega) (by omega)];have:ai &&& B<2 ^ 16:=kn _ (by omega);rw[gG this]
theorem gather_or(a b:Int)(c:0<=a)(d:a<=65535)(hb:0<=b)(e:b<=65535):gather fOr a b 16=bits .or .u16 a b:=by
 obtain⟨ai,rfl⟩:=aB c;obtain⟨B,rfl⟩:=aB hb;rw[gather_nat fOr or (ai ||| B) ai B (by omega) (by omega) (by decide) (λk=>Nat.testBit_or ai B k),lB _ _ (by omega) (by omega)];have:ai ||| B<2 ^ 16:=Nat.or_lt_two_pow (by omega) (by omega);rw[gG this]
theorem gather_xor(a b:Int)(c:0<=a)(d:a<=65535)(hb:0<=b)(e:b<=65535):gather fXor a b 16=bits .xor .u16 a b:=by
 obtain⟨ai,rfl⟩:=aB c;obtain⟨B,rfl⟩:=aB hb;rw[gather_nat fXor (λp q=>p ^^ q) (ai ^^^ B) ai B (by omega) (by omega) (by decide) (λk=>gV ai B k),jT _ _ (by omega) (by omega)];have:ai ^^^ B<2 ^ 16:=iB (by omega) (by omega);rw[gG this]
theorem top_of(n:Int)(h:0<=n)(a:n<=65535):(bits .and .u16 n 32768 != 0)=decide (32768<=n):=by
 obtain⟨X,rfl⟩:=aB h;rw[show (32768:Int)=((32768:Nat):Int) from U,fg _ _ (by omega) (by omega),and_top,top X (by omega)];rw[cC];omega
theorem and_bd(a b:Int)(e:0<=a)(c:a<=65535)(hb:0<=b)(d:b<=65535):0<=bits .and .u16 a b/\bits .and .u16 a b<=65535:=by
 rw[<- gather_and a b e c hb d];have:=gather_bd fAnd a b 16;omega
theorem or_bd(a b:Int)(e:0<=a)(c:a<=65535)(hb:0<=b)(d:b<=65535):0<=bits .or .u16 a b/\bits .or .u16 a b<=65535:=by
 rw[<- gather_or a b e c hb d];have:=gather_bd fOr a b 16;omega
theorem xor_bd(a b:Int)(e:0<=a)(c:a<=65535)(hb:0<=b)(d:b<=65535):0<=bits .xor .u16 a b/\bits .xor .u16 a b<=65535:=by
 rw[<- gather_xor a b e c hb d];have:=gather_bd fXor a b 16;omega
end Go.Proofs.YthghjlinhokimaaGreatDoor.M
