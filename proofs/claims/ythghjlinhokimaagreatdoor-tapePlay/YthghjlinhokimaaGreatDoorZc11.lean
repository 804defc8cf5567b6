/-
  Parts of a proof, joined.
-/
import Derived.Test.YthghjlinhokimaaGreatDoorZcA
import Derived.Test.YthghjlinhokimaaGreatDoorZc06
import Derived.Test.YthghjlinhokimaaGreatDoorZc08
import Derived.Test.YthghjlinhokimaaGreatDoorZc07
set_option linter.all false
set_option maxRecDepth 100000
set_option maxHeartbeats 12800000
namespace Go.Proofs.YthghjlinhokimaaGreatDoor
open Go.ChangeShapes Go.WideShapes Go.ChangeAt Go.RowKit Go.Proofs.Tryz
theorem zxN(s:Sd)(k:Nat)(q b:Int)(w:World)(y:k<8/\q=8+k)(h:s.ok)(hb:0<=b/\b<=255):Calls prog 151 #[(.agg #[.int .u16 s.a.p,.int .u16 s.a.c,.int .u8 s.a.l,.bool s.a.h,.int .u16 s.a.n,.int .u16 s.b.p,.int .u16 s.b.c,.int .u8 s.b.l,.bool s.b.h,.int .u16 s.b.n,.int .u16 s.c.p,.int .u16 s.c.c,.int .u8 s.c.l,.bool s.c.h,.int .u16 s.c.n,.int .i64 s.w]),.int .i64 q,.int .u8 b] w λe w'=>e=.returned (.agg (iE ⟨s.a,s.b.put k b,s.c,s.w⟩).toArray)/\Below w.heap.size w w':=by
 have j:∀ z:Int,0<=z/\z<=65535->z.tdiv 256=z/256/\IntKind.u16.wrap (z/256)=z/256/\IntKind.u16.wrap (z/256*256)=z/256*256/\IntKind.u16.wrap (z/256*256+b)=z/256*256+b:=λz g=>by
  refine⟨aD g.1,?_,?_,?_⟩ <;> (rw[bc];omega)
 obtain⟨p1,p2,p3,I⟩:=j _ h.b.p;obtain⟨L,M,N,P⟩:=j _ h.b.n;have R:b.tmod 16=b%16:=aq hb.1;have B:IntKind.u8.wrap (b%16)=b%16:=by rw[fK];omega
 have T:∀ z:Int,z%256+b*256=b*256+z%256:=λz=>kD _ _
 have hp:=h.b.p;have V:=h.b.n;obtain⟨z,g⟩:∃ z:Sd,z=⟨s.a,s.b.put k b,s.c,s.w⟩:=⟨_,U⟩
 rw[<- g];have hc:(k=0/\q=8) \/ (k=1/\q=9) \/ (k=2/\q=10) \/ (k=3/\q=11) \/ (k=4/\q=12) \/ (k=5/\q=13) \/ (k=6/\q=14) \/ (k=7/\q=15):=by omega
 clear j y;rcases hc with⟨rfl,rfl⟩|⟨rfl,rfl⟩|⟨rfl,rfl⟩|⟨rfl,rfl⟩|⟨rfl,rfl⟩|⟨rfl,rfl⟩|⟨rfl,rfl⟩|⟨rfl,rfl⟩
 all_goals
  have E:=hid g;clear g;go_enter func151,ntmps151;go_upto_region 1 with fail
  refine Pl.cutW (SmW w s [] (.slice none 0 0)) (SmW.two w s) ?_;intro W m;have u:=hid m;obtain⟨c0,c1,c2,c3,c4,F,tf⟩:=m.b.w1;clear m;go_upto_region 15 with fail
  refine Pl.cutW (SmW w z [] (.slice none 0 0)) (by rw[E.out];exact(u.out.v1 _).over _) ?_;clear c0 c1 c2 c3 c4 F tf u;intro W x;have i:=hid x;clear x;go_wp2_with (first
   | (refine wpList_load_mid U 36 _ U w.heap.size 0 U (iE z) _ i.out.b.c underlying36 U kJ ?_)
   | (refine wpList_store_mid U 36 _ _ U (w.heap.size+1) 0 _ U U (j2 i.out.r) kJ (jP z) ?_
      refine Pl.cutL (λW=>Below w.heap.size w W/\Bx W (w.heap.size+1) (iE z)) ⟨Bl.puts i.out.low (ek _) _,i.out.r.puts 0 (iE z) (by simp)⟩ ?_;rintro W ⟨d,f⟩;have o:=hid d;have t:=hid f;clear d f))
  have H:=lx t.out;exact ao (v:=.agg (iE z).toArray) (by simp only[results,results151];simp;exact H) U ⟨U,o.out⟩
theorem pK{w w1:World}{o:Obj}(hb:Below (w.alloc o).heap.size (w.alloc o) w1):w.heap.size<w1.heap.size:=by have:=hb.size;simp at this;omega
theorem rT{w:World}(h:aZ w):w.cell? ⟨2,93,none⟩=some (.string (O.nameS 31))/\w.cell? ⟨2,94,none⟩=some (.int .i64 (K.cyc 31))/\w.cell? ⟨2,95,none⟩=some (.int .i64 0):=by
 obtain⟨a,b,c⟩:=h 31 (by omega);exact⟨a,b,c⟩
theorem zpT(a b:Int)(r:0<=a)(k:a<=65535)(hb:0<=b)(l:b<=65535)(m:a/2048=30)(w:World)(g:aZ w):Calls prog 271 #[.int .u16 a,.int .u16 b] w λe w'=>e=.returned (.tuple #[.agg #[.int .i64 31,.int .i64 0,.int .i64 0,.int .i64 0,.int .i64 0],.int .i64 1])/\Below w.heap.size w w':=by
 have n:Hid (∀ w:World,Calls prog 288 #[.agg #[.string (O.nameS 31),.int .i64 (K.cyc 31),.int .i64 0]] w λe w'=>e=.returned (.int .i64 1)/\Below w.heap.size w w'):=λw=>nP (.string (O.nameS 31)) (.int .i64 (K.cyc 31)) 31 (by omega) w
 have j:=hid g;have o:2<w.heap.size:=g.lt;clear g;go_enter func271,ntmps271;go_wp2_with (first
  | (go_at_call 256;refine(zhL 30 (by decide) _ (lq j.out _)).mono ?_;rintro e w1 ⟨rfl,c⟩;obtain⟨c0,c1,c2⟩:=rT ((lq j.out _).kept c);have f:=pK c;have h:2<w1.heap.size:=jm o f;have p:0<w1.heap.size:=eB (aU _) h))
 go_region_held3 (λw'=>w'.cell? ⟨w1.heap.size,0,none⟩=some (.string (O.nameS 31))/\w'.cell? ⟨w1.heap.size,1,none⟩=some (.int .i64 (K.cyc 31))/\w'.cell? ⟨w1.heap.size,2,none⟩=some (.int .i64 0)/\w'.cell? ⟨w1.heap.size+1,0,none⟩=some (.int .i64 31)/\w'.cell? ⟨w1.heap.size+1,1,none⟩=some (.int .i64 0)/\w'.cell? ⟨w1.heap.size+1,2,none⟩=some (.int .i64 0)/\w'.cell? ⟨w1.heap.size+1,3,none⟩=some (.int .i64 0)/\w'.cell? ⟨w1.heap.size+1,4,none⟩=some (.int .i64 0))
  (first
    | with_reducible exact j7 d
    | with_reducible exact iV f (by assumption)
    | (go_keep;done))
  ((go_at_call 288;refine(n.out _).mono ?_;rintro e w2 ⟨rfl,d⟩;obtain⟨i,q⟩:=iW c d))
 go_wp2;refine ao (v:=.tuple #[.agg #[.int .i64 31,.int .i64 0,.int .i64 0,.int .i64 0,.int .i64 0],.int .i64 1]) (by simp[results,results271,go_sem,i]) U ⟨U,?_⟩;exact(((((bn (stA (stA (bn (stA (J _) _) c) _) _).drew d).setCell (ak _) _).setCell (ak _) _).setCell (ak _) _).setCell (ak _) _).setCell (ak _) _
def gR(a b:Int):Value:=.agg #[.int .i64 (O.rOp a),.int .i64 (O.rD a),.int .i64 (O.rS a),.int .i64 (O.rN a),.int .i64 (O.rW a b)]
theorem znb(k:Nat)(f:k<32)(a b:Int)(g:O.rOp a=k):O.rD a=(if O.mask k%2=1 then a/256%8 else 0)/\O.rS a=(if O.mask k/2%2=1 then a/32%8 else 0)/\O.rN a=(if O.mask k/16%2=1 then a%16 else if O.mask k/4%2=1 then M.low a 5 else 0) /\
  O.rW a b=(if O.mask k/8%2=1 then b else 0)/\O.rLen a=lenOf (O.mask k):=by
 have e:O.rk a=k:=by unfold O.rk;rw[g];rfl
 have h:∀ k,k<32->O.hasC k 100=decide (O.mask k%2=1)/\O.hasC k 115=decide (O.mask k/2%2=1)/\O.hasC k 119=decide (O.mask k/8%2=1) /\
  (O.hasC k 110=(decide (O.mask k/16%2=1) || decide (O.mask k/4%2=1)))/\(decide (O.mask k/16%2=1)=decide (k=12 \/ k=13)):=by decide +kernel
 obtain⟨h1,h2,h3,h4,i⟩:=h k f;unfold O.rD O.rS O.rN O.rW O.rLen lenOf;rw[e,h1,h2,h3,h4];refine⟨by simp only[bC],by simp only[bC],?_,by simp only[bC],by simp only[bC]⟩;unfold O.nOf;have d:=cC.1 i;by_cases c:O.mask k/16%2=1
 ·simp only[c,decide_true,mA,dL,Q (d.1 c)]
 ·have j:¬ (k=12 \/ k=13):=λx=>c (d.2 x)
  rw[G j,G c,aF c,O.low_5];simp only[lN,bC]
theorem ze6(a b:Int)(c:0<=a/\a<=65535)(hb:0<=b/\b<=65535)(w:World)(d:aZ w):Calls prog 271 #[.int .u16 a,.int .u16 b] w λe w'=>e=.returned (.tuple #[gR a b,.int .i64 (O.rLen a)])/\Below w.heap.size w w':=by
 by_cases g:a/2048=30
 ·have i:O.rOp a=((31:Nat):Int):=by unfold O.rOp;rw[Q g];rfl
  obtain⟨p1,p2,p3,j,l⟩:=znb 31 (by omega) a b i;have m:O.mask 31=0:=by decide +kernel
  rw[m] at p1 p2 p3 j l;unfold gR;rw[i,p1,p2,p3,j,l];exact zpT a b c.1 c.2 hb.1 hb.2 g w d
 ·obtain⟨k,f⟩:=aB (show 0<=a/2048 by omega)
  have i:O.rOp a=(k:Int):=by unfold O.rOp;rw[G g,f]
  obtain⟨p1,p2,p3,j,l⟩:=znb k (by omega) a b i;unfold gR;rw[i,p1,p2,p3,j,l];clear p1 p2 p3 j l;rcases O.mask_or k (by omega) with h|h|h|h|h|h|h|h|h <;> rw[h]
  ·exact zw3 k (by omega) (by omega) h a b c.1 c.2 hb.1 hb.2 f w d
  ·exact zw4 k (by omega) (by omega) h a b c.1 c.2 hb.1 hb.2 f w d
  ·exact zw5 k (by omega) (by omega) h a b c.1 c.2 hb.1 hb.2 f w d
  ·exact zw6 k (by omega) (by omega) h a b c.1 c.2 hb.1 hb.2 f w d
  ·exact zw7 k (by omega) (by omega) h a b c.1 c.2 hb.1 hb.2 f w d
  ·exact zw8 k (by omega) (by omega) h a b c.1 c.2 hb.1 hb.2 f w d
  ·exact zw9 k (by omega) (by omega) h a b c.1 c.2 hb.1 hb.2 f w d
  ·exact zxa k (by omega) (by omega) h a b c.1 c.2 hb.1 hb.2 f w d
  ·exact zvv k (by omega) (by omega) h a b c.1 c.2 hb.1 hb.2 f w d
/-! ### an order's parts, letter by letter -/
def fD(p:List UInt8)(a:Int):Int:=if p.contains 100 then a/256%8 else 0
def fS(p:List UInt8)(a:Int):Int:=if p.contains 115 then a/32%8 else 0
def fN(p:List UInt8)(k:Nat)(a:Int):Int:=if p.contains 110 then O.nOf k a else 0
def fW(p:List UInt8)(b:Int):Int:=if p.contains 119 then b else 0
def fL(p:List UInt8):Int:=if p.contains 119 then 2 else 1
def lets(k:Nat):List UInt8:=(K.row k).2.1
theorem zwi:∀ k,k<32->(lets k).all (λc=>c == 100 || c == 115 || c == 110 || c == 119)=true:=by decide +kernel
theorem zro(k:Nat):(K.has k).size=(lets k).length:=rfl
theorem zrp(l:List UInt8)(j:Nat)(c:UInt8)(h:l[j]?=some c):l.take (j+1)=l.take j++[c]:=by
 rw[dw,h];rfl
theorem tR{l:List UInt8}{j:Nat}{c x:UInt8}(hc:l[j]?=some c):(l.take (j+1)).contains x=((l.take j).contains x || c == x):=by
 rw[zrp l j c hc,jt,Bool.or_eq_true,jG,jG,bS,ch,iz];exact⟨λh=>h.imp id Eq.symm,λh=>h.imp id Eq.symm⟩
theorem zit{l:List UInt8}{j:Nat}{c:UInt8}(hc:l[j]?=some c)(a:Int):fD (l.take (j+1)) a=if c == 100 then a/256%8 else fD (l.take j) a:=by
 unfold fD;rw[tR hc];cases (l.take j).contains 100 <;> cases (c == 100) <;> rfl
theorem ziu{l:List UInt8}{j:Nat}{c:UInt8}(hc:l[j]?=some c)(a:Int):fS (l.take (j+1)) a=if c == 115 then a/32%8 else fS (l.take j) a:=by
 unfold fS;rw[tR hc];cases (l.take j).contains 115 <;> cases (c == 115) <;> rfl
theorem ziv{l:List UInt8}{j:Nat}{c:UInt8}(hc:l[j]?=some c)(k:Nat)(a:Int):fN (l.take (j+1)) k a=if c == 110 then O.nOf k a else fN (l.take j) k a:=by
 unfold fN;rw[tR hc];cases (l.take j).contains 110 <;> cases (c == 110) <;> rfl
theorem ziw{l:List UInt8}{j:Nat}{c:UInt8}(hc:l[j]?=some c)(b:Int):fW (l.take (j+1)) b=if c == 119 then b else fW (l.take j) b:=by
 unfold fW;rw[tR hc];cases (l.take j).contains 119 <;> cases (c == 119) <;> rfl
theorem zix{l:List UInt8}{j:Nat}{c:UInt8}(hc:l[j]?=some c):fL (l.take (j+1))=if c == 119 then 2 else fL (l.take j):=by
 unfold fL;rw[tR hc];cases (l.take j).contains 119 <;> cases (c == 119) <;> rfl
theorem zfd:∀ k,k<32->((K.name k).toList == [115,104,108])=decide (k=12):=by decide +kernel
theorem ziy:∀ k,k<32->((K.name k).toList == [115,104,114])=decide (k=13):=by decide +kernel
theorem wQ{k:Nat}(b:k<32){a:Int}(h:(K.name k).toList=[115,104,108]):O.nOf k a=a%16:=by
 have:=zfd k b;rw[h] at this;unfold O.nOf;rw[Q (Or.inl (by simpa using this))]
theorem wR{k:Nat}(b:k<32){a:Int}(h:((K.name k).toList == [115,104,108])=true \/ ((K.name k).toList == [115,104,114])=true):O.nOf k a=a%16:=by
 rw[zfd k b,ziy k b] at h;unfold O.nOf;rw[Q (by simpa using h)]
theorem wS{k:Nat}(b:k<32){a:Int}(h:((K.name k).toList == [115,104,108])=false/\((K.name k).toList == [115,104,114])=false)(c:16<=a%32):O.nOf k a=a%32-32:=by
 rw[zfd k b,ziy k b] at h;unfold O.nOf;rw[G (by simpa using h),Q c]
theorem wT{k:Nat}(b:k<32){a:Int}(h:((K.name k).toList == [115,104,108])=false/\((K.name k).toList == [115,104,114])=false)(c:a%32<16):O.nOf k a=a%32:=by
 rw[zfd k b,ziy k b] at h;unfold O.nOf;rw[G (by simpa using h),G (by omega)]
theorem p8{w w1:World}{t:TypeId}(a:Below (w.alloc (.cells #[.int .i64 0,.int .i64 0,.int .i64 0,.int .i64 0,.int .i64 0] t)).heap.size (w.alloc (.cells #[.int .i64 0,.int .i64 0,.int .i64 0,.int .i64 0,.int .i64 0] t)) w1):(∀ i,i<5->w1.cell? ⟨w.heap.size,i,none⟩=some (.int .i64 0)) /\ ∀ i,w1.frozen? ⟨w.heap.size,i,none⟩=false:=by
 refine⟨λi hi=>?_,λi=>?_⟩
 ·rw[a.cell (by simp),jb _ _ _ _ U]
  have hc:i=0 \/ i=1 \/ i=2 \/ i=3 \/ i=4:=by omega
  rcases hc with rfl|rfl|rfl|rfl|rfl <;> rfl
 ·rw[a.frozen (by simp)]
  simp
theorem zoX(a b:Int)(c:0<=a/\a<=65535)(hb:0<=b/\b<=65535)(d:a/2048=30)(w:World):Calls prog 101 #[.int .u16 a,.int .u16 b] w λe w'=>e=.returned (.tuple #[.agg #[.int .i64 31,.int .i64 0,.int .i64 0,.int .i64 0,.int .i64 0],.int .i64 1])/\Below w.heap.size w w':=by
 obtain⟨f,g⟩:=c;go_enter func101,ntmps101;go_wp2;exact ao (v:=.tuple #[.agg #[.int .i64 31,.int .i64 0,.int .i64 0,.int .i64 0,.int .i64 0],.int .i64 1]) (by simp[results,results101,go_sem]) U ⟨U,stA (J _) _⟩
def rw0(w1:World)(k:Nat)(x:Int)(p:List UInt8)(a b:Int):World :=
 (w1.alloc (.cells #[.string (K.name k),.string (K.has k),.int .i64 (K.cyc k)] 231)).alloc (.cells #[.int .i64 x,.int .i64 (fD p a),.int .i64 (fS p a),.int .i64 (fN p k a),.int .i64 (fW p b)] 191)
theorem zwj(w:World)(s:ByteArray)(i:Nat):w.iter s i=w.alloc (.stringIter s i):=rfl
theorem znC(w:World)(B:Nat)(hB:B=w.heap.size)(s:ByteArray)(i:Nat)(c:UInt8)(hi:i<s.size)(hc:s[i]'hi=c)(a:c.toNat<128)(ty:TypeId):(Instr.next (.pointer (some ⟨B,0,none⟩)) true ty).run prog (w.alloc (.stringIter s i)) =
 .ok (.tuple #[.bool true,.int .i64 i,.int .i32 c.toNat]) (w.alloc (.stringIter s (i+1))):=by
 subst hB;have:=run_next_ascii (P:=prog) w s i ty hi (by rw[hc];exact a);rw[hc] at this;exact this
theorem zx0(w:World)(B:Nat)(hB:B=w.heap.size)(s:ByteArray)(i:Nat)(hi:¬ i<s.size)(ty:TypeId):(Instr.next (.pointer (some ⟨B,0,none⟩)) true ty).run prog (w.alloc (.stringIter s i))=.ok (.tuple #[.bool false]) (w.alloc (.stringIter s i)):=by
 subst hB;exact run_next_end (P:=prog) w s i ty hi
theorem tS(k j:Nat)(hi:j<(K.has k).size):(lets k)[j]?=some ((K.has k)[j]'hi):=by
 have h:j<(lets k).length:=hi;rw[au h];rfl
theorem zwk(k j:Nat)(a:k<32)(hi:j<(K.has k).size):(K.has k)[j]'hi=100 \/ (K.has k)[j]'hi=115 \/ (K.has k)[j]'hi=110 \/ (K.has k)[j]'hi=119:=by
 have:=bW.1 (zwi k a) _ (bh (tS k j hi))
 simpa [or_assoc] using this
def posOf(w:World)(B:Nat):Nat:=match w.heap[B]? with|some (.stringIter _ i)=>i|_=>0
theorem qt(w:World)(B:Nat)(s:ByteArray)(i:Nat)(hB:B=w.heap.size):posOf (w.alloc (.stringIter s i)) B=i:=by
 subst hB;unfold posOf;rw[show (w.alloc (.stringIter s i)).heap[w.heap.size]?=some (.stringIter s i) from World.iter_heap w s i]
theorem tT(w1:World)(k:Nat)(x:Int)(p:List UInt8)(a b:Int):w1.heap.size+1+1=(rw0 w1 k x p a b).heap.size:=by unfold rw0;simp
theorem zrq(k:Nat)(p:k<32)(F:k≠30)(a b:Int)(H:0<=a/\a<=65535)(hb:0<=b/\b<=65535)(I:a/2048=k)(w:World)(y:Facts w):Calls prog 101 #[.int .u16 a,.int .u16 b] w λe w'=>e=.returned (.tuple #[.agg #[.int .i64 k,.int .i64 (fD (lets k) a),.int .i64 (fS (lets k) a),.int .i64 (fN (lets k) k a),.int .i64 (fW (lets k) b)],.int .i64 (fL (lets k))])/\Below w.heap.size w w':=by
 obtain⟨M,N⟩:=H;obtain⟨z,B⟩:=hb;have E:((k:Int) == 30)=false:=by simp;omega
 have P:=hid y;have R:=zwj;clear y;go_enter func101,ntmps101;go_wp2_with (go_at_call 142;refine(tQ _ (P.out.kept (stA (J _) _))).mono ?_;rintro e w1 ⟨g,T,rfl,q,V,W,h⟩;obtain⟨c0,c1,c2⟩:=q k p;have r:=pK h;clear q)
 go_loopw [10] (λL wr=>∃ j:Nat,j<=(lets k).length/\L=.int .i64 (fL ((lets k).take j))/\wr=(rw0 w1 k k ((lets k).take j) a b).alloc (.stringIter (K.has k) j)) (λ_ wr=>(lets k).length-posOf wr (w1.heap.size+1+1))
 case atStart=>exact⟨0,by omega,U,U⟩
 case round =>
  obtain⟨j,X,rfl,rfl⟩:=hrel;by_cases s:j<(lets k).length
  ·have hi:j<(K.has k).size:=s
   rcases zwk k j p hi with hc|hc|hc|hc
   ·have c:(lets k)[j]?=some 100:=by rw[tS k j hi,hc]
    have f:=znC (rw0 w1 k k ((lets k).take j) a b) (w1.heap.size+1+1) (tT ..) (K.has k) j 100 hi hc (by decide);have d:=hid c;clear c hc;unfold rw0 at f ⊢;go_wp2;all_goals
     have i:=(zit d.out a).trans (Q (by decide));have l:=(ziu d.out a).trans (G (by decide));have m:=((ziv d.out k a).trans (G (by decide)))
     have n:=(ziw d.out b).trans (G (by decide));have o:=(zix d.out).trans (G (by decide));refine⟨⟨j+1,by omega,by rw[o],by rw[i,l,m,n]⟩,?_⟩;rw[qt _ _ _ _ (by simp),qt _ _ _ _ (by simp)];omega
   ·have c:(lets k)[j]?=some 115:=by rw[tS k j hi,hc]
    have f:=znC (rw0 w1 k k ((lets k).take j) a b) (w1.heap.size+1+1) (tT ..) (K.has k) j 115 hi hc (by decide);have d:=hid c;clear c hc;unfold rw0 at f ⊢;go_wp2;all_goals
     have i:=(zit d.out a).trans (G (by decide));have l:=(ziu d.out a).trans (Q (by decide));have m:=((ziv d.out k a).trans (G (by decide)))
     have n:=(ziw d.out b).trans (G (by decide));have o:=(zix d.out).trans (G (by decide));refine⟨⟨j+1,by omega,by rw[o],by rw[i,l,m,n]⟩,?_⟩;rw[qt _ _ _ _ (by simp),qt _ _ _ _ (by simp)];omega
   ·have c:(lets k)[j]?=some 110:=by rw[tS k j hi,hc]
    have f:=znC (rw0 w1 k k ((lets k).take j) a b) (w1.heap.size+1+1) (tT ..) (K.has k) j 110 hi hc (by decide);have d:=hid c;clear c hc;unfold rw0 at f ⊢;go_wp2;all_goals
     have i:=(zit d.out a).trans (G (by decide));have l:=(ziu d.out a).trans (G (by decide));have m:=((ziv d.out k a).trans (Q (by decide)))
     have n:=(ziw d.out b).trans (G (by decide));have o:=(zix d.out).trans (G (by decide));have t:=m.trans (by first|exact wQ p (by assumption)|exact wR p (by assumption)|exact wS p (by assumption) (by assumption)|exact wT p (by assumption) (by assumption));refine⟨⟨j+1,by omega,by rw[o],by rw[i,l,t,n]⟩,?_⟩;rw[qt _ _ _ _ (by simp),qt _ _ _ _ (by simp)];omega
   ·have c:(lets k)[j]?=some 119:=by rw[tS k j hi,hc]
    have f:=znC (rw0 w1 k k ((lets k).take j) a b) (w1.heap.size+1+1) (tT ..) (K.has k) j 119 hi hc (by decide);have d:=hid c;clear c hc;unfold rw0 at f ⊢;go_wp2;all_goals
     have i:=(zit d.out a).trans (G (by decide));have l:=(ziu d.out a).trans (G (by decide));have m:=((ziv d.out k a).trans (G (by decide)))
     have n:=(ziw d.out b).trans (Q (by decide));have o:=(zix d.out).trans (Q (by decide));refine⟨⟨j+1,by omega,by rw[o],by rw[i,l,m,n]⟩,?_⟩;rw[qt _ _ _ _ (by simp),qt _ _ _ _ (by simp)];omega
  ·obtain rfl:j=(lets k).length:=by omega
   have f:=zx0 (rw0 w1 k k ((lets k).take (lets k).length) a b) (w1.heap.size+1+1) (tT ..) (K.has k) (lets k).length (by rw[zro];omega);obtain⟨r1,r2⟩:=p8 h;have u:w.heap.size<w1.heap.size+1:=by omega
   have x:w.heap.size<w1.heap.size+1+1:=by omega
   rw[gH] at f ⊢;unfold rw0 at f ⊢;go_wp2;refine ao (v:=.tuple #[.agg #[.int .i64 k,.int .i64 (fD (lets k) a),.int .i64 (fS (lets k) a),.int .i64 (fN (lets k) k a),.int .i64 (fW (lets k) b)],.int .i64 (fL (lets k))]) (by simp[results,results101,go_sem,r1,r,u,x]) U ⟨U,?_⟩;exact stA (stA (stA ((((((bn (stA (J _) _) h).setCell (ak _) _).setCell (ak _) _).setCell (ak _) _).setCell (ak _) _).setCell (ak _) _) _) _) _
theorem zlT(a b:Int)(g:0<=a/\a<=65535)(hb:0<=b/\b<=65535)(w:World)(j:Facts w):Calls prog 101 #[.int .u16 a,.int .u16 b] w λe w'=>e=.returned (.tuple #[.agg #[.int .i64 (O.rOp a),.int .i64 (O.rD a),.int .i64 (O.rS a),.int .i64 (O.rN a),.int .i64 (O.rW a b)],.int .i64 (O.rLen a)])/\Below w.heap.size w w':=by
 by_cases c:a/2048=30
 ·have d:O.rk a=31:=by unfold O.rk O.rOp;rw[Q c];rfl
  have e:O.rD a=0/\O.rS a=0/\O.rN a=0/\O.rW a b=0/\O.rLen a=1:=by
   have h:O.hasC 31 100=false/\O.hasC 31 115=false/\O.hasC 31 110=false/\O.hasC 31 119=false:=by decide +kernel
   unfold O.rD O.rS O.rN O.rW O.rLen;rw[d,h.1,h.2.1,h.2.2.1,h.2.2.2];exact⟨U,U,U,U,U⟩
  have l:O.rOp a=31:=by unfold O.rOp;rw[Q c]
  rw[l,e.1,e.2.1,e.2.2.1,e.2.2.2.1,e.2.2.2.2];exact zoX a b g hb c w
 ·obtain⟨k,i⟩:=aB (show 0<=a/2048 by omega)
  have d:O.rOp a=(k:Int):=by unfold O.rOp;rw[G c,i]
  have f:O.rk a=k:=by unfold O.rk;rw[d];rfl
  unfold O.rD O.rS O.rN O.rW O.rLen;rw[f,d];exact zrq k (by omega) (by omega) a b g hb i w j
end Go.Proofs.YthghjlinhokimaaGreatDoor
