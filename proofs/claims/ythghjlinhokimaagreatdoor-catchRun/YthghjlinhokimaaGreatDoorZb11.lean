/-
  Parts of a proof, joined.
-/
import Derived.Test.YthghjlinhokimaaGreatDoorZbA
import Derived.Test.YthghjlinhokimaaGreatDoorZb06
import Derived.Test.YthghjlinhokimaaGreatDoorZb08
import Derived.Test.YthghjlinhokimaaGreatDoorZb07
set_option linter.all false
set_option maxRecDepth 100000
set_option maxHeartbeats 12800000
open Option renaming none->G,some->A
open Go renaming World->u,Calls->Δ
open Bool renaming false->ξ,true->Γ
open Go.Proofs.Tryz renaming prog->ω
open Go.Value renaming int->J,bool->ν,tuple->Ψ,string->Ω,agg->ac
open Go.IntKind renaming i64->Q,u16->Y
open Go.Ending renaming returned->μ
open Go.Obj renaming cells->χ
namespace Go.Proofs.YthghjlinhokimaaGreatDoor
open Go.ChangeShapes Go.WideShapes Go.ChangeAt Go.RowKit Go.Proofs.Tryz
theorem zAU(s:Sd)(k:Nat)(q b:Int)(w:u)(B:k<8/\q=8+k)(h:s.ok)(hb:0<=b/\b<=255):Δ ω 151 #[(ac #[J Y s.a.p,J Y s.a.c,J .u8 s.a.l,ν s.a.h,J Y s.a.n,J Y s.b.p,J Y s.b.c,J .u8 s.b.l,ν s.b.h,J Y s.b.n,J Y s.c.p,J Y s.c.c,J .u8 s.c.l,ν s.c.h,J Y s.c.n,J Q s.w]),J Q q,J .u8 b] w λe w'=>e=μ (ac (lz ⟨s.a,s.b.put k b,s.c,s.w⟩).toArray)/\Below w.heap.size w w':=by
 have j:∀ z:Int,0<=z/\z<=65535->z.tdiv 256=z/256/\IntKind.u16.wrap (z/256)=z/256/\IntKind.u16.wrap (z/256*256)=z/256*256/\IntKind.u16.wrap (z/256*256+b)=z/256*256+b:=λz g=>by
  refine⟨aF g.1,?_,?_,?_⟩ <;> (rw[bj];omega)
 obtain⟨p1,p2,p3,L⟩:=j _ h.b.p;obtain⟨M,N,P,R⟩:=j _ h.b.n;have T:b.tmod 16=b%16:=ak hb.1;have E:IntKind.u8.wrap (b%16)=b%16:=by rw[jx];omega
 have U:∀ z:Int,z%256+b*256=b*256+z%256:=λz=>oL _ _
 have hp:=h.b.p;have V:=h.b.n;obtain⟨z,g⟩:∃ z:Sd,z=⟨s.a,s.b.put k b,s.c,s.w⟩:=⟨_,D⟩
 rw[<- g];have hc:(k=0/\q=8) \/ (k=1/\q=9) \/ (k=2/\q=10) \/ (k=3/\q=11) \/ (k=4/\q=12) \/ (k=5/\q=13) \/ (k=6/\q=14) \/ (k=7/\q=15):=by omega
 clear j B;rcases hc with⟨rfl,rfl⟩|⟨rfl,rfl⟩|⟨rfl,rfl⟩|⟨rfl,rfl⟩|⟨rfl,rfl⟩|⟨rfl,rfl⟩|⟨rfl,rfl⟩|⟨rfl,rfl⟩
 all_goals
  have F:=hid g;clear g;go_enter func151,ntmps151;go_upto_region 1 with fail
  refine Pl.cutW (SmW w s [] (.slice G 0 0)) (SmW.two w s) ?_;intro W m;have x:=hid m;obtain⟨c0,c1,c2,c3,c4,H,tf⟩:=m.b.w1;clear m;go_upto_region 15 with fail
  refine Pl.cutW (SmW w z [] (.slice G 0 0)) (by rw[F.out];exact(x.out.v1 _).over _) ?_;clear c0 c1 c2 c3 c4 H tf x;intro W y;have i:=hid y;clear y;go_wp2_with (first
   | (refine wpList_load_mid D 36 _ D w.heap.size 0 D (lz z) _ i.out.b.c underlying36 D nh ?_)
   | (refine wpList_store_mid D 36 _ _ D (w.heap.size+1) 0 _ D D (nJ i.out.r) nh (kH z) ?_
      refine Pl.cutL (λW=>Below w.heap.size w W/\Bx W (w.heap.size+1) (lz z)) ⟨Bl.puts i.out.low (fH _) _,i.out.r.puts 0 (lz z) (by simp)⟩ ?_;rintro W ⟨d,f⟩;have o:=hid d;have t:=hid f;clear d f))
  have I:=pR t.out;exact Ξ (v:=ac (lz z).toArray) (by simp only[results,results151];simp;exact I) D ⟨D,o.out⟩
theorem rY{w w1:u}{o:Obj}(hb:Below (w.alloc o).heap.size (w.alloc o) w1):w.heap.size<w1.heap.size:=by have:=hb.size;simp at this;omega
theorem yP{w:u}(h:br w):w.cell? ⟨2,93,G⟩=A (Ω (O.nameS 31))/\w.cell? ⟨2,94,G⟩=A (J Q (K.cyc 31))/\w.cell? ⟨2,95,G⟩=A (J Q 0):=by
 obtain⟨a,b,c⟩:=h 31 (by omega);exact⟨a,b,c⟩
theorem zsz(a b:Int)(r:0<=a)(k:a<=65535)(hb:0<=b)(l:b<=65535)(m:a/2048=30)(w:u)(g:br w):Δ ω 271 #[J Y a,J Y b] w λe w'=>e=μ (Ψ #[ac #[J Q 31,J Q 0,J Q 0,J Q 0,J Q 0],J Q 1])/\Below w.heap.size w w':=by
 have n:Hid (∀ w:u,Δ ω 288 #[ac #[Ω (O.nameS 31),J Q (K.cyc 31),J Q 0]] w λe w'=>e=μ (J Q 1)/\Below w.heap.size w w'):=λw=>sT (Ω (O.nameS 31)) (J Q (K.cyc 31)) 31 (by omega) w
 have j:=hid g;have o:2<w.heap.size:=g.lt;clear g;go_enter func271,ntmps271;go_wp2_with (first
  | (go_at_call 256;refine(zi7 30 (by decide) _ (pJ j.out _)).mono ?_;rintro e w1 ⟨rfl,c⟩;obtain⟨c0,c1,c2⟩:=yP ((pJ j.out _).kept c);have f:=rY c;have h:2<w1.heap.size:=mF o f;have p:0<w1.heap.size:=iC (bh _) h))
 go_region_held3 (λw'=>w'.cell? ⟨w1.heap.size,0,G⟩=A (Ω (O.nameS 31))/\w'.cell? ⟨w1.heap.size,1,G⟩=A (J Q (K.cyc 31))/\w'.cell? ⟨w1.heap.size,2,G⟩=A (J Q 0)/\w'.cell? ⟨w1.heap.size+1,0,G⟩=A (J Q 31)/\w'.cell? ⟨w1.heap.size+1,1,G⟩=A (J Q 0)/\w'.cell? ⟨w1.heap.size+1,2,G⟩=A (J Q 0)/\w'.cell? ⟨w1.heap.size+1,3,G⟩=A (J Q 0)/\w'.cell? ⟨w1.heap.size+1,4,G⟩=A (J Q 0))
  (first
    | with_reducible exact nV d
    | with_reducible exact lV f (by assumption)
    | (go_keep;done))
  ((go_at_call 288;refine(n.out _).mono ?_;rintro e w2 ⟨rfl,d⟩;obtain⟨i,q⟩:=lW c d))
 go_wp2;refine Ξ (v:=Ψ #[ac #[J Q 31,J Q 0,J Q 0,J Q 0,J Q 0],J Q 1]) (by simp[results,results271,go_sem,i]) D ⟨D,?_⟩;exact(((((bw (stA (stA (bw (stA (aR _) _) c) _) _).drew d).setCell (ψ _) _).setCell (ψ _) _).setCell (ψ _) _).setCell (ψ _) _).setCell (ψ _) _
def kD(a b:Int):Value:=ac #[J Q (O.rOp a),J Q (O.rD a),J Q (O.rS a),J Q (O.rN a),J Q (O.rW a b)]
theorem zpG(k:Nat)(f:k<32)(a b:Int)(g:O.rOp a=k):O.rD a=(if O.mask k%2=1 then a/256%8 else 0)/\O.rS a=(if O.mask k/2%2=1 then a/32%8 else 0)/\O.rN a=(if O.mask k/16%2=1 then a%16 else if O.mask k/4%2=1 then M.low a 5 else 0) /\
  O.rW a b=(if O.mask k/8%2=1 then b else 0)/\O.rLen a=lenOf (O.mask k):=by
 have e:O.rk a=k:=by unfold O.rk;rw[g];rfl
 have h:∀ k,k<32->O.hasC k 100=decide (O.mask k%2=1)/\O.hasC k 115=decide (O.mask k/2%2=1)/\O.hasC k 119=decide (O.mask k/8%2=1) /\
  (O.hasC k 110=(decide (O.mask k/16%2=1) || decide (O.mask k/4%2=1)))/\(decide (O.mask k/16%2=1)=decide (k=12 \/ k=13)):=by decide +kernel
 obtain⟨h1,h2,h3,h4,i⟩:=h k f;unfold O.rD O.rS O.rN O.rW O.rLen lenOf;rw[e,h1,h2,h3,h4];refine⟨by simp only[cu],by simp only[cu],?_,by simp only[cu],by simp only[cu]⟩;unfold O.nOf;have d:=dW.1 i;by_cases c:O.mask k/16%2=1
 ·simp only[c,decide_true,oI,fO,am (d.1 c)]
 ·have j:¬ (k=12 \/ k=13):=λx=>c (d.2 x)
  rw[ae j,ae c,aG c,O.low_5];simp only[lY,cu]
theorem zfM(a b:Int)(c:0<=a/\a<=65535)(hb:0<=b/\b<=65535)(w:u)(d:br w):Δ ω 271 #[J Y a,J Y b] w λe w'=>e=μ (Ψ #[kD a b,J Q (O.rLen a)])/\Below w.heap.size w w':=by
 by_cases g:a/2048=30
 ·have i:O.rOp a=((31:Nat):Int):=by unfold O.rOp;rw[am g];rfl
  obtain⟨p1,p2,p3,j,l⟩:=zpG 31 (by omega) a b i;have m:O.mask 31=0:=by decide +kernel
  rw[m] at p1 p2 p3 j l;unfold kD;rw[i,p1,p2,p3,j,l];exact zsz a b c.1 c.2 hb.1 hb.2 g w d
 ·obtain⟨k,f⟩:=aA (show 0<=a/2048 by omega)
  have i:O.rOp a=(k:Int):=by unfold O.rOp;rw[ae g,f]
  obtain⟨p1,p2,p3,j,l⟩:=zpG k (by omega) a b i;unfold kD;rw[i,p1,p2,p3,j,l];clear p1 p2 p3 j l;rcases O.mask_or k (by omega) with h|h|h|h|h|h|h|h|h <;> rw[h]
  ·exact zAa k (by omega) (by omega) h a b c.1 c.2 hb.1 hb.2 f w d
  ·exact zAb k (by omega) (by omega) h a b c.1 c.2 hb.1 hb.2 f w d
  ·exact zAc k (by omega) (by omega) h a b c.1 c.2 hb.1 hb.2 f w d
  ·exact zAd k (by omega) (by omega) h a b c.1 c.2 hb.1 hb.2 f w d
  ·exact zAe k (by omega) (by omega) h a b c.1 c.2 hb.1 hb.2 f w d
  ·exact zAf k (by omega) (by omega) h a b c.1 c.2 hb.1 hb.2 f w d
  ·exact zAg k (by omega) (by omega) h a b c.1 c.2 hb.1 hb.2 f w d
  ·exact zAh k (by omega) (by omega) h a b c.1 c.2 hb.1 hb.2 f w d
  ·exact zyr k (by omega) (by omega) h a b c.1 c.2 hb.1 hb.2 f w d
/-! ### an order's parts, letter by letter -/
def fD(p:List UInt8)(a:Int):Int:=if p.contains 100 then a/256%8 else 0
def fS(p:List UInt8)(a:Int):Int:=if p.contains 115 then a/32%8 else 0
def fN(p:List UInt8)(k:Nat)(a:Int):Int:=if p.contains 110 then O.nOf k a else 0
def fW(p:List UInt8)(b:Int):Int:=if p.contains 119 then b else 0
def fL(p:List UInt8):Int:=if p.contains 119 then 2 else 1
def lets(k:Nat):List UInt8:=(K.row k).2.1
theorem zzd:∀ k,k<32->(lets k).all (λc=>c == 100 || c == 115 || c == 110 || c == 119)=Γ:=by decide +kernel
theorem zt0(k:Nat):(K.has k).size=(lets k).length:=rfl
theorem zt1(l:List UInt8)(j:Nat)(c:UInt8)(h:l[j]?=A c):l.take (j+1)=l.take j++[c]:=by
 rw[ek,h];rfl
theorem AH{l:List UInt8}{j:Nat}{c x:UInt8}(hc:l[j]?=A c):(l.take (j+1)).contains x=((l.take j).contains x || c == x):=by
 rw[zt1 l j c hc,mP,Bool.or_eq_true,nc,nc,cO,dD,ll];exact⟨λh=>h.imp id Eq.symm,λh=>h.imp id Eq.symm⟩
theorem zjS{l:List UInt8}{j:Nat}{c:UInt8}(hc:l[j]?=A c)(a:Int):fD (l.take (j+1)) a=if c == 100 then a/256%8 else fD (l.take j) a:=by
 unfold fD;rw[AH hc];cases (l.take j).contains 100 <;> cases (c == 100) <;> rfl
theorem zjT{l:List UInt8}{j:Nat}{c:UInt8}(hc:l[j]?=A c)(a:Int):fS (l.take (j+1)) a=if c == 115 then a/32%8 else fS (l.take j) a:=by
 unfold fS;rw[AH hc];cases (l.take j).contains 115 <;> cases (c == 115) <;> rfl
theorem zjU{l:List UInt8}{j:Nat}{c:UInt8}(hc:l[j]?=A c)(k:Nat)(a:Int):fN (l.take (j+1)) k a=if c == 110 then O.nOf k a else fN (l.take j) k a:=by
 unfold fN;rw[AH hc];cases (l.take j).contains 110 <;> cases (c == 110) <;> rfl
theorem zjV{l:List UInt8}{j:Nat}{c:UInt8}(hc:l[j]?=A c)(b:Int):fW (l.take (j+1)) b=if c == 119 then b else fW (l.take j) b:=by
 unfold fW;rw[AH hc];cases (l.take j).contains 119 <;> cases (c == 119) <;> rfl
theorem zjW{l:List UInt8}{j:Nat}{c:UInt8}(hc:l[j]?=A c):fL (l.take (j+1))=if c == 119 then 2 else fL (l.take j):=by
 unfold fL;rw[AH hc];cases (l.take j).contains 119 <;> cases (c == 119) <;> rfl
theorem zfS:∀ k,k<32->((K.name k).toList == [115,104,108])=decide (k=12):=by decide +kernel
theorem zjX:∀ k,k<32->((K.name k).toList == [115,104,114])=decide (k=13):=by decide +kernel
theorem Cg{k:Nat}(b:k<32){a:Int}(h:(K.name k).toList=[115,104,108]):O.nOf k a=a%16:=by
 have:=zfS k b;rw[h] at this;unfold O.nOf;rw[am (Or.inl (by simpa using this))]
theorem Ch{k:Nat}(b:k<32){a:Int}(h:((K.name k).toList == [115,104,108])=Γ \/ ((K.name k).toList == [115,104,114])=Γ):O.nOf k a=a%16:=by
 rw[zfS k b,zjX k b] at h;unfold O.nOf;rw[am (by simpa using h)]
theorem Ci{k:Nat}(b:k<32){a:Int}(h:((K.name k).toList == [115,104,108])=ξ/\((K.name k).toList == [115,104,114])=ξ)(c:16<=a%32):O.nOf k a=a%32-32:=by
 rw[zfS k b,zjX k b] at h;unfold O.nOf;rw[ae (by simpa using h),am c]
theorem Cj{k:Nat}(b:k<32){a:Int}(h:((K.name k).toList == [115,104,108])=ξ/\((K.name k).toList == [115,104,114])=ξ)(c:a%32<16):O.nOf k a=a%32:=by
 rw[zfS k b,zjX k b] at h;unfold O.nOf;rw[ae (by simpa using h),ae (by omega)]
theorem wO{w w1:u}{t:TypeId}(a:Below (w.alloc (χ #[J Q 0,J Q 0,J Q 0,J Q 0,J Q 0] t)).heap.size (w.alloc (χ #[J Q 0,J Q 0,J Q 0,J Q 0,J Q 0] t)) w1):(∀ i,i<5->w1.cell? ⟨w.heap.size,i,G⟩=A (J Q 0)) /\ ∀ i,w1.frozen? ⟨w.heap.size,i,G⟩=ξ:=by
 refine⟨λi hi=>?_,λi=>?_⟩
 ·rw[a.cell (by simp),ly _ _ _ _ D]
  have hc:i=0 \/ i=1 \/ i=2 \/ i=3 \/ i=4:=by omega
  rcases hc with rfl|rfl|rfl|rfl|rfl <;> rfl
 ·rw[a.frozen (by simp)]
  simp
theorem zrD(a b:Int)(c:0<=a/\a<=65535)(hb:0<=b/\b<=65535)(d:a/2048=30)(w:u):Δ ω 101 #[J Y a,J Y b] w λe w'=>e=μ (Ψ #[ac #[J Q 31,J Q 0,J Q 0,J Q 0,J Q 0],J Q 1])/\Below w.heap.size w w':=by
 obtain⟨f,g⟩:=c;go_enter func101,ntmps101;go_wp2;exact Ξ (v:=Ψ #[ac #[J Q 31,J Q 0,J Q 0,J Q 0,J Q 0],J Q 1]) (by simp[results,results101,go_sem]) D ⟨D,stA (aR _) _⟩
def rw0(w1:u)(k:Nat)(x:Int)(p:List UInt8)(a b:Int):u :=
 (w1.alloc (χ #[Ω (K.name k),Ω (K.has k),J Q (K.cyc k)] 231)).alloc (χ #[J Q x,J Q (fD p a),J Q (fS p a),J Q (fN p k a),J Q (fW p b)] 191)
theorem zze(w:u)(s:ByteArray)(i:Nat):w.iter s i=w.alloc (.stringIter s i):=rfl
theorem zqa(w:u)(B:Nat)(hB:B=w.heap.size)(s:ByteArray)(i:Nat)(c:UInt8)(hi:i<s.size)(hc:s[i]'hi=c)(a:c.toNat<128)(ty:TypeId):(Instr.next (.pointer (A ⟨B,0,G⟩)) Γ ty).run ω (w.alloc (.stringIter s i)) =
 .ok (Ψ #[ν Γ,J Q i,J .i32 c.toNat]) (w.alloc (.stringIter s (i+1))):=by
 subst hB;have:=run_next_ascii (P:=ω) w s i ty hi (by rw[hc];exact a);rw[hc] at this;exact this
theorem zA6(w:u)(B:Nat)(hB:B=w.heap.size)(s:ByteArray)(i:Nat)(hi:¬ i<s.size)(ty:TypeId):(Instr.next (.pointer (A ⟨B,0,G⟩)) Γ ty).run ω (w.alloc (.stringIter s i))=.ok (Ψ #[ν ξ]) (w.alloc (.stringIter s i)):=by
 subst hB;exact run_next_end (P:=ω) w s i ty hi
theorem AI(k j:Nat)(hi:j<(K.has k).size):(lets k)[j]?=A ((K.has k)[j]'hi):=by
 have h:j<(lets k).length:=hi;rw[aq h];rfl
theorem zzf(k j:Nat)(a:k<32)(hi:j<(K.has k).size):(K.has k)[j]'hi=100 \/ (K.has k)[j]'hi=115 \/ (K.has k)[j]'hi=110 \/ (K.has k)[j]'hi=119:=by
 have:=cx.1 (zzd k a) _ (bu (AI k j hi))
 simpa [or_assoc] using this
def posOf(w:u)(B:Nat):Nat:=match w.heap[B]? with|some (.stringIter _ i)=>i|_=>0
theorem xo(w:u)(B:Nat)(s:ByteArray)(i:Nat)(hB:B=w.heap.size):posOf (w.alloc (.stringIter s i)) B=i:=by
 subst hB;unfold posOf;rw[show (w.alloc (.stringIter s i)).heap[w.heap.size]?=A (.stringIter s i) from World.iter_heap w s i]
theorem AJ(w1:u)(k:Nat)(x:Int)(p:List UInt8)(a b:Int):w1.heap.size+1+1=(rw0 w1 k x p a b).heap.size:=by unfold rw0;simp
theorem zt2(k:Nat)(p:k<32)(H:k≠30)(a b:Int)(I:0<=a/\a<=65535)(hb:0<=b/\b<=65535)(M:a/2048=k)(w:u)(z:Facts w):Δ ω 101 #[J Y a,J Y b] w λe w'=>e=μ (Ψ #[ac #[J Q k,J Q (fD (lets k) a),J Q (fS (lets k) a),J Q (fN (lets k) k a),J Q (fW (lets k) b)],J Q (fL (lets k))])/\Below w.heap.size w w':=by
 obtain⟨N,P⟩:=I;obtain⟨B,E⟩:=hb;have F:((k:Int) == 30)=ξ:=by simp;omega
 have R:=hid z;have T:=zze;clear z;go_enter func101,ntmps101;go_wp2_with (go_at_call 142;refine(xn _ (R.out.kept (stA (aR _) _))).mono ?_;rintro e w1 ⟨g,U,rfl,q,V,W,h⟩;obtain⟨c0,c1,c2⟩:=q k p;have r:=rY h;clear q)
 go_loopw [10] (λL wr=>∃ j:Nat,j<=(lets k).length/\L=J Q (fL ((lets k).take j))/\wr=(rw0 w1 k k ((lets k).take j) a b).alloc (.stringIter (K.has k) j)) (λ_ wr=>(lets k).length-posOf wr (w1.heap.size+1+1))
 case atStart=>exact⟨0,by omega,D,D⟩
 case round =>
  obtain⟨j,X,rfl,rfl⟩:=hrel;by_cases s:j<(lets k).length
  ·have hi:j<(K.has k).size:=s
   rcases zzf k j p hi with hc|hc|hc|hc
   ·have c:(lets k)[j]?=A 100:=by rw[AI k j hi,hc]
    have f:=zqa (rw0 w1 k k ((lets k).take j) a b) (w1.heap.size+1+1) (AJ ..) (K.has k) j 100 hi hc (by decide);have d:=hid c;clear c hc;unfold rw0 at f ⊢;go_wp2;all_goals
     have i:=(zjS d.out a).trans (am (by decide));have l:=(zjT d.out a).trans (ae (by decide));have m:=((zjU d.out k a).trans (ae (by decide)))
     have n:=(zjV d.out b).trans (ae (by decide));have o:=(zjW d.out).trans (ae (by decide));refine⟨⟨j+1,by omega,by rw[o],by rw[i,l,m,n]⟩,?_⟩;rw[xo _ _ _ _ (by simp),xo _ _ _ _ (by simp)];omega
   ·have c:(lets k)[j]?=A 115:=by rw[AI k j hi,hc]
    have f:=zqa (rw0 w1 k k ((lets k).take j) a b) (w1.heap.size+1+1) (AJ ..) (K.has k) j 115 hi hc (by decide);have d:=hid c;clear c hc;unfold rw0 at f ⊢;go_wp2;all_goals
     have i:=(zjS d.out a).trans (ae (by decide));have l:=(zjT d.out a).trans (am (by decide));have m:=((zjU d.out k a).trans (ae (by decide)))
     have n:=(zjV d.out b).trans (ae (by decide));have o:=(zjW d.out).trans (ae (by decide));refine⟨⟨j+1,by omega,by rw[o],by rw[i,l,m,n]⟩,?_⟩;rw[xo _ _ _ _ (by simp),xo _ _ _ _ (by simp)];omega
   ·have c:(lets k)[j]?=A 110:=by rw[AI k j hi,hc]
    have f:=zqa (rw0 w1 k k ((lets k).take j) a b) (w1.heap.size+1+1) (AJ ..) (K.has k) j 110 hi hc (by decide);have d:=hid c;clear c hc;unfold rw0 at f ⊢;go_wp2;all_goals
     have i:=(zjS d.out a).trans (ae (by decide));have l:=(zjT d.out a).trans (ae (by decide));have m:=((zjU d.out k a).trans (am (by decide)))
     have n:=(zjV d.out b).trans (ae (by decide));have o:=(zjW d.out).trans (ae (by decide));have t:=m.trans (by first|exact Cg p (by assumption)|exact Ch p (by assumption)|exact Ci p (by assumption) (by assumption)|exact Cj p (by assumption) (by assumption));refine⟨⟨j+1,by omega,by rw[o],by rw[i,l,t,n]⟩,?_⟩;rw[xo _ _ _ _ (by simp),xo _ _ _ _ (by simp)];omega
   ·have c:(lets k)[j]?=A 119:=by rw[AI k j hi,hc]
    have f:=zqa (rw0 w1 k k ((lets k).take j) a b) (w1.heap.size+1+1) (AJ ..) (K.has k) j 119 hi hc (by decide);have d:=hid c;clear c hc;unfold rw0 at f ⊢;go_wp2;all_goals
     have i:=(zjS d.out a).trans (ae (by decide));have l:=(zjT d.out a).trans (ae (by decide));have m:=((zjU d.out k a).trans (ae (by decide)))
     have n:=(zjV d.out b).trans (am (by decide));have o:=(zjW d.out).trans (am (by decide));refine⟨⟨j+1,by omega,by rw[o],by rw[i,l,m,n]⟩,?_⟩;rw[xo _ _ _ _ (by simp),xo _ _ _ _ (by simp)];omega
  ·obtain rfl:j=(lets k).length:=by omega
   have f:=zA6 (rw0 w1 k k ((lets k).take (lets k).length) a b) (w1.heap.size+1+1) (AJ ..) (K.has k) (lets k).length (by rw[zt0];omega);obtain⟨r1,r2⟩:=wO h;have x:w.heap.size<w1.heap.size+1:=by omega
   have y:w.heap.size<w1.heap.size+1+1:=by omega
   rw[ja] at f ⊢;unfold rw0 at f ⊢;go_wp2;refine Ξ (v:=Ψ #[ac #[J Q k,J Q (fD (lets k) a),J Q (fS (lets k) a),J Q (fN (lets k) k a),J Q (fW (lets k) b)],J Q (fL (lets k))]) (by simp[results,results101,go_sem,r1,r,x,y]) D ⟨D,?_⟩;exact stA (stA (stA ((((((bw (stA (aR _) _) h).setCell (ψ _) _).setCell (ψ _) _).setCell (ψ _) _).setCell (ψ _) _).setCell (ψ _) _) _) _) _
theorem zgm(a b:Int)(g:0<=a/\a<=65535)(hb:0<=b/\b<=65535)(w:u)(j:Facts w):Δ ω 101 #[J Y a,J Y b] w λe w'=>e=μ (Ψ #[ac #[J Q (O.rOp a),J Q (O.rD a),J Q (O.rS a),J Q (O.rN a),J Q (O.rW a b)],J Q (O.rLen a)])/\Below w.heap.size w w':=by
 by_cases c:a/2048=30
 ·have d:O.rk a=31:=by unfold O.rk O.rOp;rw[am c];rfl
  have e:O.rD a=0/\O.rS a=0/\O.rN a=0/\O.rW a b=0/\O.rLen a=1:=by
   have h:O.hasC 31 100=ξ/\O.hasC 31 115=ξ/\O.hasC 31 110=ξ/\O.hasC 31 119=ξ:=by decide +kernel
   unfold O.rD O.rS O.rN O.rW O.rLen;rw[d,h.1,h.2.1,h.2.2.1,h.2.2.2];exact⟨D,D,D,D,D⟩
  have l:O.rOp a=31:=by unfold O.rOp;rw[am c]
  rw[l,e.1,e.2.1,e.2.2.1,e.2.2.2.1,e.2.2.2.2];exact zrD a b g hb c w
 ·obtain⟨k,i⟩:=aA (show 0<=a/2048 by omega)
  have d:O.rOp a=(k:Int):=by unfold O.rOp;rw[ae c,i]
  have f:O.rk a=k:=by unfold O.rk;rw[d];rfl
  unfold O.rD O.rS O.rN O.rW O.rLen;rw[f,d];exact zt2 k (by omega) (by omega) a b g hb i w j
end Go.Proofs.YthghjlinhokimaaGreatDoor
