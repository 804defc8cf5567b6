/-
  Parts of a proof, joined.
-/
import Derived.Test.YthghjlinhokimaaGreatDoorZbA
import Derived.Test.YthghjlinhokimaaGreatDoorZb21
import Derived.Test.YthghjlinhokimaaGreatDoorZb24
set_option linter.all false
set_option maxRecDepth 100000
set_option maxHeartbeats 1600000
open Option renaming none->G,some->A
open Go renaming World->u
open Go.Act renaming put->ag
open Go.Value renaming int->J,slice->κ,bool->ν
open Go.IntKind renaming i64->Q,u16->Y
open Go.Obj renaming cells->χ
namespace Go.Proofs.YthghjlinhokimaaGreatDoor
open Go.ChangeShapes Go.WideShapes Go.ChangeAt Go.RowKit Go.Proofs.Tryz
theorem Bu.loadG{P:Program}{ops:Array Oper}{rest:List Oper}{op:Oper}{a:Act}{w:u}{η:Exit->Act->u->Prop}(c:Region.wanted op (yielded ops a.tmps)=true)(ty:TypeId)(x:Operand)(e:op.op=.load ty x)
 (b o:Nat) (f:a.eval x=.pointer (A ⟨b,o,G⟩)) (cs:List Value) (d:TypeDesc) (hc:w.rangeAt b o cs)
 (g:P.underlying ty=A d) (i:d.isRow=true) (hi:(P.info? ty).map (·.size)=A cs.length)
 (h:wpList P ops η rest (a.put op.dst (.agg cs.toArray)) w):wpList P ops η (op::rest) a w :=
 wpList_step λK j=>by rw[am c];exact wp_load_mid ty x e b o f cs d hc g i hi (j _ _ h)
def pT(S1 a:Sl):List Value:=[S1.mr,a.mr,S1.ar,a.ar,S1.ra,a.ra,S1.ow,a.ow,S1.vi,a.vi]
theorem zw9(S1 a:Sl)(k:Nat)(b:k<5):(pT S1 a)[k*2]?=A (S1.get k)/\(pT S1 a)[k*2+1]?=A (a.get k):=by
 rcases five b with rfl|rfl|rfl|rfl|rfl <;> exact⟨D,D⟩
structure SM (w : u) (M : Mach) (S1 S2 : Sl) (ι : u) : Prop where
 low:Below w.heap.size w ι
 a:Bx ι w.heap.size (υ M S1)
 b:Bx ι (w.heap.size+1) (υ M S2)
 l:Bx ι (w.heap.size+2) (pT S1 S2)
theorem SM.kept{w ι Y':u}{M:Mach}{S1 c:Sl}(h:SM w M S1 c ι)(hb:Below ι.heap.size ι Y'):SM w M S1 c Y':=⟨bw h.low hb,h.a.kept hb,h.b.kept hb,h.l.kept hb⟩
theorem Bx.mainR{ι:u}{b:Nat}{M:Mach}{S:Sl}(h:Bx ι b (υ M S)):ι.rangeAt b 0 (bY M.main):=λi v hi=>by
 refine h.at (0+i) v ?_;rw[aX];unfold υ;rw[bc (ay.1 hi).1];exact hi
theorem Bx.auxR{ι:u}{b:Nat}{M:Mach}{S:Sl}(h:Bx ι b (υ M S)):ι.rangeAt b 15 (bY M.aux):=λi v hi=>by
 refine h.at (15+i) v ?_;unfold υ;have a:(bY M.main).length=15:=rfl;rw[aY (by omega),a,show 15+i-15=i by omega,bc (ay.1 hi).1];exact hi
theorem Bx.scl{ι:u}{b:Nat}{M:Mach}{S:Sl}(h:Bx ι b (υ M S)):ι.cell? ⟨b,35,G⟩=A (J .u8 M.p0.d)/\ι.cell? ⟨b,36,G⟩=A (ν M.p0.l)/\ι.cell? ⟨b,37,G⟩=A (J .u8 M.p0.s)/\ι.cell? ⟨b,38,G⟩=A (J .u8 M.p1.d)/\ι.cell? ⟨b,39,G⟩=A (ν M.p1.l)/\ι.cell? ⟨b,40,G⟩=A (J .u8 M.p1.s)/\ι.cell? ⟨b,41,G⟩=A (J Y M.t.r)/\ι.cell? ⟨b,42,G⟩=A (J Y M.t.c)/\ι.cell? ⟨b,43,G⟩=A (ν M.t.on)/\ι.cell? ⟨b,44,G⟩=A (ν M.t.g)/\ι.cell? ⟨b,61,G⟩=A (J Q M.b.l)/\ι.cell? ⟨b,62,G⟩=A (J Q M.b.a)/\ι.cell? ⟨b,63,G⟩=A (ν M.b.g)/\ι.cell? ⟨b,64,G⟩=A (J Q M.b.f)/\ι.cell? ⟨b,65,G⟩=A (J Y M.fr)/\ι.cell? ⟨b,66,G⟩=A (J Y M.to)/\ι.cell? ⟨b,67,G⟩=A (ν M.granted)/\ι.cell? ⟨b,68,G⟩=A (ν M.held)/\ι.cell? ⟨b,69,G⟩=A (J .u8 M.m0)/\ι.cell? ⟨b,70,G⟩=A (J .u8 M.m1)/\ι.cell? ⟨b,71,G⟩=A (ν M.rung)/\ι.cell? ⟨b,72,G⟩=A (J Q M.clock)/\ι.cell? ⟨b,73,G⟩=A (J Q M.mready)/\ι.cell? ⟨b,74,G⟩=A (J Q M.aready) :=
 ⟨h.at 35 _ rfl,h.at 36 _ rfl,h.at 37 _ rfl,h.at 38 _ rfl,h.at 39 _ rfl,h.at 40 _ rfl,h.at 41 _ rfl,h.at 42 _ rfl,h.at 43 _ rfl,h.at 44 _ rfl,h.at 61 _ rfl,h.at 62 _ rfl,h.at 63 _ rfl,h.at 64 _ rfl,h.at 65 _ rfl,h.at 66 _ rfl,h.at 67 _ rfl,h.at 68 _ rfl,h.at 69 _ rfl,h.at 70 _ rfl,h.at 71 _ rfl,h.at 72 _ rfl,h.at 73 _ rfl,h.at 74 _ rfl⟩
theorem SM.start(w:u)(M:Mach)(S1 a:Sl)(o1 o2 o3:TypeId):SM w M S1 a (((w.alloc (χ (υ M S1).toArray o1)).alloc (χ (υ M a).toArray o2)).alloc (χ (pT S1 a).toArray o3)) :=
 ⟨stA (stA (stA (aR w) _) _) _,((Bx.new w (υ M S1) o1 rfl).over _).over _,(Bx.new (w.alloc _) (υ M a) o2 (by simp)).over _,Bx.new _ (pT S1 a) o3 (by simp)⟩
theorem rv(M:Mach)(S1 h:Sl)(w:u)(h1:cf w S1 M)(h2:cf w h M):Calls prog 12 #[.agg (υ M S1).toArray,.agg (υ M h).toArray] w λe w'=>e=.returned (ν true)/\Below w.heap.size w w':=by
 have p:=(Bx.new w (υ M S1) 41 (b:=w.heap.size) D).over (χ (υ M h).toArray 41);have hB:=Bx.new (w.alloc (χ (υ M S1).toArray 41)) (υ M h) 41 (b:=w.heap.size+1) (by simp);obtain⟨a0,c0,q⟩:=h1.lens 0 (by omega);obtain⟨a1,c1,e1⟩:=h1.lens 1 (by omega);obtain⟨a2,c2,e2⟩:=h1.lens 2 (by omega);obtain⟨a3,c3,e3⟩:=h1.lens 3 (by omega);obtain⟨a4,c4,e4⟩:=h1.lens 4 (by omega);obtain⟨b0,d0,f0⟩:=h2.lens 0 (by omega);obtain⟨b1,d1,f1⟩:=h2.lens 1 (by omega);obtain⟨b2,d2,f2⟩:=h2.lens 2 (by omega);obtain⟨b3,d3,f3⟩:=h2.lens 3 (by omega);obtain⟨b4,d4,f4⟩:=h2.lens 4 (by omega);obtain⟨x0,x1,x2,x3,x4⟩:=ri p q e1 e2 e3 e4;obtain⟨y0,y1,y2,y3,y4⟩:=ri hB f0 f1 f2 f3 f4;have v:=p.z;have o:=hB.z;have x:Hid (pT S1 h=[κ a0 M.mrom.length c0,κ b0 M.mrom.length d0,κ a1 M.arom.length c1,κ b1 M.arom.length d1,κ a2 M.ram.length c2,κ b2 M.ram.length d2,κ a3 M.own.length c3,κ b3 M.own.length d3,κ a4 M.video.length c4,κ b4 M.video.length d4]):=hid (by
  unfold pT;have y:S1.mr=_:=q;have B:S1.ar=_:=e1;have E:S1.ra=_:=e2;have F:S1.ow=_:=e3;have H:S1.vi=_:=e4;have I:h.mr=_:=f0;have L:h.ar=_:=f1;have N:h.ra=_:=f2;have P:h.ow=_:=f3;have R:h.vi=_:=f4;rw[y,B,E,F,H,I,L,N,P,R];rfl)
 have Z:=hid h1;have H2:=hid h2;clear p hB q e1 e2 e3 e4 f0 f1 f2 f3 f4 h1 h2;go_enter func12,ntmps12;go_wp2;refine Pl.cutW (SM w M S1 h) (by have hs:=SM.start w M S1 h 41 41 98;rw[x.out] at hs;exact hs) ?_;intro ι hY;have HY:=hid hY;clear hY;go_loopw [34] (λi wr=>∃ k:Nat,k<=5/\i=J Q k/\SM w M S1 h wr) (λi _=>5-(intOf i).toNat)
 case atStart=>exact⟨0,by omega,D,HY.out⟩
 case round =>
  clear HY x0 x1 x2 x3 x4 y0 y1 y2 y3 y4 v o;obtain⟨k,hk,rfl,j⟩:=hrel;by_cases m:k<5
  ·have hlt2:(k:Int)<5:=by omega
   obtain⟨l1,l2⟩:=zw9 S1 h k m;obtain⟨u1,v1,g1⟩:=Z.out.lens k m;obtain⟨u2,v2,T⟩:=H2.out.lens k m;have m1:=j.l.at _ _ l1;have m2:=j.l.at _ _ l2;rw[g1] at m1;rw[T] at m2;have U:=Z.out k m;have V:=H2.out k m;rw[g1] at U;rw[T] at V;have W:=hid (U.kept j.low);have X:=hid (V.kept j.low);have v:=j.l.z;have n:=hid j;clear j l1 l2 g1 T U V x;go_wp2_with (go_at_call 38;refine(zlo _ _ (M.byt k) (M.byt k) _ (W.out.kept (stA (aR _) _)) (X.out.kept (stA (aR _) _))).mono ?_;rw[o9];rintro e w1 ⟨rfl,rfl⟩)
   go_roundw
   case rel=>exact⟨k+1,by omega,by go_num,n.out.kept (stA (aR _) _)⟩
   case measure=>simp[intOf];omega
  ·obtain rfl:k=5:=by omega
   have q1:=ziF M.main;have q2:=ziF M.aux;have q3:=zrT M.p0.d M.p0.s M.p1.d M.p1.s M.p0.l M.p1.l;have q4:=zoj M.t.r M.t.c M.t.on M.t.g;have q5:=zrR M.s;have q6:=zrS M.b.l M.b.a M.b.f M.b.g;have q7:=zrU M.m0 M.m1;obtain⟨p35,p36,p37,p38,p39,p40,p41,p42,p43,p44,p61,p62,p63,p64,p65,p66,p67,p68,p69,p70,p71,p72,p73,p74⟩:=j.a.scl;obtain⟨r35,r36,r37,r38,r39,r40,r41,r42,r43,r44,r61,r62,r63,r64,r65,r66,r67,r68,r69,r70,r71,r72,r73,r74⟩:=j.b.scl;have v:=j.a.z;have o:=j.b.z;have n:=hid j;clear j x;go_upto_region 7 with fail
   simp only[List.append];go_wp2_with (first
    | (refine wpList_load_mid D 25 _ D w.heap.size 0 D (bY M.main) _ n.out.a.mainR underlying25 D sX ?_)
    | (refine wpList_load_mid D 25 _ D (w.heap.size+1) 0 D (bY M.main) _ n.out.b.mainR underlying25 D sX ?_)
    | (refine Bu.loadG D 25 _ D w.heap.size 15 D (bY M.aux) _ n.out.a.auxR underlying25 D sX ?_)
    | (refine Bu.loadG D 25 _ D (w.heap.size+1) 15 D (bY M.aux) _ n.out.b.auxR underlying25 D sX ?_)
    | (refine Bu.loadG D 36 _ D w.heap.size 45 D (dq M.s) _ n.out.a.sndR underlying36 D nh ?_)
    | (refine Bu.loadG D 36 _ D (w.heap.size+1) 45 D (dq M.s) _ n.out.b.sndR underlying36 D nh ?_))
   go_ret;exact⟨D,n.out.low⟩
end Go.Proofs.YthghjlinhokimaaGreatDoor
