/-
  Parts of a proof, joined.
-/
import Derived.Test.YthghjlinhokimaaGreatDoorZcA
import Derived.Test.YthghjlinhokimaaGreatDoorZc21
import Derived.Test.YthghjlinhokimaaGreatDoorZc24
set_option linter.all false
set_option maxRecDepth 100000
set_option maxHeartbeats 1600000
namespace Go.Proofs.YthghjlinhokimaaGreatDoor
open Go.ChangeShapes Go.WideShapes Go.ChangeAt Go.RowKit Go.Proofs.Tryz
theorem Bu.loadG{P:Program}{ops:Array Oper}{rest:List Oper}{op:Oper}{a:Act}{w:World}{aj:Exit->Act->World->Prop}(c:Region.wanted op (yielded ops a.tmps)=true)(ty:TypeId)(x:Operand)(e:op.op=.load ty x)
 (b o:Nat) (f:a.eval x=.pointer (some ⟨b,o,none⟩)) (cs:List Value) (d:TypeDesc) (hc:w.rangeAt b o cs)
 (g:P.underlying ty=some d) (i:d.isRow=true) (hi:(P.info? ty).map (·.size)=some cs.length)
 (h:wpList P ops aj rest (a.put op.dst (.agg cs.toArray)) w):wpList P ops aj (op::rest) a w :=
 wpList_step λK j=>by rw[Q c];exact wp_load_mid ty x e b o f cs d hc g i hi (j _ _ h)
def lz(S1 a:Sl):List Value:=[S1.mr,a.mr,S1.ar,a.ar,S1.ra,a.ra,S1.ow,a.ow,S1.vi,a.vi]
theorem zum(S1 a:Sl)(k:Nat)(b:k<5):(lz S1 a)[k*2]?=some (S1.get k)/\(lz S1 a)[k*2+1]?=some (a.get k):=by
 rcases five b with rfl|rfl|rfl|rfl|rfl <;> exact⟨U,U⟩
structure SM (w : World) (M : Mach) (S1 S2 : Sl) (Y : World) : Prop where
 low:Below w.heap.size w Y
 a:Bx Y w.heap.size (D M S1)
 b:Bx Y (w.heap.size+1) (D M S2)
 l:Bx Y (w.heap.size+2) (lz S1 S2)
theorem SM.kept{w Y Y':World}{M:Mach}{S1 c:Sl}(h:SM w M S1 c Y)(hb:Below Y.heap.size Y Y'):SM w M S1 c Y':=⟨bn h.low hb,h.a.kept hb,h.b.kept hb,h.l.kept hb⟩
theorem Bx.mainR{Y:World}{b:Nat}{M:Mach}{S:Sl}(h:Bx Y b (D M S)):Y.rangeAt b 0 (bG M.main):=λi v hi=>by
 refine h.at (0+i) v ?_;rw[aN];unfold D;rw[aR (aA.1 hi).1];exact hi
theorem Bx.auxR{Y:World}{b:Nat}{M:Mach}{S:Sl}(h:Bx Y b (D M S)):Y.rangeAt b 15 (bG M.aux):=λi v hi=>by
 refine h.at (15+i) v ?_;unfold D;have a:(bG M.main).length=15:=rfl;rw[aO (by omega),a,show 15+i-15=i by omega,aR (aA.1 hi).1];exact hi
theorem Bx.scl{Y:World}{b:Nat}{M:Mach}{S:Sl}(h:Bx Y b (D M S)):Y.cell? ⟨b,35,none⟩=some (.int .u8 M.p0.d)/\Y.cell? ⟨b,36,none⟩=some (.bool M.p0.l)/\Y.cell? ⟨b,37,none⟩=some (.int .u8 M.p0.s)/\Y.cell? ⟨b,38,none⟩=some (.int .u8 M.p1.d)/\Y.cell? ⟨b,39,none⟩=some (.bool M.p1.l)/\Y.cell? ⟨b,40,none⟩=some (.int .u8 M.p1.s)/\Y.cell? ⟨b,41,none⟩=some (.int .u16 M.t.r)/\Y.cell? ⟨b,42,none⟩=some (.int .u16 M.t.c)/\Y.cell? ⟨b,43,none⟩=some (.bool M.t.on)/\Y.cell? ⟨b,44,none⟩=some (.bool M.t.g)/\Y.cell? ⟨b,61,none⟩=some (.int .i64 M.b.l)/\Y.cell? ⟨b,62,none⟩=some (.int .i64 M.b.a)/\Y.cell? ⟨b,63,none⟩=some (.bool M.b.g)/\Y.cell? ⟨b,64,none⟩=some (.int .i64 M.b.f)/\Y.cell? ⟨b,65,none⟩=some (.int .u16 M.fr)/\Y.cell? ⟨b,66,none⟩=some (.int .u16 M.to)/\Y.cell? ⟨b,67,none⟩=some (.bool M.granted)/\Y.cell? ⟨b,68,none⟩=some (.bool M.held)/\Y.cell? ⟨b,69,none⟩=some (.int .u8 M.m0)/\Y.cell? ⟨b,70,none⟩=some (.int .u8 M.m1)/\Y.cell? ⟨b,71,none⟩=some (.bool M.rung)/\Y.cell? ⟨b,72,none⟩=some (.int .i64 M.clock)/\Y.cell? ⟨b,73,none⟩=some (.int .i64 M.mready)/\Y.cell? ⟨b,74,none⟩=some (.int .i64 M.aready) :=
 ⟨h.at 35 _ rfl,h.at 36 _ rfl,h.at 37 _ rfl,h.at 38 _ rfl,h.at 39 _ rfl,h.at 40 _ rfl,h.at 41 _ rfl,h.at 42 _ rfl,h.at 43 _ rfl,h.at 44 _ rfl,h.at 61 _ rfl,h.at 62 _ rfl,h.at 63 _ rfl,h.at 64 _ rfl,h.at 65 _ rfl,h.at 66 _ rfl,h.at 67 _ rfl,h.at 68 _ rfl,h.at 69 _ rfl,h.at 70 _ rfl,h.at 71 _ rfl,h.at 72 _ rfl,h.at 73 _ rfl,h.at 74 _ rfl⟩
theorem SM.start(w:World)(M:Mach)(S1 a:Sl)(o1 o2 b:TypeId):SM w M S1 a (((w.alloc (.cells (D M S1).toArray o1)).alloc (.cells (D M a).toArray o2)).alloc (.cells (lz S1 a).toArray b)) :=
 ⟨stA (stA (stA (J w) _) _) _,((Bx.new w (D M S1) o1 rfl).over _).over _,(Bx.new (w.alloc _) (D M a) o2 (by simp)).over _,Bx.new _ (lz S1 a) b (by simp)⟩
theorem oB(M:Mach)(S1 h:Sl)(w:World)(h1:bM w S1 M)(h2:bM w h M):Calls prog 12 #[.agg (D M S1).toArray,.agg (D M h).toArray] w λe w'=>e=.returned (.bool true)/\Below w.heap.size w w':=by
 have p:=(Bx.new w (D M S1) 41 (b:=w.heap.size) U).over (.cells (D M h).toArray 41);have hB:=Bx.new (w.alloc (.cells (D M S1).toArray 41)) (D M h) 41 (b:=w.heap.size+1) (by simp);obtain⟨a0,c0,q⟩:=h1.lens 0 (by omega);obtain⟨a1,c1,e1⟩:=h1.lens 1 (by omega);obtain⟨a2,c2,e2⟩:=h1.lens 2 (by omega);obtain⟨a3,c3,e3⟩:=h1.lens 3 (by omega);obtain⟨a4,c4,e4⟩:=h1.lens 4 (by omega);obtain⟨b0,d0,f0⟩:=h2.lens 0 (by omega);obtain⟨b1,d1,f1⟩:=h2.lens 1 (by omega);obtain⟨b2,d2,f2⟩:=h2.lens 2 (by omega);obtain⟨b3,d3,f3⟩:=h2.lens 3 (by omega);obtain⟨b4,d4,f4⟩:=h2.lens 4 (by omega);obtain⟨x0,x1,x2,x3,x4⟩:=mw p q e1 e2 e3 e4;obtain⟨y0,y1,y2,y3,y4⟩:=mw hB f0 f1 f2 f3 f4;have u:=p.z;have o:=hB.z
 have v:Hid (lz S1 h=[.slice a0 M.mrom.length c0,.slice b0 M.mrom.length d0,.slice a1 M.arom.length c1,.slice b1 M.arom.length d1,.slice a2 M.ram.length c2,.slice b2 M.ram.length d2,.slice a3 M.own.length c3,.slice b3 M.own.length d3,.slice a4 M.video.length c4,.slice b4 M.video.length d4]):=hid (by
  unfold lz;have x:S1.mr=_:=q;have y:S1.ar=_:=e1;have B:S1.ra=_:=e2;have E:S1.ow=_:=e3;have F:S1.vi=_:=e4;have H:h.mr=_:=f0;have I:h.ar=_:=f1;have L:h.ra=_:=f2;have N:h.ow=_:=f3;have P:h.vi=_:=f4;rw[x,y,B,E,F,H,I,L,N,P];rfl)
 have Z:=hid h1;have H2:=hid h2;clear p hB q e1 e2 e3 e4 f0 f1 f2 f3 f4 h1 h2;go_enter func12,ntmps12;go_wp2;refine Pl.cutW (SM w M S1 h) (by have hs:=SM.start w M S1 h 41 41 98;rw[v.out] at hs;exact hs) ?_;intro Y hY;have HY:=hid hY;clear hY;go_loopw [34] (λi wr=>∃ k:Nat,k<=5/\i=.int .i64 k/\SM w M S1 h wr) (λi _=>5-(intOf i).toNat)
 case atStart=>exact⟨0,by omega,U,HY.out⟩
 case round =>
  clear HY x0 x1 x2 x3 x4 y0 y1 y2 y3 y4 u o;obtain⟨k,hk,rfl,j⟩:=hrel;by_cases m:k<5
  ·have hlt2:(k:Int)<5:=by omega
   obtain⟨l1,l2⟩:=zum S1 h k m;obtain⟨u1,v1,g1⟩:=Z.out.lens k m;obtain⟨u2,v2,R⟩:=H2.out.lens k m;have m1:=j.l.at _ _ l1;have m2:=j.l.at _ _ l2;rw[g1] at m1;rw[R] at m2;have T:=Z.out k m;have V:=H2.out k m;rw[g1] at T;rw[R] at V;have W:=hid (T.kept j.low);have X:=hid (V.kept j.low);have u:=j.l.z;have n:=hid j;clear j l1 l2 g1 R T V v;go_wp2_with (go_at_call 38;refine(zjB _ _ (M.byt k) (M.byt k) _ (W.out.kept (stA (J _) _)) (X.out.kept (stA (J _) _))).mono ?_;rw[kQ];rintro e w1 ⟨rfl,rfl⟩)
   go_roundw
   case rel=>exact⟨k+1,by omega,by go_num,n.out.kept (stA (J _) _)⟩
   case measure=>simp[intOf];omega
  ·obtain rfl:k=5:=by omega
   have q1:=zhn M.main;have q2:=zhn M.aux;have q3:=zpi M.p0.d M.p0.s M.p1.d M.p1.s M.p0.l M.p1.l;have q4:=zmb M.t.r M.t.c M.t.on M.t.g;have q5:=zpg M.s;have q6:=zph M.b.l M.b.a M.b.f M.b.g;have q7:=zpj M.m0 M.m1;obtain⟨p35,p36,p37,p38,p39,p40,p41,p42,p43,p44,p61,p62,p63,p64,p65,p66,p67,p68,p69,p70,p71,p72,p73,p74⟩:=j.a.scl;obtain⟨r35,r36,r37,r38,r39,r40,r41,r42,r43,r44,r61,r62,r63,r64,r65,r66,r67,r68,r69,r70,r71,r72,r73,r74⟩:=j.b.scl;have u:=j.a.z;have o:=j.b.z;have n:=hid j;clear j v;go_upto_region 7 with fail
   simp only[List.append];go_wp2_with (first
    | (refine wpList_load_mid U 25 _ U w.heap.size 0 U (bG M.main) _ n.out.a.mainR underlying25 U nU ?_)
    | (refine wpList_load_mid U 25 _ U (w.heap.size+1) 0 U (bG M.main) _ n.out.b.mainR underlying25 U nU ?_)
    | (refine Bu.loadG U 25 _ U w.heap.size 15 U (bG M.aux) _ n.out.a.auxR underlying25 U nU ?_)
    | (refine Bu.loadG U 25 _ U (w.heap.size+1) 15 U (bG M.aux) _ n.out.b.auxR underlying25 U nU ?_)
    | (refine Bu.loadG U 36 _ U w.heap.size 45 U (dA M.s) _ n.out.a.sndR underlying36 U kJ ?_)
    | (refine Bu.loadG U 36 _ U (w.heap.size+1) 45 U (dA M.s) _ n.out.b.sndR underlying36 U kJ ?_))
   go_ret;exact⟨U,n.out.low⟩
end Go.Proofs.YthghjlinhokimaaGreatDoor
