/-
  Parts of a proof, joined.
-/
import Derived.Test.YthghjlinhokimaaGreatDoorZbA
import Derived.Test.YthghjlinhokimaaGreatDoorZb34
set_option linter.all false
set_option maxRecDepth 100000
set_option maxHeartbeats 3200000
open Go.Act renaming put->ag
namespace Go.Proofs.YthghjlinhokimaaGreatDoor
open Go.ChangeShapes Go.WideShapes Go.ChangeAt Go.RowKit Go.Proofs.Tryz
section
variable {q : Qe} {w : World} {x : C.St Bst} {d e1 : Nat} {n v : Int}
theorem Co(R:QS q)(h:d<8)(i:e1<8):qi q w 0 ⟨#[110,111,112]⟩ d e1 n v x (C.act q.m ⟨x.c,x.s,K.cyc 0⟩ 0 d e1 n v):=by
 intro bo kb η f W a b;obtain⟨o0,o1,o2,o3,o4,k0,k1,k2,j,k,l⟩:=a.kcells;have o:=hid R;have e:=hid b;have g:=hid a;clear a b R;conv=>arg 2;whnf
 go_wp2;exact e.out _ _ _ ⟨D,D,D,D,D⟩ (g.out.cyc _)
theorem zA8(R:QS q)(p:d<8)(r:e1<8):qi q w 24 ⟨#[101,105]⟩ d e1 n v x (C.act q.m ⟨x.c,x.s,K.cyc 24⟩ 24 d e1 n v):=by
 intro bo kb η f W a b;obtain⟨o0,o1,o2,o3,o4,k0,k1,k2,t,y,z⟩:=a.kcells;have e:=hid R;have g:=hid b;have h:=hid a;obtain⟨B,E,i,j,k,l,o⟩:=a.cells;have F:=a.fz;clear a b R;conv=>arg 2;whnf
 go_wp2;exact g.out _ _ _ ⟨D,D,D,D,D⟩ ((h.out.putMay e.out true).cyc _)
theorem zA9(R:QS q)(p:d<8)(r:e1<8):qi q w 25 ⟨#[100,105]⟩ d e1 n v x (C.act q.m ⟨x.c,x.s,K.cyc 25⟩ 25 d e1 n v):=by
 intro bo kb η f W a b;obtain⟨o0,o1,o2,o3,o4,k0,k1,k2,t,y,z⟩:=a.kcells;have e:=hid R;have g:=hid b;have h:=hid a;obtain⟨B,E,i,j,k,l,o⟩:=a.cells;have F:=a.fz;clear a b R;conv=>arg 2;whnf
 go_wp2;exact g.out _ _ _ ⟨D,D,D,D,D⟩ ((h.out.putMay e.out false).cyc _)
theorem zBa(R:QS q)(p:d<8)(r:e1<8):qi q w 27 ⟨#[104,108,116]⟩ d e1 n v x (C.act q.m ⟨x.c,x.s,K.cyc 27⟩ 27 d e1 n v):=by
 intro bo kb η f W a b;obtain⟨o0,o1,o2,o3,o4,k0,k1,k2,t,y,z⟩:=a.kcells;have e:=hid R;have g:=hid b;have h:=hid a;obtain⟨B,E,i,j,k,l,o⟩:=a.cells;have F:=a.fz;clear a b R;conv=>arg 2;whnf
 go_wp2;exact g.out _ _ _ ⟨D,D,D,D,D⟩ ((h.out.putWaits e.out true).cyc _)
theorem Cp(R:QS q)(j:d<8)(t:e1<8):qi q w 1 ⟨#[109,111,118]⟩ d e1 n v x (C.act q.m ⟨x.c,x.s,K.cyc 1⟩ 1 d e1 n v):=by
 intro bo kb η f W a i;obtain⟨o0,o1,o2,o3,o4,k0,k1,k2,y,z,B⟩:=a.kcells;have k:=hid R;have l:=hid i;have o:=hid a;obtain⟨b,g⟩:=C.Cpu.r_bd a.ok e1;clear a i R;conv=>arg 2;whnf
 go_wp2_with (first
  | (go_at_call 143;refine(xl k.out (x.c.r e1) b g d j bo o.out o1).mono ?_;rintro e E ⟨rfl,h⟩;have p:=hid h))
 exact l.out _ _ _ ⟨D,D,D,D,D⟩ (p.out.cyc _)
theorem Cq(R:QS q)(i:d<8)(r:e1<8)(g:0<=v/\v<=65535):qi q w 2 ⟨#[108,100,105]⟩ d e1 n v x (C.act q.m ⟨x.c,x.s,K.cyc 2⟩ 2 d e1 n v):=by
 intro bo kb η f W a h;obtain⟨o0,o1,o2,o3,o4,k0,k1,k2,t,y,z⟩:=a.kcells;have j:=hid R;have k:=hid h;have l:=hid a;have o:IntKind.u16.wrap v=v:=by rw[iu];omega
 clear a h R;conv=>arg 2;whnf
 go_wp2_with (first
  | (go_at_call 143;refine(xl j.out v g.1 g.2 d i bo l.out o1).mono ?_;rintro e B ⟨rfl,b⟩;have p:=hid b))
 exact k.out _ _ _ ⟨D,D,D,D,D⟩ (p.out.cyc _)
theorem Cr(R:QS q)(t:d<8)(E:e1<8):qi q w 3 ⟨#[108,100]⟩ d e1 n v x (C.act q.m ⟨x.c,x.s,K.cyc 3⟩ 3 d e1 n v):=by
 intro bo kb η f W a o;obtain⟨o0,o1,o2,o3,o4,k0,k1,k2,F,H,I⟩:=a.kcells;have h:=hid R;have y:=hid o;have p:=hid a;obtain⟨i,j⟩:=R.word x.s ((x.c.r e1+n)%65536);obtain⟨m0,m1⟩:=a.mem;have z:=a.lt;clear a o R;conv=>arg 2;whnf
 go_wp2_with (first
  | (go_at_call 86;refine(AG h.out ((x.c.r e1+n)%65536) (by omega) (by omega) _ x.s p.out.inv).mono ?_;rintro e L ⟨rfl,b,g⟩;have KM:=hid (p.out.moved h.out b g);obtain⟨_,k,_⟩:=KM.out.kcells;clear b g)
  | (go_at_call 143;refine(xl h.out _ i j d t bo KM.out k).mono ?_;rintro e M ⟨rfl,l⟩;have B:=hid l))
 exact y.out _ _ _ ⟨D,D,D,D,D⟩ (B.out.cyc _)
theorem Cu(R:QS q)(B:d<8)(E:e1<8)(b:2<=q.m.fuel x.s):qi q w 4 ⟨#[115,116]⟩ d e1 n v x (C.act q.m ⟨x.c,x.s,K.cyc 4⟩ 4 d e1 n v):=by
 intro bo kb η f W a l;obtain⟨o0,o1,o2,o3,o4,k0,k1,k2,F,H,I⟩:=a.kcells;have o:=hid R;have t:=hid l;have p:=hid a;obtain⟨i,j⟩:=C.Cpu.r_bd a.ok e1;obtain⟨m0,m1⟩:=a.mem;have y:=a.lt;have k:=hid b;clear a l R b;conv=>arg 2;whnf
 go_wp2_with (first
  | (go_at_call 138;refine(zp9 o.out ((x.c.r d+n)%65536) _ (by omega) (by omega) i j _ x.s k.out p.out.inv).mono ?_;rintro e L ⟨rfl,g,h⟩;have z:=hid (p.out.moved o.out g h);clear g h))
 exact t.out _ _ _ ⟨D,D,D,D,D⟩ (z.out.cyc _)
theorem Cv(R:QS q)(t:d<8)(H:e1<8):qi q w 5 ⟨#[108,100,98]⟩ d e1 n v x (C.act q.m ⟨x.c,x.s,K.cyc 5⟩ 5 d e1 n v):=by
 intro bo kb η f W a o;obtain⟨o0,o1,o2,o3,o4,k0,k1,k2,I,L,M⟩:=a.kcells;have h:=hid R;have y:=hid o;have p:=hid a;obtain⟨i,z⟩:=R.byte x.s ((x.c.r e1+n)%65536);have j:(q.m.rd x.s ((x.c.r e1+n)%65536)).1<=65535:=by omega
 have B:IntKind.u16.wrap (q.m.rd x.s ((x.c.r e1+n)%65536)).1=(q.m.rd x.s ((x.c.r e1+n)%65536)).1:=by rw[iu];omega
 obtain⟨m0,m1⟩:=a.mem;have E:=a.lt;have eg:=R.eg;clear a o R;conv=>arg 2;whnf
 go_wp2_with (first
  | (go_at_call 143;refine(xl h.out _ i j d t bo KM.out k).mono ?_;rintro e N ⟨rfl,l⟩;have F:=hid l)
  | (refine(h.out.get _ x.s ((x.c.r e1+n)%65536) (by omega) (by omega) p.out.inv).mono ?_;rintro e P ⟨rfl,b,g⟩;have KM:=hid (p.out.moved h.out b g);obtain⟨_,k,_⟩:=KM.out.kcells;clear b g))
 exact y.out _ _ _ ⟨D,D,D,D,D⟩ (F.out.cyc _)
theorem Cw(R:QS q)(F:d<8)(H:e1<8)(b:1<=q.m.fuel x.s):qi q w 6 ⟨#[115,116,98]⟩ d e1 n v x (C.act q.m ⟨x.c,x.s,K.cyc 6⟩ 6 d e1 n v):=by
 intro bo kb η f W a k;obtain⟨o0,o1,o2,o3,o4,k0,k1,k2,I,L,M⟩:=a.kcells;have l:=hid R;have p:=hid k;have o:=hid a;obtain⟨i,t⟩:=C.Cpu.r_bd a.ok e1;have y:IntKind.u16.wrap ((x.c.r e1).tmod 256)=x.c.r e1%256:=by rw[ak i,iu];omega
 have z:IntKind.u8.wrap (x.c.r e1%256)=x.c.r e1%256:=by rw[jx];omega
 obtain⟨m0,m1⟩:=a.mem;have B:=a.lt;have j:=hid b;have ep:=R.ep;clear a k R b;conv=>arg 2;whnf
 go_wp2_with (first
  | (refine(l.out.put _ x.s ((x.c.r d+n)%65536) (x.c.r e1%256) (by omega) (by omega) (by omega) (by omega) j.out o.out.inv).mono ?_;rintro e N ⟨rfl,g,h⟩;have E:=hid (o.out.moved l.out g h);clear g h))
 exact p.out _ _ _ ⟨D,D,D,D,D⟩ (E.out.cyc _)
theorem zBb(R:QS q)(I:d<8)(L:e1<8)(b:2<=q.m.fuel x.s)(j:0<=v/\v<=65535):qi q w 20 ⟨#[99,97,108,108]⟩ d e1 n v x (C.act q.m ⟨x.c,x.s,K.cyc 20⟩ 20 d e1 n v):=by
 intro bo kb η f W a k;obtain⟨o0,o1,o2,o3,o4,k0,k1,k2,M,N,P⟩:=a.kcells;have l:=hid R;have o:=hid k;have r:=hid a;obtain⟨T,_⟩:=a.cells;have g:=a.ok.2.2;have t:W.cell? ⟨w.heap.size+1+1+1,0,none⟩=some (xk w.heap.size (w.heap.size+1)):=Lib.cell_of_heap a.p 0;have y:IntKind.u16.wrap v=v:=by rw[iu];omega
 have z:=a.lt;have i:=hid b;clear a k R b;conv=>arg 2;whnf
 go_wp2_with (first
  | (go_at_call 137;refine(zeD l.out x.c.PC g.1 g.2 i.out r.out).mono ?_;rintro e U ⟨rfl,h⟩;have KM:=hid h;obtain⟨_,_,_,_,B,_,_,_,E,_⟩:=KM.out.kcells;obtain⟨V,_⟩:=KM.out.cells;have F:=KM.out.fz;have z5:=KM.out.lt;have H:=hid (KM.out.putPC l.out v j.1 j.2);clear h))
 exact o.out _ _ _ ⟨D,D,D,D,D⟩ (H.out.cyc _)
theorem zBc(R:QS q)(p:d<8)(t:e1<8):qi q w 21 ⟨#[114,101,116]⟩ d e1 n v x (C.act q.m ⟨x.c,x.s,K.cyc 21⟩ 21 d e1 n v):=by
 intro bo kb η f W b h;obtain⟨o0,o1,o2,o3,o4,k0,k1,k2,y,z,B⟩:=b.kcells;have g:=hid R;have i:=hid h;have j:=hid b;have k:=b.lt;clear b h R;conv=>arg 2;whnf
 go_wp2_with (first
  | (go_at_call 139;refine(zfR g.out j.out).mono ?_;rintro e E ⟨rfl,a⟩;have KM:=hid a;obtain⟨F,_⟩:=KM.out.cells;have l:=KM.out.fz;have z5:=KM.out.lt;have o:=hid (KM.out.putPC g.out (C.popV q.m x) (g.out.word x.s (x.c.r 7)).1 (g.out.word x.s (x.c.r 7)).2);clear a))
 exact i.out _ _ _ ⟨D,D,D,D,D⟩ (o.out.cyc _)
theorem zBd(R:QS q)(E:d<8)(F:e1<8)(b:2<=q.m.fuel x.s):qi q w 22 ⟨#[112,117,115,104]⟩ d e1 n v x (C.act q.m ⟨x.c,x.s,K.cyc 22⟩ 22 d e1 n v):=by
 intro bo kb η f W a k;obtain⟨o0,o1,o2,o3,o4,k0,k1,k2,H,I,L⟩:=a.kcells;have l:=hid R;have o:=hid k;have t:=hid a;obtain⟨h,i⟩:=C.Cpu.r_bd a.ok e1;have y:W.cell? ⟨w.heap.size+1+1+1,0,none⟩=some (xk w.heap.size (w.heap.size+1)):=Lib.cell_of_heap a.p 0;have z:=a.lt;have j:=hid b;clear a k R b;conv=>arg 2;whnf
 go_wp2_with (first
  | (go_at_call 137;refine(zeD l.out (x.c.r e1) h i j.out t.out).mono ?_;rintro e M ⟨rfl,g⟩;have B:=hid g;clear g))
 exact o.out _ _ _ ⟨D,D,D,D,D⟩ (B.out.cyc _)
theorem zBe(R:QS q)(k:d<8)(y:e1<8):qi q w 23 ⟨#[112,111,112]⟩ d e1 n v x (C.act q.m ⟨x.c,x.s,K.cyc 23⟩ 23 d e1 n v):=by
 intro bo kb η f W b j;obtain⟨o0,o1,o2,o3,o4,k0,k1,k2,z,B,E⟩:=b.kcells;have g:=hid R;have l:=hid j;have o:=hid b;have p:=b.lt;clear b j R;conv=>arg 2;whnf
 go_wp2_with (first
  | (go_at_call 139;refine(zfR g.out o.out).mono ?_;rintro e F ⟨rfl,a⟩;have KM:=hid a;obtain⟨_,h,_⟩:=KM.out.kcells;clear a)
  | (go_at_call 143;refine(xl g.out (C.popV q.m x) (g.out.word x.s (x.c.r 7)).1 (g.out.word x.s (x.c.r 7)).2 d k bo KM.out h).mono ?_;rintro e H ⟨rfl,i⟩;have t:=hid i))
 exact l.out _ _ _ ⟨D,D,D,D,D⟩ (t.out.cyc _)
theorem zBf(R:QS q)(r:d<8)(t:e1<8)(a:4<=q.m.fuel x.s):qi q w 31 ⟨#[116,114,97,112]⟩ d e1 n v x (C.act q.m ⟨x.c,x.s,K.cyc 31⟩ 31 d e1 n v):=by
 intro bo kb η f W g i;obtain⟨o0,o1,o2,o3,o4,k0,k1,k2,y,z,B⟩:=g.kcells;have j:=hid R;have k:=hid i;have l:=hid g;have o:=g.lt;have h:=hid a;clear g i R a;conv=>arg 2;whnf
 go_wp2_with (first
  | (go_at_call 140;refine(ziw j.out 4 (by decide) (by decide) h.out l.out).mono ?_;rintro e E ⟨rfl,b⟩;have p:=hid b;clear b))
 exact k.out _ _ _ ⟨D,D,D,D,D⟩ (p.out.cyc _)
end
end Go.Proofs.YthghjlinhokimaaGreatDoor
