/-
  Parts of a proof, joined.
-/
import Derived.Test.YthghjlinhokimaaGreatDoorZcA
import Derived.Test.YthghjlinhokimaaGreatDoorZc34
set_option linter.all false
set_option maxRecDepth 100000
set_option maxHeartbeats 3200000
namespace Go.Proofs.YthghjlinhokimaaGreatDoor
open Go.ChangeShapes Go.WideShapes Go.ChangeAt Go.RowKit Go.Proofs.Tryz
section
variable {q : Qe} {w : World} {x : C.St Bst} {d e1 : Nat} {n v : Int}
theorem wX(R:QS q)(h:d<8)(i:e1<8):lH q w 0 ⟨#[110,111,112]⟩ d e1 n v x (C.act q.m ⟨x.c,x.s,K.cyc 0⟩ 0 d e1 n v):=by
 intro bo kb aj f W a b;obtain⟨j,o1,o2,k,l,o,p,r,t,u,y⟩:=a.kcells;have z:=hid R;have e:=hid b;have g:=hid a;clear a b R;conv=>arg 2;whnf
 go_wp2;exact e.out _ _ _ ⟨U,U,U,U,U⟩ (g.out.cyc _)
theorem zx2(R:QS q)(p:d<8)(r:e1<8):lH q w 24 ⟨#[101,105]⟩ d e1 n v x (C.act q.m ⟨x.c,x.s,K.cyc 24⟩ 24 d e1 n v):=by
 intro bo kb aj f W a b;obtain⟨t,o1,o2,u,y,z,B,E,F,H,I⟩:=a.kcells;have e:=hid R;have g:=hid b;have h:=hid a;obtain⟨L,M,i,j,k,l,o⟩:=a.cells;have N:=a.fz;clear a b R;conv=>arg 2;whnf
 go_wp2;exact g.out _ _ _ ⟨U,U,U,U,U⟩ ((h.out.putMay e.out true).cyc _)
theorem zx3(R:QS q)(p:d<8)(r:e1<8):lH q w 25 ⟨#[100,105]⟩ d e1 n v x (C.act q.m ⟨x.c,x.s,K.cyc 25⟩ 25 d e1 n v):=by
 intro bo kb aj f W a b;obtain⟨t,o1,o2,u,y,z,B,E,F,H,I⟩:=a.kcells;have e:=hid R;have g:=hid b;have h:=hid a;obtain⟨L,M,i,j,k,l,o⟩:=a.cells;have N:=a.fz;clear a b R;conv=>arg 2;whnf
 go_wp2;exact g.out _ _ _ ⟨U,U,U,U,U⟩ ((h.out.putMay e.out false).cyc _)
theorem zx4(R:QS q)(p:d<8)(r:e1<8):lH q w 27 ⟨#[104,108,116]⟩ d e1 n v x (C.act q.m ⟨x.c,x.s,K.cyc 27⟩ 27 d e1 n v):=by
 intro bo kb aj f W a b;obtain⟨t,o1,o2,u,y,z,B,E,F,H,I⟩:=a.kcells;have e:=hid R;have g:=hid b;have h:=hid a;obtain⟨L,M,i,j,k,l,o⟩:=a.cells;have N:=a.fz;clear a b R;conv=>arg 2;whnf
 go_wp2;exact g.out _ _ _ ⟨U,U,U,U,U⟩ ((h.out.putWaits e.out true).cyc _)
theorem wY(R:QS q)(j:d<8)(t:e1<8):lH q w 1 ⟨#[109,111,118]⟩ d e1 n v x (C.act q.m ⟨x.c,x.s,K.cyc 1⟩ 1 d e1 n v):=by
 intro bo kb aj f W a i;obtain⟨u,o1,o2,y,z,B,E,F,H,I,L⟩:=a.kcells;have k:=hid R;have l:=hid i;have o:=hid a;obtain⟨b,g⟩:=C.Cpu.r_bd a.ok e1;clear a i R;conv=>arg 2;whnf
 go_wp2_with (first
  | (go_at_call 143;refine(qr k.out (x.c.r e1) b g d j bo o.out o1).mono ?_;rintro e M ⟨rfl,h⟩;have p:=hid h))
 exact l.out _ _ _ ⟨U,U,U,U,U⟩ (p.out.cyc _)
theorem wZ(R:QS q)(i:d<8)(r:e1<8)(g:0<=v/\v<=65535):lH q w 2 ⟨#[108,100,105]⟩ d e1 n v x (C.act q.m ⟨x.c,x.s,K.cyc 2⟩ 2 d e1 n v):=by
 intro bo kb aj f W a h;obtain⟨t,o1,o2,u,y,z,B,E,F,H,I⟩:=a.kcells;have j:=hid R;have k:=hid h;have l:=hid a;have o:IntKind.u16.wrap v=v:=by rw[eh];omega
 clear a h R;conv=>arg 2;whnf
 go_wp2_with (first
  | (go_at_call 143;refine(qr j.out v g.1 g.2 d i bo l.out o1).mono ?_;rintro e L ⟨rfl,b⟩;have p:=hid b))
 exact k.out _ _ _ ⟨U,U,U,U,U⟩ (p.out.cyc _)
theorem xa(R:QS q)(t:d<8)(B:e1<8):lH q w 3 ⟨#[108,100]⟩ d e1 n v x (C.act q.m ⟨x.c,x.s,K.cyc 3⟩ 3 d e1 n v):=by
 intro bo kb aj f W a o;obtain⟨E,o1,o2,F,H,I,L,M,N,P,T⟩:=a.kcells;have h:=hid R;have u:=hid o;have p:=hid a;obtain⟨i,j⟩:=R.word x.s ((x.c.r e1+n)%65536);obtain⟨m0,m1⟩:=a.mem;have y:=a.lt;clear a o R;conv=>arg 2;whnf
 go_wp2_with (first
  | (go_at_call 86;refine(tP h.out ((x.c.r e1+n)%65536) (by omega) (by omega) _ x.s p.out.inv).mono ?_;rintro e V ⟨rfl,b,g⟩;have KM:=hid (p.out.moved h.out b g);obtain⟨_,k,_⟩:=KM.out.kcells;clear b g)
  | (go_at_call 143;refine(qr h.out _ i j d t bo KM.out k).mono ?_;rintro e X ⟨rfl,l⟩;have z:=hid l))
 exact u.out _ _ _ ⟨U,U,U,U,U⟩ (z.out.cyc _)
theorem xe(R:QS q)(z:d<8)(B:e1<8)(b:2<=q.m.fuel x.s):lH q w 4 ⟨#[115,116]⟩ d e1 n v x (C.act q.m ⟨x.c,x.s,K.cyc 4⟩ 4 d e1 n v):=by
 intro bo kb aj f W a l;obtain⟨E,o1,o2,F,H,I,L,M,N,P,T⟩:=a.kcells;have o:=hid R;have t:=hid l;have p:=hid a;obtain⟨i,j⟩:=C.Cpu.r_bd a.ok e1;obtain⟨m0,m1⟩:=a.mem;have u:=a.lt;have k:=hid b;clear a l R b;conv=>arg 2;whnf
 go_wp2_with (first
  | (go_at_call 138;refine(znB o.out ((x.c.r d+n)%65536) _ (by omega) (by omega) i j _ x.s k.out p.out.inv).mono ?_;rintro e V ⟨rfl,g,h⟩;have y:=hid (p.out.moved o.out g h);clear g h))
 exact t.out _ _ _ ⟨U,U,U,U,U⟩ (y.out.cyc _)
theorem xh(R:QS q)(t:d<8)(F:e1<8):lH q w 5 ⟨#[108,100,98]⟩ d e1 n v x (C.act q.m ⟨x.c,x.s,K.cyc 5⟩ 5 d e1 n v):=by
 intro bo kb aj f W a o;obtain⟨H,o1,o2,I,L,M,N,P,T,V,X⟩:=a.kcells;have h:=hid R;have u:=hid o;have p:=hid a;obtain⟨i,y⟩:=R.byte x.s ((x.c.r e1+n)%65536);have j:(q.m.rd x.s ((x.c.r e1+n)%65536)).1<=65535:=by omega
 have z:IntKind.u16.wrap (q.m.rd x.s ((x.c.r e1+n)%65536)).1=(q.m.rd x.s ((x.c.r e1+n)%65536)).1:=by rw[eh];omega
 obtain⟨m0,m1⟩:=a.mem;have B:=a.lt;have eg:=R.eg;clear a o R;conv=>arg 2;whnf
 go_wp2_with (first
  | (go_at_call 143;refine(qr h.out _ i j d t bo KM.out k).mono ?_;rintro e Y ⟨rfl,l⟩;have E:=hid l)
  | (refine(h.out.get _ x.s ((x.c.r e1+n)%65536) (by omega) (by omega) p.out.inv).mono ?_;rintro e Z ⟨rfl,b,g⟩;have KM:=hid (p.out.moved h.out b g);obtain⟨_,k,_⟩:=KM.out.kcells;clear b g))
 exact u.out _ _ _ ⟨U,U,U,U,U⟩ (E.out.cyc _)
theorem xi(R:QS q)(E:d<8)(F:e1<8)(b:1<=q.m.fuel x.s):lH q w 6 ⟨#[115,116,98]⟩ d e1 n v x (C.act q.m ⟨x.c,x.s,K.cyc 6⟩ 6 d e1 n v):=by
 intro bo kb aj f W a k;obtain⟨H,o1,o2,I,L,M,N,P,T,V,X⟩:=a.kcells;have l:=hid R;have p:=hid k;have o:=hid a;obtain⟨i,t⟩:=C.Cpu.r_bd a.ok e1;have u:IntKind.u16.wrap ((x.c.r e1).tmod 256)=x.c.r e1%256:=by rw[aq i,eh];omega
 have y:IntKind.u8.wrap (x.c.r e1%256)=x.c.r e1%256:=by rw[fK];omega
 obtain⟨m0,m1⟩:=a.mem;have z:=a.lt;have j:=hid b;have ep:=R.ep;clear a k R b;conv=>arg 2;whnf
 go_wp2_with (first
  | (refine(l.out.put _ x.s ((x.c.r d+n)%65536) (x.c.r e1%256) (by omega) (by omega) (by omega) (by omega) j.out o.out.inv).mono ?_;rintro e Y ⟨rfl,g,h⟩;have B:=hid (o.out.moved l.out g h);clear g h))
 exact p.out _ _ _ ⟨U,U,U,U,U⟩ (B.out.cyc _)
theorem zx5(R:QS q)(H:d<8)(I:e1<8)(b:2<=q.m.fuel x.s)(j:0<=v/\v<=65535):lH q w 20 ⟨#[99,97,108,108]⟩ d e1 n v x (C.act q.m ⟨x.c,x.s,K.cyc 20⟩ 20 d e1 n v):=by
 intro bo kb aj f W a k;obtain⟨L,o1,o2,M,N,P,T,V,X,Y,Z⟩:=a.kcells;have l:=hid R;have o:=hid k;have r:=hid a;obtain⟨r8,_⟩:=a.cells;have g:=a.ok.2.2;have t:W.cell? ⟨w.heap.size+1+1+1,0,none⟩=some (qq w.heap.size (w.heap.size+1)):=Lib.cell_of_heap a.p 0;have u:IntKind.u16.wrap v=v:=by rw[eh];omega
 have y:=a.lt;have i:=hid b;clear a k R b;conv=>arg 2;whnf
 go_wp2_with (first
  | (go_at_call 137;refine(zd8 l.out x.c.PC g.1 g.2 i.out r.out).mono ?_;rintro e w5 ⟨rfl,h⟩;have KM:=hid h;obtain⟨_,_,_,_,z,_,_,_,B,_⟩:=KM.out.kcells;obtain⟨g8,_⟩:=KM.out.cells;have E:=KM.out.fz;have z5:=KM.out.lt;have F:=hid (KM.out.putPC l.out v j.1 j.2);clear h))
 exact o.out _ _ _ ⟨U,U,U,U,U⟩ (F.out.cyc _)
theorem zx6(R:QS q)(p:d<8)(t:e1<8):lH q w 21 ⟨#[114,101,116]⟩ d e1 n v x (C.act q.m ⟨x.c,x.s,K.cyc 21⟩ 21 d e1 n v):=by
 intro bo kb aj f W b h;obtain⟨u,o1,o2,y,z,B,E,F,H,I,L⟩:=b.kcells;have g:=hid R;have i:=hid h;have j:=hid b;have k:=b.lt;clear b h R;conv=>arg 2;whnf
 go_wp2_with (first
  | (go_at_call 139;refine(zfc g.out j.out).mono ?_;rintro e M ⟨rfl,a⟩;have KM:=hid a;obtain⟨N,_⟩:=KM.out.cells;have l:=KM.out.fz;have z5:=KM.out.lt;have o:=hid (KM.out.putPC g.out (C.popV q.m x) (g.out.word x.s (x.c.r 7)).1 (g.out.word x.s (x.c.r 7)).2);clear a))
 exact i.out _ _ _ ⟨U,U,U,U,U⟩ (o.out.cyc _)
theorem zx7(R:QS q)(B:d<8)(E:e1<8)(b:2<=q.m.fuel x.s):lH q w 22 ⟨#[112,117,115,104]⟩ d e1 n v x (C.act q.m ⟨x.c,x.s,K.cyc 22⟩ 22 d e1 n v):=by
 intro bo kb aj f W a k;obtain⟨F,o1,o2,H,I,L,M,N,P,T,V⟩:=a.kcells;have l:=hid R;have o:=hid k;have t:=hid a;obtain⟨h,i⟩:=C.Cpu.r_bd a.ok e1;have u:W.cell? ⟨w.heap.size+1+1+1,0,none⟩=some (qq w.heap.size (w.heap.size+1)):=Lib.cell_of_heap a.p 0;have y:=a.lt;have j:=hid b;clear a k R b;conv=>arg 2;whnf
 go_wp2_with (first
  | (go_at_call 137;refine(zd8 l.out (x.c.r e1) h i j.out t.out).mono ?_;rintro e X ⟨rfl,g⟩;have z:=hid g;clear g))
 exact o.out _ _ _ ⟨U,U,U,U,U⟩ (z.out.cyc _)
theorem zx8(R:QS q)(k:d<8)(u:e1<8):lH q w 23 ⟨#[112,111,112]⟩ d e1 n v x (C.act q.m ⟨x.c,x.s,K.cyc 23⟩ 23 d e1 n v):=by
 intro bo kb aj f W b j;obtain⟨y,o1,o2,z,B,E,F,H,I,L,M⟩:=b.kcells;have g:=hid R;have l:=hid j;have o:=hid b;have p:=b.lt;clear b j R;conv=>arg 2;whnf
 go_wp2_with (first
  | (go_at_call 139;refine(zfc g.out o.out).mono ?_;rintro e N ⟨rfl,a⟩;have KM:=hid a;obtain⟨_,h,_⟩:=KM.out.kcells;clear a)
  | (go_at_call 143;refine(qr g.out (C.popV q.m x) (g.out.word x.s (x.c.r 7)).1 (g.out.word x.s (x.c.r 7)).2 d k bo KM.out h).mono ?_;rintro e P ⟨rfl,i⟩;have t:=hid i))
 exact l.out _ _ _ ⟨U,U,U,U,U⟩ (t.out.cyc _)
theorem zx9(R:QS q)(r:d<8)(t:e1<8)(a:4<=q.m.fuel x.s):lH q w 31 ⟨#[116,114,97,112]⟩ d e1 n v x (C.act q.m ⟨x.c,x.s,K.cyc 31⟩ 31 d e1 n v):=by
 intro bo kb aj f W g i;obtain⟨u,o1,o2,y,z,B,E,F,H,I,L⟩:=g.kcells;have j:=hid R;have k:=hid i;have l:=hid g;have o:=g.lt;have h:=hid a;clear g i R a;conv=>arg 2;whnf
 go_wp2_with (first
  | (go_at_call 140;refine(zhh j.out 4 (by decide) (by decide) h.out l.out).mono ?_;rintro e M ⟨rfl,b⟩;have p:=hid b;clear b))
 exact k.out _ _ _ ⟨U,U,U,U,U⟩ (p.out.cyc _)
end
end Go.Proofs.YthghjlinhokimaaGreatDoor
