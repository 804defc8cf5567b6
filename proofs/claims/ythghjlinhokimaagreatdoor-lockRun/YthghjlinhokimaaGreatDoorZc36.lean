/-
  Parts of a proof, joined.
-/
import Derived.Test.YthghjlinhokimaaGreatDoorZcA
import Derived.Test.YthghjlinhokimaaGreatDoorZc34
set_option linter.all false
set_option maxRecDepth 100000
set_option maxHeartbeats 6400000
namespace Go.Proofs.YthghjlinhokimaaGreatDoor
open Go.ChangeShapes Go.WideShapes Go.ChangeAt Go.RowKit Go.Proofs.Tryz
theorem sK:Tryz.prog.underlying 239=some (.map 9 4):=by kernel_rfl
abbrev jl(x:C.St Bst):List (ByteArray × Bool):=[(⟨#[106,109,112]⟩,true),(⟨#[106,122]⟩,x.c.Z),(⟨#[106,110,122]⟩,(!x.c.Z)),(⟨#[106,110]⟩,x.c.N),(⟨#[106,99]⟩,x.c.C)]
section
variable {q : Qe} {w : World} {x : C.St Bst} {d e1 : Nat} {n v : Int}
theorem mT(R:QS q)(k:Nat)(nm:ByteArray)(E:K.name k=nm)(b:Bool)(hv:0<=v/\v<=65535)(hcy:IntKind.i64.wrap (K.cyc k+1)=K.cyc k+1)(hf:((jl x).find? (λp=>p.1 == nm)).map (·.2)=some b)(hn:nm=⟨#[106,109,112]⟩ \/ nm=⟨#[106,122]⟩ \/ nm=⟨#[106,110,122]⟩ \/ nm=⟨#[106,110]⟩ \/ nm=⟨#[106,99]⟩):lH q w k nm d e1 n v x (if b then C.jump ⟨x.c,x.s,K.cyc k⟩ v else ⟨x.c,x.s,K.cyc k⟩):=by
 intro bo kb aj f W hK hN;obtain⟨o0,o1,o2,o3,o4,k0,k1,k2,zo,zk,l⟩:=hK.kcells;obtain⟨m,o,a,e,r12,r13,r14⟩:=hK.cells;have HNM:=hid E;clear E;have LK:=hid (λ(w':World) (h:nh w' W.heap.size (jl x))=>ztY sK underlying9 h nm b hf);have hvw:IntKind.u16.wrap v=v:=by rw[eh];omega
 have hmm:=@iN prog;have g:=hid R;have HN:=hid hN;have i:=hid hK;clear hK hN R hf r12 r13 r14;rcases hn with rfl|rfl|rfl|rfl|rfl
 all_goals cases b
 all_goals
  conv=>arg 2;whnf
  go_wp2_with (first
   | (refine tV _ U _ (.const (.string ⟨#[106,109,112]⟩)) _ 239 U 9 4 sK underlying9 W.heap.size [] U (zrv W) ⟨#[106,109,112]⟩ true U U (by rfl) ?_;intro wj1 F H;have HM1:=hid F;have r:Hid (Below W.heap.size W wj1):=((stA (J W) (.map #[] 0)).grown H (stA (J W) (.map #[] 0)).size (λj t=>bA (aH t)));clear F H l m o a e;obtain⟨m,o,a,e,_⟩:=(i.out.kept g.out r.out).cells;have l:=(i.out.kept g.out r.out).lt)
   | (refine tV _ U _ (.const (.string ⟨#[106,122]⟩)) _ 239 U 9 4 sK underlying9 W.heap.size [(⟨#[106,109,112]⟩,true)] U HM1.out ⟨#[106,122]⟩ x.c.Z U U (by rfl) ?_;intro wj2 I L;have HM2:=hid I;have u:Hid (Below W.heap.size W wj2):=(r.out.grown L r.out.size (λj t=>bA (aH t)));clear I L l m o a e;obtain⟨m,o,a,e,_⟩:=(i.out.kept g.out u.out).cells;have l:=(i.out.kept g.out u.out).lt)
   | (refine tV _ U _ (.const (.string ⟨#[106,110,122]⟩)) _ 239 U 9 4 sK underlying9 W.heap.size [(⟨#[106,109,112]⟩,true),(⟨#[106,122]⟩,x.c.Z)] U HM2.out ⟨#[106,110,122]⟩ (!x.c.Z) U U (by rfl) ?_;intro wj3 M P;have HM3:=hid M;have y:Hid (Below W.heap.size W wj3):=(u.out.grown P u.out.size (λj t=>bA (aH t)));clear M P l m o a e;obtain⟨m,o,a,e,_⟩:=(i.out.kept g.out y.out).cells;have l:=(i.out.kept g.out y.out).lt)
   | (refine tV _ U _ (.const (.string ⟨#[106,110]⟩)) _ 239 U 9 4 sK underlying9 W.heap.size [(⟨#[106,109,112]⟩,true),(⟨#[106,122]⟩,x.c.Z),(⟨#[106,110,122]⟩,(!x.c.Z))] U HM3.out ⟨#[106,110]⟩ x.c.N U U (by rfl) ?_;intro wj4 T V;have HM4:=hid T;have z:Hid (Below W.heap.size W wj4):=(y.out.grown V y.out.size (λj t=>bA (aH t)));clear T V l m o a e;obtain⟨m,o,a,e,_⟩:=(i.out.kept g.out z.out).cells;have l:=(i.out.kept g.out z.out).lt)
   | (refine tV _ U _ (.const (.string ⟨#[106,99]⟩)) _ 239 U 9 4 sK underlying9 W.heap.size [(⟨#[106,109,112]⟩,true),(⟨#[106,122]⟩,x.c.Z),(⟨#[106,110,122]⟩,(!x.c.Z)),(⟨#[106,110]⟩,x.c.N)] U HM4.out ⟨#[106,99]⟩ x.c.C U U (by rfl) ?_;intro X Y hg5;have HM5:=hid Y;have B:Hid (Below W.heap.size W X):=(z.out.grown hg5 z.out.size (λj t=>bA (aH t)));clear Y hg5 l m o a e;obtain⟨m,o,a,e,_⟩:=(i.out.kept g.out B.out).cells;have l:=(i.out.kept g.out B.out).lt;have H5:=hid (i.out.kept g.out B.out);clear o0 o1 o2 o3 o4 k0 k1 k2 zo zk;obtain⟨o0,o1,o2,o3,o4,k0,k1,k2,zo,zk,_⟩:=H5.out.kcells;rw[HNM.out] at k0;have fp5:=H5.out.fz;have lk:=LK.out X HM5.out;have HJ:=hid (H5.out.putPC g.out v hv.1 hv.2)))
  first
   | exact HN.out _ _ _ ⟨U,U,U,U,U⟩ (HJ.out.cyc _)
   | exact HN.out _ _ _ ⟨U,U,U,U,U⟩ (H5.out.cyc _)
theorem zyc(R:QS q):lH q w 26 ⟨#[114,116,105]⟩ d e1 n v x (C.act q.m ⟨x.c,x.s,K.cyc 26⟩ 26 d e1 n v):=by
 intro bo kb aj f W h i;obtain⟨b,l⟩:0<=C.popV q.m x/\C.popV q.m x<=65535:=R.word x.s (x.c.r 7);have o:=h.lt;have g:=hid R;have p:=hid i;have t:=hid h;clear h i R;have u:IntKind.u16.wrap ((C.popV q.m x).tmod 2)=C.popV q.m x%2:=by rw[aq b,eh];omega
 have y:IntKind.u16.wrap ((C.popV q.m x).tdiv 2)=C.popV q.m x/2:=by rw[aD b,eh];omega
 have z:IntKind.u16.wrap ((C.popV q.m x/2).tmod 2)=C.popV q.m x/2%2:=by rw[aq (by omega),eh];omega
 have B:IntKind.u16.wrap ((C.popV q.m x).tdiv 4)=C.popV q.m x/4:=by rw[aD b,eh];omega
 have E:IntKind.u16.wrap ((C.popV q.m x/4).tmod 2)=C.popV q.m x/4%2:=by rw[aq (by omega),eh];omega
 have F:IntKind.u16.wrap ((C.popV q.m x).tdiv 8)=C.popV q.m x/8:=by rw[aD b,eh];omega
 have H:IntKind.u16.wrap ((C.popV q.m x/8).tmod 2)=C.popV q.m x/8%2:=by rw[aq (by omega),eh];omega
 have j:IntKind.u16.wrap ((C.popV q.m x).tdiv 16)=C.popV q.m x/16:=by rw[aD b,eh];omega
 have k:IntKind.u16.wrap ((C.popV q.m x/16).tmod 2)=C.popV q.m x/16%2:=by rw[aq (by omega),eh];omega
 conv=>arg 2;whnf
 go_wp2_with (first
  | (have I:=KM;clear I;go_at_call 139;refine(zfc g.out KM.out).mono ?_;rintro e Z ⟨rfl,a⟩;have L:=hid a;obtain⟨g8,g9,M,N,P,T,V⟩:=a.cells;have X:=a.fz;have z6:=a.lt;clear a;have Y:=hid ((((((L.out.putPC g.out (C.popV q.m (C.pop q.m x)) (g.out.word (C.pop q.m x).s ((C.pop q.m x).c.r 7)).1 (g.out.word (C.pop q.m x).s ((C.pop q.m x).c.r 7)).2).putZ g.out (decide (C.popV q.m x%2=1))).putN g.out (decide (C.popV q.m x/2%2=1))).putC g.out (decide (C.popV q.m x/4%2=1))).putV g.out (decide (C.popV q.m x/8%2=1))).putMay g.out (decide (C.popV q.m x/16%2=1))))
  | (go_at_call 139;refine(zfc g.out t.out).mono ?_;rintro e w5 ⟨rfl,a⟩;have KM:=hid a;have z5:=a.lt;clear a))
 exact p.out _ _ _ ⟨U,U,U,U,U⟩ (Y.out.cyc _)
end
end Go.Proofs.YthghjlinhokimaaGreatDoor
